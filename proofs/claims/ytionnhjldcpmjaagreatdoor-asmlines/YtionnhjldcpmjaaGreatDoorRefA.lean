/-
  Contracts of the reference's small functions: bits of a word, a number with a sign, a place in a list.
-/
import Derived.Test.YtionnhjldcpmjaaGreatDoorPartsA
set_option linter.unusedVariables false
set_option linter.unusedSimpArgs false
namespace Go.Proofs.YtionnhjldcpmjaaGreatDoor
open Go.RowKit

theorem pc_step (s j k : Nat) : pc s (j + 1) k * 2 + s / 2 ^ j % 2 = pc s j (k + 1) := by
  unfold pc
  have e1 : s / 2 ^ (j + 1) = s / 2 ^ j / 2 := by rw [Nat.pow_succ, Nat.div_div_eq_div_mul]
  have e2 : (2 : Nat) ^ (k + 1) = 2 * 2 ^ k := by rw [Nat.pow_succ, Nat.mul_comm]
  rw [e1, e2, Nat.mod_mul]
  generalize s / 2 ^ j = t
  generalize t / 2 % 2 ^ k = u
  omega
theorem pc_zero (s j : Nat) : pc s j 0 = 0 := by unfold pc; simp [Nat.mod_one]

theorem F_add (p t : Nat) (hp : p < 4294967296) : wrap64 ((p : Int) * 2 + wrap64 ((t : Int).tmod 2)) = ((p * 2 + t % 2 : Nat) : Int) := by
  have e3 : ((t : Int)).tmod 2 = ((t % 2 : Nat) : Int) := by rw [Int.tmod_eq_emod_of_nonneg (by omega)]; simp
  rw [e3]
  unfold wrap64
  omega

set_option maxHeartbeats 1000000 in
theorem F_any (s hi lo : Nat) (w : World) (hs : s < 4294967296) (h1 : lo ≤ hi) (h2 : hi ≤ 31) :
    Calls Tryz.prog 30 #[.int .u32 s, .int .i64 hi, .int .i64 lo] w fun e w' => e = .returned (.int .i64 (pc s lo (hi + 1 - lo))) ∧ w = w' := by
  go_enter Tryz.func30, Tryz.ntmps30
  go_wp2
  go_loop [7, 8] (fun n i => ∃ k : Nat, k ≤ hi + 1 - lo ∧ i = .int .i64 ((hi : Int) - k) ∧ n = .int .i64 (pc s (hi + 1 - k) k)) (fun n i => (intOf i + 1).toNat)
  case atStart => exact ⟨0, by omega, by simp, by rw [pc_zero]; rfl⟩
  case round =>
    obtain ⟨k, hk, rfl, rfl⟩ := hrel
    by_cases hlt : k < hi + 1 - lo
    · obtain ⟨j, hj⟩ : ∃ j : Nat, j + k = hi := ⟨hi - k, by omega⟩
      have ej : (hi : Int) - (k : Int) = (j : Int) := by omega
      have ek : hi + 1 - k = j + 1 := by omega
      rw [ej, ek]
      have hb := pc_le s (j + 1) k hs
      have hst := Lib.hid (pc_step s j k)
      have HJ := Lib.hid hj
      have hj31 : (j : Int) ≤ 31 := by omega
      have hjlo : (lo : Int) ≤ (j : Int) := by omega
      have hdm : Hid ((s : Int) / 2 ^ j = ((s / 2 ^ j : Nat) : Int)) := Lib.hid (by simp)
      clear ej ek hj
      generalize pc s (j + 1) k = p at *
      go_wp2
      go_round
      case rel =>
        refine ⟨k + 1, by omega, ?_, ?_⟩
        · have := HJ.out; first | (congr 1; omega) | omega | (congr 1)
        · have e := HJ.out
          rw [show hi + 1 - (k + 1) = j by omega, ← hst.out]
          rw [hdm.out]
          rw [F_add p (s / 2 ^ j) hb]
      case measure => simp [intOf] <;> omega
    · obtain rfl : k = hi + 1 - lo := by omega
      have e1 : (hi : Int) - ((hi + 1 - lo : Nat) : Int) = (lo : Int) - 1 := by omega
      have e2 : hi + 1 - (hi + 1 - lo) = lo := by omega
      rw [e1, e2]
      clear e1 e2
      go_wp2
      go_ret
      exact ⟨rfl, rfl⟩

theorem low_half (n : Int) (b : Nat) (h1 : 1 ≤ b) (h0 : 0 ≤ n) (h2 : n < 2 ^ b) : low n b = if 2 ^ (b - 1) ≤ n then n - 2 * 2 ^ (b - 1) else n := by
  have hp := pow_half b h1
  have hq := pow_pos' (b - 1)
  split
  · exact low_unique n _ 1 b h1 (by omega) (by omega) (by omega)
  · exact low_unique n _ 0 b h1 (by omega) (by omega) (by omega)

set_option maxHeartbeats 1000000 in
theorem S_hi (n : Int) (b : Nat) (w : World) (h1 : 1 ≤ b) (h32 : b ≤ 32) (h0 : 0 ≤ n) (hn : n < 4294967296) (hge : 2 ^ (b - 1) ≤ n) :
    Calls Tryz.prog 31 #[.int .i64 n, .int .i64 b] w fun e w' => e = .returned (.int .i64 (n - 2 * 2 ^ (b - 1))) ∧ w = w' := by
  have HG := Lib.hid hge; clear hge
  go_enter Tryz.func31, Tryz.ntmps31
  go_wp2
  go_loop [5, 6] (fun x i => ∃ k : Nat, k ≤ b - 1 ∧ i = .int .i64 ((k : Int) + 1) ∧ x = .int .i64 (2 ^ k)) (fun x i => b - (intOf i).toNat)
  case atStart => exact ⟨0, by omega, rfl, rfl⟩
  case round =>
    obtain ⟨k, hk, rfl, rfl⟩ := hrel
    have hkb : (2 : Int) ^ k ≤ 2147483648 := by
      have := (low_mono (k + 1) 32 (by omega) (by omega)).1
      simpa using this
    have hkp := pow_pos' k
    by_cases hlt : k < b - 1
    · have hc : (k : Int) + 1 < (b : Int) := by omega
      have HP := Lib.hid (Int.pow_succ 2 k)
      generalize (2 : Int) ^ k = p at *
      go_wp2
      go_round
      case rel => exact ⟨k + 1, by omega, by first | rfl | (congr 1; omega) | (congr 1), by rw [HP.out]⟩
      case measure => simp [intOf] <;> omega
    · obtain rfl : k = b - 1 := by omega
      have hc : (b : Int) ≤ ((b - 1 : Nat) : Int) + 1 := by omega
      have hge := HG.out
      clear HG
      generalize hp : (2 : Int) ^ (b - 1) = p at *
      have HQ := Lib.hid hp; clear hp
      go_wp2
      go_ret
      exact ⟨ret_int (by rw [HQ.out]), rfl⟩

set_option maxHeartbeats 1000000 in
theorem S_lo (n : Int) (b : Nat) (w : World) (h1 : 1 ≤ b) (h32 : b ≤ 32) (h0 : 0 ≤ n) (hn : n < 4294967296) (hge : n < 2 ^ (b - 1)) :
    Calls Tryz.prog 31 #[.int .i64 n, .int .i64 b] w fun e w' => e = .returned (.int .i64 (n)) ∧ w = w' := by
  have HG := Lib.hid hge; clear hge
  go_enter Tryz.func31, Tryz.ntmps31
  go_wp2
  go_loop [5, 6] (fun x i => ∃ k : Nat, k ≤ b - 1 ∧ i = .int .i64 ((k : Int) + 1) ∧ x = .int .i64 (2 ^ k)) (fun x i => b - (intOf i).toNat)
  case atStart => exact ⟨0, by omega, rfl, rfl⟩
  case round =>
    obtain ⟨k, hk, rfl, rfl⟩ := hrel
    have hkb : (2 : Int) ^ k ≤ 2147483648 := by
      have := (low_mono (k + 1) 32 (by omega) (by omega)).1
      simpa using this
    have hkp := pow_pos' k
    by_cases hlt : k < b - 1
    · have hc : (k : Int) + 1 < (b : Int) := by omega
      have HP := Lib.hid (Int.pow_succ 2 k)
      generalize (2 : Int) ^ k = p at *
      go_wp2
      go_round
      case rel => exact ⟨k + 1, by omega, by first | rfl | (congr 1; omega) | (congr 1), by rw [HP.out]⟩
      case measure => simp [intOf] <;> omega
    · obtain rfl : k = b - 1 := by omega
      have hc : (b : Int) ≤ ((b - 1 : Nat) : Int) + 1 := by omega
      have hge := HG.out
      clear HG
      generalize (2 : Int) ^ (b - 1) = p at *
      go_wp2
      go_ret
      exact ⟨rfl, rfl⟩

theorem S_any (n : Int) (b : Nat) (w : World) (h1 : 1 ≤ b) (h32 : b ≤ 32) (h0 : 0 ≤ n) (h2 : n < 2 ^ b) :
    Calls Tryz.prog 31 #[.int .i64 n, .int .i64 b] w fun e w' => e = .returned (.int .i64 (low n b)) ∧ w = w' := by
  have hn : n < 4294967296 := by
    have := (low_mono (b + 1) 33 (by omega) (by omega)).1
    simp at this
    omega
  rw [low_half n b h1 h0 h2]
  by_cases h : 2 ^ (b - 1) ≤ n
  · rw [if_pos h]; exact S_hi n b w h1 h32 h0 hn h
  · rw [if_neg h]; exact S_lo n b w h1 h32 h0 hn (by omega)

set_option maxHeartbeats 1000000 in
theorem one_any (b : Nat) (zs : List Int) (len cap : Nat) (k : Nat) (w : World) (hlen : zs.length = len) (hl : len ≤ 100) (hc : ∀ i, i < len → w.cell? ⟨b, i, none⟩ = some (.int .i64 (zs.getD i 0))) :
    Calls Tryz.prog 32 #[.slice (some ⟨b, 0, none⟩) len cap, .int .i64 k] w fun e w' => e = .returned (.int .i64 (zs.getD k 0)) ∧ w = w' := by
  have HC := Lib.hid hc; clear hc
  by_cases hk : k < len
  · have h1 := HC.out k hk
    have h2 : (k : Int) < (len : Int) := by omega
    generalize zs.getD k 0 = o at *
    clear hlen
    go_enter Tryz.func32, Tryz.ntmps32
    go_wp2
    go_ret
    exact ⟨rfl, rfl⟩
  · have e : zs.getD k 0 = 0 := by simp [List.getD, List.getElem?_eq_none (show zs.length ≤ k by omega)]
    rw [e]
    have h2 : (len : Int) ≤ (k : Int) := by omega
    clear e hlen
    go_enter Tryz.func32, Tryz.ntmps32
    go_wp2
    go_ret
    exact ⟨rfl, rfl⟩
end Go.Proofs.YtionnhjldcpmjaaGreatDoor
