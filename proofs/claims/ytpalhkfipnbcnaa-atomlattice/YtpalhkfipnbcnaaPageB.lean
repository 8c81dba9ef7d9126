/-
  Spans: below, within, empty, first, last, wide.
-/
import Derived.Test.YtpalhkfipnbcnaaPageA
import Derived.Deep.QuietTactic
import Derived.BigQuiet
import Derived.Deep.RegionHeld3
set_option linter.unusedVariables false
set_option linter.unusedSimpArgs false
namespace Go.Proofs.Ytpalhkfipnbcnaa
open Go.RowKit
set_option maxRecDepth 100000

theorem below_far (addr n : Int) (w : World) (h : 274877906944 ≤ addr) : Calls Try.prog 57 #[.int .u64 addr, .int .i64 n] w fun e w' => e = .returned (.int .i64 0) ∧ w = w' := by
  go_enter Try.func57, Try.ntmps57
  go_wp2
  go_ret
  exact ⟨rfl, rfl⟩
theorem below_le (addr n : Int) (w : World) (h0 : 0 ≤ addr) (h : addr < 274877906944) (hn0 : 0 ≤ n) (hn : n ≤ 100000000) (h1 : n ≤ 274877906944 - addr) : Calls Try.prog 57 #[.int .u64 addr, .int .i64 n] w fun e w' => e = .returned (.int .i64 n) ∧ w = w' := by
  go_enter Try.func57, Try.ntmps57
  go_wp2
  go_ret
  exact ⟨rfl, rfl⟩
theorem below_gt (addr n : Int) (w : World) (h0 : 0 ≤ addr) (h : addr < 274877906944) (hn0 : 0 ≤ n) (hn : n ≤ 100000000) (h1 : 274877906944 - addr < n) : Calls Try.prog 57 #[.int .u64 addr, .int .i64 n] w fun e w' => e = .returned (.int .i64 (274877906944 - addr)) ∧ w = w' := by
  go_enter Try.func57, Try.ntmps57
  go_wp2
  go_ret
  exact ⟨rfl, rfl⟩
/-- How many of n places there are. -/
def room (addr n : Nat) : Nat := min n (274877906944 - addr)
theorem below_any (addr n : Nat) (w : World) (hn : n ≤ 100000000) : Calls Try.prog 57 #[.int .u64 (addr : Int), .int .i64 (n : Int)] w fun e w' => e = .returned (.int .i64 (room addr n : Int)) ∧ w = w' := by
  unfold room
  by_cases h : addr < 274877906944
  · by_cases hle : n ≤ 274877906944 - addr
    · rw [Nat.min_eq_left hle]
      exact below_le _ _ w (by omega) (by omega) (by omega) (by omega) (by omega)
    · rw [Nat.min_eq_right (by omega)]
      have e : ((274877906944 - addr : Nat) : Int) = 274877906944 - (addr : Int) := by omega
      rw [e]
      exact below_gt _ _ w (by omega) (by omega) (by omega) (by omega) (by omega)
  · rw [show 274877906944 - addr = 0 by omega, Nat.min_zero]
    exact below_far _ _ w (by omega)

def span (a b : Int) : Value := .agg #[.int .u64 a, .int .u64 b]
theorem pwithin_in (a b : Int) (w : World) (h : b ≤ 274877906944) : Calls Try.prog 83 #[.int .u64 a, .int .u64 b] w fun e w' => e = .returned (span a b) ∧ Bl w w' := by
  unfold span
  go_enter Try.func83, Try.ntmps83
  go_wp2
  refine bodyPost_ret (results_cell_row rfl _ _ w.heap.size 122 _ (0, 0) _ rfl (heap_alloc_new w _) Try.underlying122 rfl (by kernel_rfl)) rfl ⟨rfl, ?_⟩
  exact Bl.new _ _
theorem pwithin_out (a b : Int) (w : World) (h : 274877906944 < b) : Calls Try.prog 83 #[.int .u64 a, .int .u64 b] w fun e w' => e = .returned (span a 274877906944) ∧ Bl w w' := by
  unfold span
  go_enter Try.func83, Try.ntmps83
  go_wp2
  refine bodyPost_ret (results_cell_row rfl _ _ w.heap.size 122 _ (0, 0) _ rfl (heap_alloc_new w _) Try.underlying122 rfl (by kernel_rfl)) rfl ⟨rfl, ?_⟩
  exact Bl.new _ _
theorem empty_any (a b : Int) (w : World) : Calls Try.prog 84 #[span a b] w fun e w' => e = .returned (.bool (decide (b ≤ a))) ∧ Bl w w' := by
  unfold span
  go_enter Try.func84, Try.ntmps84
  go_wp2
  go_ret
  exact ⟨rfl, Bl.new _ _⟩
theorem first_i (a b : Int) (w : World) (h0 : 0 ≤ a) (h1 : a ≤ 18446744073709551615) : Calls Try.prog 88 #[span a b] w fun e w' => e = .returned (.int .u64 (a / 4096)) ∧ Bl w w' := by
  unfold span
  go_enter Try.func88, Try.ntmps88
  go_wp2
  go_ret
  exact ⟨rfl, Bl.new _ _⟩
theorem last_i (a b : Int) (w : World) (hb : 1 ≤ b) (hc : b ≤ 274877906944) : Calls Try.prog 89 #[span a b] w fun e w' => e = .returned (.int .u64 ((b - 1) / 4096)) ∧ Bl w w' := by
  unfold span
  go_enter Try.func89, Try.ntmps89
  go_wp2
  go_ret
  exact ⟨rfl, Bl.new _ _⟩
theorem keepS {w w9 w8 : World} {x : Value} {y : Value} {b : Nat} (h : w8.cell? ⟨b, 0, none⟩ = some x ∧ w8.cell? ⟨b, 1, none⟩ = some y ∧ Bl w w8) (k : Bl w8 w9) : w9.cell? ⟨b, 0, none⟩ = some x ∧ w9.cell? ⟨b, 1, none⟩ = some y ∧ Bl w w9 := by
  obtain ⟨h1, h2, h3⟩ := h
  exact ⟨by rw [k.cell (block_lt_of_cell h1)]; exact h1, by rw [k.cell (block_lt_of_cell h2)]; exact h2, h3.trans k⟩
set_option maxHeartbeats 1000000 in
theorem wide_i (a b : Int) (w : World) (ha : 0 ≤ a) (hab : a < b) (hc : b ≤ 274877906944) : Calls Try.prog 86 #[span a b] w fun e w' => e = .returned (.bool (decide (4096 ≤ (b - 1) / 4096 - a / 4096))) ∧ Bl w w' := by
  have cl := fun W => last_i a b W (by omega) hc
  have cf := fun W => first_i a b W ha (by omega)
  have CL := Lib.hid cl; clear cl
  have CF := Lib.hid cf; clear cf
  have k0 : Bl w (w.alloc (.cells #[.int .u64 a, .int .u64 b] 122)) := Bl.new _ _
  have K0 := Lib.hid k0; clear k0
  have c0 : (w.alloc (.cells #[.int .u64 a, .int .u64 b] 122)).cell? ⟨w.heap.size, 0, none⟩ = some (.int .u64 a) := by rw [cell_of_row _ _ _ _ _ _ (heap_alloc_new w _)]; rfl
  have c1 : (w.alloc (.cells #[.int .u64 a, .int .u64 b] 122)).cell? ⟨w.heap.size, 1, none⟩ = some (.int .u64 b) := by rw [cell_of_row _ _ _ _ _ _ (heap_alloc_new w _)]; rfl
  have C0 := Lib.hid c0; clear c0
  have C1 := Lib.hid c1; clear c1
  have hle : a / 4096 ≤ (b - 1) / 4096 := by omega
  have hq0 : 0 ≤ a / 4096 := by omega
  have hq1 : (b - 1) / 4096 ≤ 67108864 := by omega
  unfold span at *
  generalize (b - 1) / 4096 = q1 at *
  generalize a / 4096 = q0 at *
  go_enter Try.func86, Try.ntmps86
  go_wp2
  generalize w.alloc (.cells #[.int .u64 a, .int .u64 b] 122) = W at *
  go_region_held3 (fun w' => w'.cell? ⟨w.heap.size, 0, none⟩ = some (.int .u64 a) ∧ w'.cell? ⟨w.heap.size, 1, none⟩ = some (.int .u64 b) ∧ Bl w w') (first | assumption | exact ⟨C0.out, C1.out, K0.out⟩ | exact ⟨C0.out, C1.out, K0.out.drew⟩) (first | (go_at_call 89; refine (CL.out _).mono ?_; rintro e w9 ⟨rfl, k9⟩; have hkk := keepS (by assumption) k9) | (go_at_call 88; refine (CF.out _).mono ?_; rintro e w9 ⟨rfl, k9⟩; have hkk := keepS (by assumption) k9))
  all_goals go_wp2
  all_goals go_ret
  all_goals refine ⟨?_, hkk.2.2⟩
  all_goals rw [IntWalk.u64_in (q1 - q0) (by omega)]
  all_goals rfl
end Go.Proofs.Ytpalhkfipnbcnaa
