/-
  Which branches are taken: contracts of Taken, of the program and of the reference.
-/
import Derived.Test.YtfeohadlblpmcaaAluC
namespace Go.Proofs.Ytfeohadlblpmcaa
open Go.RowKit
set_option linter.unusedVariables false
def takenV (op a b : Int) : Bool :=
  if op = 5 then a == b else if op = 6 then a != b else if op = 7 then decide (wrap64 a < wrap64 b) else if op = 8 then !(decide (wrap64 a < wrap64 b))
  else if op = 9 then decide (a < b) else !(decide (a < b))
def takenOps : List Int := [5, 6, 7, 8, 9, 10]
theorem ret_two {a b c : Bool} (h : a = b) : Ending.returned (.tuple #[.bool a, .bool c]) = .returned (.tuple #[.bool b, .bool c]) := by rw [h]
theorem le_not (x y : Int) : decide (y ≤ x) = !(decide (x < y)) := by
  by_cases h : x < y
  · rw [decide_eq_true h, decide_eq_false (by omega)]; rfl
  · rw [decide_eq_false h, decide_eq_true (by omega)]; rfl
set_option maxHeartbeats 1000000 in
theorem taken_yes (op a b : Int) (w : World) (hop : op ∈ takenOps) :
    Calls Try.prog 14 #[.int .i64 op, .int .u64 a, .int .u64 b] w fun e w' => e = .returned (.tuple #[.bool (takenV op a b), .bool true]) ∧ w = w' := by
  simp only [takenOps, List.mem_cons, List.not_mem_nil, or_false] at hop
  rcases hop with rfl | rfl | rfl | rfl | rfl | rfl
  · go_enter Try.func14, Try.ntmps14
    go_wp2
    go_ret2
    exact ⟨rfl, rfl⟩
  · go_enter Try.func14, Try.ntmps14
    go_wp2
    go_ret2
    exact ⟨rfl, rfl⟩
  · go_enter Try.func14, Try.ntmps14
    go_wp2
    go_ret2
    exact ⟨rfl, rfl⟩
  · go_enter Try.func14, Try.ntmps14
    go_wp2
    go_ret2
    exact ⟨ret_two (le_not _ _), rfl⟩
  · go_enter Try.func14, Try.ntmps14
    go_wp2
    go_ret2
    exact ⟨rfl, rfl⟩
  · go_enter Try.func14, Try.ntmps14
    go_wp2
    go_ret2
    exact ⟨ret_two (le_not _ _), rfl⟩
set_option maxHeartbeats 1000000 in
theorem taken_no (op a b : Int) (w : World) (hop : op ∉ takenOps) :
    Calls Try.prog 14 #[.int .i64 op, .int .u64 a, .int .u64 b] w fun e w' => e = .returned (.tuple #[.bool false, .bool false]) ∧ w = w' := by
  simp only [takenOps, List.mem_cons, List.not_mem_nil, or_false, not_or] at hop
  obtain ⟨h1, h2, h3, h4, h5, h6⟩ := hop
  replace h1 := nin h1; replace h2 := nin h2; replace h3 := nin h3; replace h4 := nin h4; replace h5 := nin h5; replace h6 := nin h6
  go_enter Try.func14, Try.ntmps14
  go_wp2
  go_ret2
  exact ⟨rfl, rfl⟩
set_option maxHeartbeats 1000000 in
theorem refTaken_yes (op a b : Int) (w : World) (hop : op ∈ takenOps) (ha0 : 0 ≤ a) (ha : a < 18446744073709551616) (hb0 : 0 ≤ b) (hb : b < 18446744073709551616) :
    Calls Try.prog 15 #[.int .i64 op, .int .u64 a, .int .u64 b] w fun e w' => e = .returned (.tuple #[.bool (takenV op a b), .bool true]) ∧ w = w' := by
  simp only [takenOps, List.mem_cons, List.not_mem_nil, or_false] at hop
  rcases hop with rfl | rfl | rfl | rfl | rfl | rfl
  · go_enter Try.func15, Try.ntmps15
    go_wp2
    go_ret2
    exact ⟨rfl, rfl⟩
  · go_enter Try.func15, Try.ntmps15
    go_wp2
    go_ret2
    exact ⟨rfl, rfl⟩
  · go_enter Try.func15, Try.ntmps15
    go_wp2_with fail
    refine (less_any _ _ _ ha0 ha hb0 hb).mono ?_
    rintro e w' ⟨rfl, rfl⟩
    go_wp2
    go_ret2
    exact ⟨rfl, rfl⟩
  · go_enter Try.func15, Try.ntmps15
    go_wp2_with fail
    refine (less_any _ _ _ ha0 ha hb0 hb).mono ?_
    rintro e w' ⟨rfl, rfl⟩
    go_wp2
    go_ret2
    exact ⟨rfl, rfl⟩
  · go_enter Try.func15, Try.ntmps15
    go_wp2
    go_ret2
    exact ⟨rfl, rfl⟩
  · go_enter Try.func15, Try.ntmps15
    go_wp2
    go_ret2
    exact ⟨rfl, rfl⟩
set_option maxHeartbeats 1000000 in
theorem refTaken_no (op a b : Int) (w : World) (hop : op ∉ takenOps) :
    Calls Try.prog 15 #[.int .i64 op, .int .u64 a, .int .u64 b] w fun e w' => e = .returned (.tuple #[.bool false, .bool false]) ∧ w = w' := by
  simp only [takenOps, List.mem_cons, List.not_mem_nil, or_false, not_or] at hop
  obtain ⟨h1, h2, h3, h4, h5, h6⟩ := hop
  replace h1 := nin h1; replace h2 := nin h2; replace h3 := nin h3; replace h4 := nin h4; replace h5 := nin h5; replace h6 := nin h6
  go_enter Try.func15, Try.ntmps15
  go_wp2
  go_ret2
  exact ⟨rfl, rfl⟩
end Go.Proofs.Ytfeohadlblpmcaa
