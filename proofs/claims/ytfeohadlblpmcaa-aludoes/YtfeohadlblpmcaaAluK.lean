/-
  Which operators the program knows.
-/
import Derived.Test.YtfeohadlblpmcaaAluB
namespace Go.Proofs.Ytfeohadlblpmcaa
open Go.RowKit
set_option maxHeartbeats 1000000 in
theorem known_yes (op : Int) (w : World) (hop : op ∈ doOps) :
    Calls Try.prog 13 #[.int .i64 op] w fun e w' => e = .returned (.bool true) ∧ w = w' := by
  have c := fun w => do_yes op 0 0 w hop (by decide) (by decide) (by decide) (by decide)
  clear hop
  go_enter Try.func13, Try.ntmps13
  go_wp2_with fail
  refine (c _).mono ?_
  rintro e w' ⟨rfl, rfl⟩
  clear c
  go_wp2
  go_ret
  exact ⟨rfl, rfl⟩
set_option maxHeartbeats 1000000 in
theorem known_no (op : Int) (w : World) (hop : op ∉ doOps) :
    Calls Try.prog 13 #[.int .i64 op] w fun e w' => e = .returned (.bool false) ∧ w = w' := by
  have c := fun w => do_no op 0 0 w hop
  clear hop
  go_enter Try.func13, Try.ntmps13
  go_wp2_with fail
  refine (c _).mono ?_
  rintro e w' ⟨rfl, rfl⟩
  clear c
  go_wp2
  go_ret
  exact ⟨rfl, rfl⟩
end Go.Proofs.Ytfeohadlblpmcaa
