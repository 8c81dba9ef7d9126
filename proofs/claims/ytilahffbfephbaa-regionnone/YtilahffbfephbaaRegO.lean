/-
  A list that is none.
-/
import Derived.Test.YtilahffbfephbaaRegI
set_option linter.unusedVariables false
set_option linter.unusedSimpArgs false
namespace Go.Proofs.Ytilahffbfephbaa
open Go.RowKit
set_option maxRecDepth 100000
def NilPost (w : World) (v : Value) (e : Ending) (w' : World) : Prop := e = .returned v ∧ Bl w w'
theorem at_nil (w : World) (x : Int) : Calls Try.prog 25 #[.pointer none, .int .u64 x] w (NilPost w (.tuple #[rgV ⟨0, 0, 0⟩, .bool false])) := by
  go_enter Try.func25, Try.ntmps25
  go_wp2
  have hz : ((w.alloc (.cells #[.int .u64 x] 30)).alloc (.cells #[.int .u64 0, .int .u64 0, .int .i64 0] 51)).heap[w.heap.size + 1]? = some (.cells #[.int .u64 0, .int .u64 0, .int .i64 0] 51 (0, 0)) := by
    have := heap_alloc_new (w.alloc (.cells #[.int .u64 x] 30)) (.cells #[.int .u64 0, .int .u64 0, .int .i64 0] 51)
    rwa [show (w.alloc (.cells #[.int .u64 x] 30)).heap.size = w.heap.size + 1 by simp] at this
  refine bodyPost_ret (results_row_tmp rfl _ _ (w.heap.size + 1) 51 _ (0, 0) _ rfl hz Try.underlying51 rfl (by kernel_rfl)) rfl ?_
  exact ⟨rfl, (Bl.new w _).alloc _⟩
theorem first_nil (w : World) (s t p : Int) : Calls Try.prog 26 #[.pointer none, .int .u64 s, .int .u64 t, .int .i64 p] w (NilPost w (.tuple #[.int .u64 0, .bool false])) := by
  go_enter Try.func26, Try.ntmps26
  go_wp2
  go_ret2
  exact ⟨rfl, Bl.refl _⟩
theorem room_nil (w : World) (s t : Int) : Calls Try.prog 30 #[.pointer none, .int .u64 s, .int .u64 t] w (NilPost w (.tuple #[.int .u64 0, .bool false])) := by
  go_enter Try.func30, Try.ntmps30
  go_wp2
  go_ret2
  exact ⟨rfl, Bl.refl _⟩
theorem map_nil (w : World) (s t p : Int) : Calls Try.prog 14 #[.pointer none, .int .u64 s, .int .u64 t, .int .i64 p] w (NilPost w (.int .i64 22)) := by
  go_enter Try.func14, Try.ntmps14
  go_wp2
  go_ret
  exact ⟨rfl, Bl.refl _⟩
theorem unmap_nil (w : World) (s t : Int) : Calls Try.prog 16 #[.pointer none, .int .u64 s, .int .u64 t] w (NilPost w (.int .i64 22)) := by
  go_enter Try.func16, Try.ntmps16
  go_wp2
  go_ret
  exact ⟨rfl, Bl.refl _⟩
theorem protect_nil (w : World) (s t p : Int) : Calls Try.prog 18 #[.pointer none, .int .u64 s, .int .u64 t, .int .i64 p] w (NilPost w (.int .i64 22)) := by
  go_enter Try.func18, Try.ntmps18
  go_wp2
  go_ret
  exact ⟨rfl, Bl.refl _⟩
theorem free_nil (w : World) (s t : Int) : Calls Try.prog 28 #[.pointer none, .int .u64 s, .int .u64 t] w (NilPost w (.bool false)) := by
  go_enter Try.func28, Try.ntmps28
  go_wp2
  go_ret
  exact ⟨rfl, Bl.new _ _⟩
theorem all_nil (w : World) : Calls Try.prog 21 #[.pointer none] w (NilPost w (.slice none 0 0)) := by
  go_enter Try.func21, Try.ntmps21
  go_wp2
  go_ret
  exact ⟨rfl, Bl.refl _⟩
theorem pages_nil (w : World) : Calls Try.prog 23 #[.pointer none] w (NilPost w (.int .i64 0)) := by
  go_enter Try.func23, Try.ntmps23
  go_wp2
  go_ret
  exact ⟨rfl, Bl.refl _⟩
theorem copy_nil (w : World) : Calls Try.prog 34 #[.pointer none] w (NilPost w (.pointer none)) := by
  go_enter Try.func34, Try.ntmps34
  go_wp2
  go_ret
  exact ⟨rfl, Bl.refl _⟩
end Go.Proofs.Ytilahffbfephbaa
