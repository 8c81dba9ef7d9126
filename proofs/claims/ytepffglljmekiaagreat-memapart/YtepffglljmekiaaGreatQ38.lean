/-
  The reference's space without pages: what it answers.
-/
import Derived.Test.YtepffglljmekiaaGreatQ37
set_option linter.unusedVariables false
set_option linter.unusedSimpArgs false
namespace Go.Proofs.YtepffglljmekiaaGreat
open Go.RowKit
set_option maxRecDepth 100000
/-- A space of the reference that has no pages and may have none. -/
structure RA (w : World) (rb : Nat) (b e : Int) : Prop where
  blk : w.heap[rb]? = some (.cells #[.slice none 0 0, .int .i64 0, .int .u64 b, .int .u64 e] 84 (0, 0))
  b0 : 0 ≤ b
  b1 : b ≤ 274877906944
  e0 : 0 ≤ e
  e1 : e ≤ 274877906944
theorem RA.bl {w w' : World} {rb : Nat} {b e : Int} (h : RA w rb b e) (k : Bl w w') : RA w' rb b e := ⟨k.at_ h.blk, h.b0, h.b1, h.e0, h.e1⟩
theorem RA.cells {w : World} {rb : Nat} {b e : Int} (h : RA w rb b e) : w.cell? ⟨rb, 0, none⟩ = some (.slice none 0 0) ∧ w.cell? ⟨rb, 1, none⟩ = some (.int .i64 0) ∧ w.cell? ⟨rb, 2, none⟩ = some (.int .u64 b) ∧ w.cell? ⟨rb, 3, none⟩ = some (.int .u64 e) := by
  have := h.blk
  refine ⟨?_, ?_, ?_, ?_⟩ <;> simp [World.cell?, this]
theorem RA.free {w : World} {rb : Nat} {b e : Int} (h : RA w rb b e) (i : Nat) : w.frozen? ⟨rb, i, none⟩ = false := by
  have := h.blk
  simp [World.frozen?, this]
theorem rnew_any (w : World) : Calls Tryz.prog 11 #[.int .i64 0] w fun e w' => e = .returned (addr0 w.heap.size) ∧ RA w' w.heap.size 0 0 ∧ Bl w w' := by
  go_enter Tryz.func11, Tryz.ntmps11
  go_wp2
  go_ret
  exact ⟨rfl, ⟨heap_alloc_new w _, by omega, by omega, by omega, by omega⟩, Bl.new _ _⟩
set_option maxHeartbeats 1000000 in
theorem rat_any {w : World} {rb : Nat} {b e : Int} (h : RA w rb b e) (no : Int) : Calls Tryz.prog 115 #[addr0 rb, .int .u64 no] w fun e w' => e = .returned (.tuple #[.int .i64 0, .bool false]) ∧ Bl w w' := by
  obtain ⟨c0, c1, c2, c3⟩ := h.cells
  clear h
  unfold addr0
  go_enter Tryz.func115, Tryz.ntmps115
  go_wp2_with fail
  refine wp_loop_rounds 1 ?_
  rw [rounds_succ]
  go_wp2_with fail
  go_quiet (fail)
  go_wp2_with fail
  go_ret2
  exact ⟨rfl, (Bl.refl _).drewN _⟩
theorem rprot_any {w : World} {rb : Nat} {b e : Int} (h : RA w rb b e) (a : Int) (h0 : 0 ≤ a) : Calls Tryz.prog 85 #[addr0 rb, .int .u64 a] w fun e w' => e = .returned (.int .i64 (-1)) ∧ Bl w w' := by
  have ca := fun no => rat_any h no
  have CA := Lib.hid ca; clear ca h
  unfold addr0 at *
  go_enter Tryz.func85, Tryz.ntmps85
  go_wp2_with fail
  refine (CA.out _).mono ?_
  rintro e w' ⟨rfl, k⟩
  have K := Lib.hid k; clear k
  go_wp2_with fail
  go_ret
  exact ⟨rfl, K.out⟩
theorem rset_any {w : World} {rb : Nat} {b e : Int} (h : RA w rb b e) (a c : Int) (h0 : 0 ≤ a) : Calls Tryz.prog 87 #[addr0 rb, .int .u64 a, .int .u8 c] w fun e w' => e = .returned (.tuple #[]) ∧ Bl w w' := by
  have ca := fun no => rat_any h no
  have CA := Lib.hid ca; clear ca h
  unfold addr0 at *
  go_enter Tryz.func87, Tryz.ntmps87
  go_wp2_with fail
  refine (CA.out _).mono ?_
  rintro e w' ⟨rfl, k⟩
  have K := Lib.hid k; clear k
  go_wp2_with fail
  go_end0
  exact ⟨rfl, K.out⟩
set_option maxHeartbeats 1000000 in
theorem rfirst_pos {w : World} {rb : Nat} {b e : Int} (h : RA w rb b e) (a n p : Int) (h0 : 0 ≤ a) (h1 : a ≤ 18446744073709551615) (hn : 0 < n) : Calls Tryz.prog 81 #[addr0 rb, .int .u64 a, .int .i64 n, .int .i64 p] w fun e w' => e = .returned (.tuple #[.int .u64 a, .bool true]) ∧ Bl w w' := by
  have ca := rprot_any h a h0
  have CA := Lib.hid ca; clear ca h
  have hw : IntKind.u64.wrap a = a := IntWalk.u64_in _ (by omega)
  unfold addr0 at *
  go_enter Tryz.func81, Tryz.ntmps81
  go_wp2_with fail
  refine wp_loop_rounds 1 ?_
  rw [rounds_succ]
  go_wp2_with fail
  refine CA.out.mono ?_
  rintro e w' ⟨rfl, k⟩
  have K := Lib.hid k; clear k
  go_wp2_with fail
  go_ret2
  exact ⟨rfl, K.out⟩
end Go.Proofs.YtepffglljmekiaaGreat
