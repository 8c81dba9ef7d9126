/-
  The arrays of operators, as the package's variables hold them; what byF7 picks.
-/
import Derived.Test.YtionnhjldcpmjaaGreatDoorFormsB
set_option linter.unusedVariables false
namespace Go.Proofs.YtionnhjldcpmjaaGreatDoor
open Go.RowKit

/-- Variable g holds these numbers. -/
def Tab (w : World) (g : Nat) (zs : List Int) : Prop := ∀ i, i < zs.length → w.cell? ⟨g, i, none⟩ = some (.int .i64 (zs.getD i 0))
theorem Tab.kp {w w' : World} {g : Nat} {zs : List Int} (h : Tab w g zs) (k : Kp none w w') : Tab w' g zs := fun i hi => by
  have h0 := h i hi
  have hlt : g < w.heap.size := by
    rcases Nat.lt_or_ge g w.heap.size with hl | hl
    · exact hl
    · simp [World.cell?, Array.getElem?_eq_none hl] at h0
  rw [World.cell?_of_block (w := w) (k.block g hlt (by simp))]
  exact h0
/-- The arrays by fields. -/
structure Tabs (w : World) : Prop where
  t0 : Tab w 2 [4, 0, 0, 0, 0, 0, 0, 0]
  t1 : Tab w 3 [5, 6, 0, 0, 7, 8, 9, 10]
  t2 : Tab w 4 [11, 12, 13, 14, 15, 16, 17, 0]
  t3 : Tab w 5 [18, 19, 20, 21, 0, 0, 0, 0]
  t4 : Tab w 6 [31, 33, 34, 35, 36, 37, 39, 40]
  t5 : Tab w 7 [32, 0, 0, 0, 0, 38, 0, 0]
  t6 : Tab w 8 [50, 51, 52, 53, 54, 55, 56, 57]
  t7 : Tab w 9 [45, 47, 0, 0, 0, 48, 0, 0]
  t8 : Tab w 10 [46, 0, 0, 0, 0, 49, 0, 0]
  t9 : Tab w 11 [58, 0, 0, 0, 59, 60, 61, 62]
  t10 : Tab w 12 [85, 86, 0, 0, 0, 0, 0, 0]
  t11 : Tab w 13 [22, 0, 23, 24, 25, 0, 26, 27]
  t12 : Tab w 14 [0, 28, 0, 0, 0, 29, 0, 0]
  t13 : Tab w 15 [0, 0, 0, 0, 0, 30, 0, 0]
  t14 : Tab w 16 [41, 0, 0, 0, 0, 0, 0, 0]
  t15 : Tab w 17 [0, 42, 0, 0, 0, 43, 0, 0]
  t16 : Tab w 18 [0, 0, 0, 0, 0, 44, 0, 0]
  t17 : Tab w 19 [66, 65, 63, 64, 67, 0, 0, 0, 69, 0, 0, 0, 68, 0, 0, 0, 70, 0, 0, 0, 71, 0, 0, 0, 72, 0, 0, 0, 73, 0, 0, 0]
  t18 : Tab w 20 [77, 76, 74, 75, 78, 0, 0, 0, 80, 0, 0, 0, 79, 0, 0, 0, 81, 0, 0, 0, 82, 0, 0, 0, 83, 0, 0, 0, 84, 0, 0, 0]
theorem Tabs.kp {w w' : World} (h : Tabs w) (k : Kp none w w') : Tabs w' :=
  ⟨h.t0.kp k, h.t1.kp k, h.t2.kp k, h.t3.kp k, h.t4.kp k, h.t5.kp k, h.t6.kp k, h.t7.kp k, h.t8.kp k, h.t9.kp k, h.t10.kp k, h.t11.kp k, h.t12.kp k, h.t13.kp k, h.t14.kp k, h.t15.kp k, h.t16.kp k, h.t17.kp k, h.t18.kp k⟩
theorem Tabs.drew {w : World} (h : Tabs w) : Tabs w.drew := h.kp (Kp.refl _ _).drew
abbrev A8 (a0 a1 a2 a3 a4 a5 a6 a7 : Int) : Array Value := #[.int .i64 a0, .int .i64 a1, .int .i64 a2, .int .i64 a3, .int .i64 a4, .int .i64 a5, .int .i64 a6, .int .i64 a7]

set_option maxHeartbeats 1000000 in
theorem byF7_none (f : Nat) (a0 a1 a2 a3 a4 a5 a6 a7 b0 b1 b2 b3 b4 b5 b6 b7 c0 c1 c2 c3 c4 c5 c6 c7 : Int) (w : World) (hf : f = 0) :
    Calls Tryz.prog 62 #[.int .u32 f, .agg (A8 a0 a1 a2 a3 a4 a5 a6 a7), .agg (A8 b0 b1 b2 b3 b4 b5 b6 b7), .agg (A8 c0 c1 c2 c3 c4 c5 c6 c7)] w fun e w' => e = .returned (.agg (A8 a0 a1 a2 a3 a4 a5 a6 a7)) ∧ Kp none w w' := by
  subst hf
  go_enter Tryz.func62, Tryz.ntmps62
  go_wp2
  have g := Has.new (((w.alloc (.cells (A8 a0 a1 a2 a3 a4 a5 a6 a7) 99)).alloc (.cells (A8 b0 b1 b2 b3 b4 b5 b6 b7) 99)).alloc (.cells (A8 c0 c1 c2 c3 c4 c5 c6 c7) 99)) (A8 a0 a1 a2 a3 a4 a5 a6 a7) 99
  have e : (((w.alloc (.cells (A8 a0 a1 a2 a3 a4 a5 a6 a7) 99)).alloc (.cells (A8 b0 b1 b2 b3 b4 b5 b6 b7) 99)).alloc (.cells (A8 c0 c1 c2 c3 c4 c5 c6 c7) 99)).heap.size = w.heap.size + 1 + 1 + 1 := by simp
  rw [e] at g
  (try simp only [Exit.inBlock, Exit.then])
  refine bodyPost_ret (results_cell_row rfl _ _ (w.heap.size + 1 + 1 + 1) 99 _ (0, 0) _ rfl g Tryz.underlying99 rfl (by kernel_rfl)) rfl ⟨rfl, ?_⟩
  exact ((((Kp.refl _ _).alloc _ _).alloc _ _).alloc _ _).alloc _ _

set_option maxHeartbeats 1000000 in
theorem byF7_other (f : Nat) (a0 a1 a2 a3 a4 a5 a6 a7 b0 b1 b2 b3 b4 b5 b6 b7 c0 c1 c2 c3 c4 c5 c6 c7 : Int) (w : World) (hf : f = 32) :
    Calls Tryz.prog 62 #[.int .u32 f, .agg (A8 a0 a1 a2 a3 a4 a5 a6 a7), .agg (A8 b0 b1 b2 b3 b4 b5 b6 b7), .agg (A8 c0 c1 c2 c3 c4 c5 c6 c7)] w fun e w' => e = .returned (.agg (A8 b0 b1 b2 b3 b4 b5 b6 b7)) ∧ Kp none w w' := by
  subst hf
  go_enter Tryz.func62, Tryz.ntmps62
  go_wp2
  have g := Has.new (((w.alloc (.cells (A8 a0 a1 a2 a3 a4 a5 a6 a7) 99)).alloc (.cells (A8 b0 b1 b2 b3 b4 b5 b6 b7) 99)).alloc (.cells (A8 c0 c1 c2 c3 c4 c5 c6 c7) 99)) (A8 b0 b1 b2 b3 b4 b5 b6 b7) 99
  have e : (((w.alloc (.cells (A8 a0 a1 a2 a3 a4 a5 a6 a7) 99)).alloc (.cells (A8 b0 b1 b2 b3 b4 b5 b6 b7) 99)).alloc (.cells (A8 c0 c1 c2 c3 c4 c5 c6 c7) 99)).heap.size = w.heap.size + 1 + 1 + 1 := by simp
  rw [e] at g
  (try simp only [Exit.inBlock, Exit.then])
  refine bodyPost_ret (results_cell_row rfl _ _ (w.heap.size + 1 + 1 + 1) 99 _ (0, 0) _ rfl g Tryz.underlying99 rfl (by kernel_rfl)) rfl ⟨rfl, ?_⟩
  exact ((((Kp.refl _ _).alloc _ _).alloc _ _).alloc _ _).alloc _ _

set_option maxHeartbeats 1000000 in
theorem byF7_product (f : Nat) (a0 a1 a2 a3 a4 a5 a6 a7 b0 b1 b2 b3 b4 b5 b6 b7 c0 c1 c2 c3 c4 c5 c6 c7 : Int) (w : World) (hf : f = 1) :
    Calls Tryz.prog 62 #[.int .u32 f, .agg (A8 a0 a1 a2 a3 a4 a5 a6 a7), .agg (A8 b0 b1 b2 b3 b4 b5 b6 b7), .agg (A8 c0 c1 c2 c3 c4 c5 c6 c7)] w fun e w' => e = .returned (.agg (A8 c0 c1 c2 c3 c4 c5 c6 c7)) ∧ Kp none w w' := by
  subst hf
  go_enter Tryz.func62, Tryz.ntmps62
  go_wp2
  have g := Has.new (((w.alloc (.cells (A8 a0 a1 a2 a3 a4 a5 a6 a7) 99)).alloc (.cells (A8 b0 b1 b2 b3 b4 b5 b6 b7) 99)).alloc (.cells (A8 c0 c1 c2 c3 c4 c5 c6 c7) 99)) (A8 c0 c1 c2 c3 c4 c5 c6 c7) 99
  have e : (((w.alloc (.cells (A8 a0 a1 a2 a3 a4 a5 a6 a7) 99)).alloc (.cells (A8 b0 b1 b2 b3 b4 b5 b6 b7) 99)).alloc (.cells (A8 c0 c1 c2 c3 c4 c5 c6 c7) 99)).heap.size = w.heap.size + 1 + 1 + 1 := by simp
  rw [e] at g
  (try simp only [Exit.inBlock, Exit.then])
  refine bodyPost_ret (results_cell_row rfl _ _ (w.heap.size + 1 + 1 + 1) 99 _ (0, 0) _ rfl g Tryz.underlying99 rfl (by kernel_rfl)) rfl ⟨rfl, ?_⟩
  exact ((((Kp.refl _ _).alloc _ _).alloc _ _).alloc _ _).alloc _ _

set_option maxHeartbeats 1000000 in
theorem byF7_else (f : Nat) (a0 a1 a2 a3 a4 a5 a6 a7 b0 b1 b2 b3 b4 b5 b6 b7 c0 c1 c2 c3 c4 c5 c6 c7 : Int) (w : World) (h0 : ((f : Int) == 0) = false) (h1 : ((f : Int) == 32) = false) (h2 : ((f : Int) == 1) = false) :
    Calls Tryz.prog 62 #[.int .u32 f, .agg (A8 a0 a1 a2 a3 a4 a5 a6 a7), .agg (A8 b0 b1 b2 b3 b4 b5 b6 b7), .agg (A8 c0 c1 c2 c3 c4 c5 c6 c7)] w fun e w' => e = .returned (.agg (A8 0 0 0 0 0 0 0 0)) ∧ Kp none w w' := by
  go_enter Tryz.func62, Tryz.ntmps62
  go_wp2
  have g := Has.new (((w.alloc (.cells (A8 a0 a1 a2 a3 a4 a5 a6 a7) 99)).alloc (.cells (A8 b0 b1 b2 b3 b4 b5 b6 b7) 99)).alloc (.cells (A8 c0 c1 c2 c3 c4 c5 c6 c7) 99)) (A8 0 0 0 0 0 0 0 0) 99
  have e : (((w.alloc (.cells (A8 a0 a1 a2 a3 a4 a5 a6 a7) 99)).alloc (.cells (A8 b0 b1 b2 b3 b4 b5 b6 b7) 99)).alloc (.cells (A8 c0 c1 c2 c3 c4 c5 c6 c7) 99)).heap.size = w.heap.size + 1 + 1 + 1 := by simp
  rw [e] at g
  (try simp only [Exit.inBlock, Exit.then])
  refine bodyPost_ret (results_cell_row rfl _ _ (w.heap.size + 1 + 1 + 1) 99 _ (0, 0) _ rfl g Tryz.underlying99 rfl (by kernel_rfl)) rfl ⟨rfl, ?_⟩
  exact ((((Kp.refl _ _).alloc _ _).alloc _ _).alloc _ _).alloc _ _
end Go.Proofs.YtionnhjldcpmjaaGreatDoor
