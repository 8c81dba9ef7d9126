/-
  Contracts of the forms of atomic instructions, and of those that have no parts.
-/
import Derived.Test.YtionnhjldcpmjaaGreatDoorFormsT
import Derived.Test.YtionnhjldcpmjaaGreatDoorFormsL
set_option linter.unusedVariables false
set_option linter.unusedSimpArgs false
namespace Go.Proofs.YtionnhjldcpmjaaGreatDoor
open Go.RowKit
set_option maxHeartbeats 400000 in
theorem bare_any (op rd r1 r2 im od sz : Int) (m : Value) (w : World) :
    Calls Tryz.prog 67 #[.agg (I7 op rd r1 r2 im od sz), m] w fun e w' => e = .returned (.agg (I7 op rd r1 r2 im od sz)) ∧ Kp none w w' := by
  go_enter Tryz.func67, Tryz.ntmps67
  go_wp2
  have g := Has.new (w.alloc (.cells (I7 op rd r1 r2 im od sz) 28)) (I7 op rd r1 r2 im od sz) 28
  have e : (w.alloc (.cells (I7 op rd r1 r2 im od sz) 28)).heap.size = w.heap.size + 1 := by simp
  rw [e] at g
  (try simp only [Exit.inBlock, Exit.then])
  refine bodyPost_ret (results_cell_row rfl _ _ (w.heap.size + 1) 28 _ (0, 0) _ rfl g Tryz.underlying28 rfl (by kernel_rfl)) rfl ⟨rfl, ?_⟩
  exact (((Kp.refl _ _).alloc _ _).alloc _ _)

set_option maxHeartbeats 1000000 in
theorem atomic_take (op rd r1 r2 im od sz : Int) (s c : Nat) (w : World) (hs : s < 4294967296) (hc : Has w c 40 #[.int .u32 s]) :
    Calls Tryz.prog 66 #[.agg (I7 op rd r1 r2 im od sz), .func (.func 81) #[] #[.pointer (some ⟨c, 0, none⟩)]] w fun e w' =>
      e = .returned (.agg (I7 op (tk s 7 5 0) (tk s 15 5 0) (tk s 20 5 0) im (tk s 25 2 0) sz)) ∧ Kp none w w' := by
  have f0 := FrT.start (I7 op rd r1 r2 im od sz) hc
  go_enter Tryz.func66, Tryz.ntmps66
  go_wp2_with fail
  refine (registers_take op rd r1 r2 im od sz s c _ hs f0.mv).mono ?_
  rintro e w1 ⟨rfl, k1⟩
  have f1 := f0.call k1
  obtain ⟨b0, b1, b2, b3, b4, b5, b6⟩ := f1.box.seven
  have z := f1.box.free
  go_wp2_with fail
  have g0 := (((((((f1.set 0 (.int .i64 op)).set 1 (.int .i64 (tk s 7 5 0))).set 2 (.int .i64 (tk s 15 5 0))).set 3 (.int .i64 (tk s 20 5 0))).set 4 (.int .i64 im)).set 5 (.int .i64 od)).set 6 (.int .i64 sz))
  have f2 : FrT w c s (I7 op (tk s 7 5 0) (tk s 15 5 0) (tk s 20 5 0) im od sz) _ := g0
  refine (take_any _ s 25 2 0 c _ hs (by omega) (by omega) (by omega) (by omega) f2.mv).mono ?_
  rintro e w2 ⟨rfl, k2⟩
  have f3 := f2.call k2
  clear b0 b1 b2 b3 b4 b5 b6 z
  obtain ⟨b0, b1, b2, b3, b4, b5, b6⟩ := f3.box.seven
  have z := f3.box.free
  obtain ⟨q0, q1, q2, q3, q4, q5, q6⟩ := f3.res.seven
  have y := f3.res.free
  go_wp2
  have g := f3.set 5 (.int .i64 (tk s 25 2 0))
  (try simp only [Exit.inBlock, Exit.then])
  refine bodyPost_ret (results_cell_row rfl _ _ (w.heap.size + 1) 28 _ (0, 0) _ rfl (g.res.seven_set _ _ _ _ _ _ _) Tryz.underlying28 rfl (by kernel_rfl)) rfl ⟨rfl, ?_⟩
  exact g.kp.seven_set (Nat.le_succ _) _ _ _ _ _ _ _

set_option maxHeartbeats 1000000 in
theorem atomic_lay (op rd r1 r2 im od sz : Int) (s c t : Nat) (w : World) (hs : s < 4294967296) (hct : c ≠ t) (hc : Has w c 86 #[.pointer (some ⟨t, 0, none⟩)]) (ht : Has w t 40 #[.int .u32 s]) :
    Calls Tryz.prog 66 #[.agg (I7 op rd r1 r2 im od sz), .func (.func 69) #[] #[.pointer (some ⟨c, 0, none⟩)]] w fun e w' =>
      e = .returned (.agg (I7 op rd r1 r2 im od sz)) ∧ Has w' t 40 #[.int .u32 (ly (ly (ly (ly s rd 7 5 0) r1 15 5 0) r2 20 5 0) od 25 2 0)] ∧ Kp (some t) w w' := by
  have f0 := FrL.start (I7 op rd r1 r2 im od sz) hct hc ht
  go_enter Tryz.func66, Tryz.ntmps66
  go_wp2_with fail
  refine (registers_lay op rd r1 r2 im od sz s c t _ hs hct f0.cap f0.wd).mono ?_
  rintro e w1 ⟨rfl, h1, k1⟩
  have f1 := f0.call k1 h1
  obtain ⟨b0, b1, b2, b3, b4, b5, b6⟩ := f1.box.seven
  have z := f1.box.free
  go_wp2_with fail
  have g0 := (((((((f1.set 0 (.int .i64 op)).set 1 (.int .i64 rd)).set 2 (.int .i64 r1)).set 3 (.int .i64 r2)).set 4 (.int .i64 im)).set 5 (.int .i64 od)).set 6 (.int .i64 sz))
  have f2 : FrL w c t (ly (ly (ly s rd 7 5 0) r1 15 5 0) r2 20 5 0) (I7 op rd r1 r2 im od sz) _ := g0
  refine (lay_any _ (ly (ly (ly s rd 7 5 0) r1 15 5 0) r2 20 5 0) 25 2 0 c t _ (ly_lt (ly_lt (ly_lt hs (by omega)) (by omega)) (by omega)) (by omega) (by omega) (by omega) (by omega) hct f2.cap f2.wd).mono ?_
  rintro e w2 ⟨rfl, h2, k2⟩
  have f3 := f2.call k2 h2
  clear b0 b1 b2 b3 b4 b5 b6 z
  obtain ⟨b0, b1, b2, b3, b4, b5, b6⟩ := f3.box.seven
  have z := f3.box.free
  obtain ⟨q0, q1, q2, q3, q4, q5, q6⟩ := f3.res.seven
  have y := f3.res.free
  go_wp2
  have g := f3.set 5 (.int .i64 od)
  (try simp only [Exit.inBlock, Exit.then])
  refine bodyPost_ret (results_cell_row rfl _ _ (w.heap.size + 1) 28 _ (0, 0) _ rfl (g.res.seven_set _ _ _ _ _ _ _) Tryz.underlying28 rfl (by kernel_rfl)) rfl ⟨rfl, ?_⟩
  exact ⟨g.wd.seven_other (by have := g.ltt; omega) _ _ _ _ _ _ _, g.kp.seven_set (Nat.le_succ _) _ _ _ _ _ _ _⟩
end Go.Proofs.YtionnhjldcpmjaaGreatDoor
