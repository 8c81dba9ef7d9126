/-
  Contracts of the forms, by what lays pieces into a word.
-/
import Derived.Test.YtionnhjldcpmjaaGreatDoorFrames
set_option linter.unusedVariables false
set_option linter.unusedSimpArgs false
namespace Go.Proofs.YtionnhjldcpmjaaGreatDoor
open Go.RowKit
set_option maxHeartbeats 1000000 in
theorem upper_lay (op rd r1 r2 im od sz : Int) (s c t : Nat) (w : World) (hs : s < 4294967296) (hct : c ≠ t) (hc : Has w c 86 #[.pointer (some ⟨t, 0, none⟩)]) (ht : Has w t 40 #[.int .u32 s]) :
    Calls Tryz.prog 56 #[.agg (I7 op rd r1 r2 im od sz), .func (.func 69) #[] #[.pointer (some ⟨c, 0, none⟩)]] w fun e w' =>
      e = .returned (.agg (I7 op rd r1 r2 (low im 32) od sz)) ∧ Has w' t 40 #[.int .u32 (ly (ly s rd 7 5 0) im 12 20 12)] ∧ Kp (some t) w w' := by
  have f0 := FrL.start (I7 op rd r1 r2 im od sz) hct hc ht
  go_enter Tryz.func56, Tryz.ntmps56
  go_wp2_with fail
  refine (lay_any _ s 7 5 0 c t _ hs (by omega) (by omega) (by omega) (by omega) hct f0.cap f0.wd).mono ?_
  rintro e w1 ⟨rfl, h1, k1⟩
  have f1 := f0.call k1 h1
  obtain ⟨b0, b1, b2, b3, b4, b5, b6⟩ := f1.box.seven
  have z := f1.box.free
  go_wp2_with fail
  have f2 := f1.set 1 (.int .i64 rd)
  refine (lay_any _ (ly s rd 7 5 0) 12 20 12 c t _ (ly_lt hs (by omega)) (by omega) (by omega) (by omega) (by omega) hct f2.cap f2.wd).mono ?_
  rintro e w2 ⟨rfl, h2, k2⟩
  have f3 := f2.call k2 h2
  clear b0 b1 b2 b3 b4 b5 b6 z
  obtain ⟨b0, b1, b2, b3, b4, b5, b6⟩ := f3.box.seven
  have z := f3.box.free
  obtain ⟨q0, q1, q2, q3, q4, q5, q6⟩ := f3.res.seven
  have y := f3.res.free
  go_wp2_with fail
  refine (signed_any _ 32 _ (by omega) (by omega)).mono ?_
  rintro e w' ⟨rfl, rfl⟩
  go_wp2
  have g := f3.set 4 (.int .i64 (low im 32))
  (try simp only [Exit.inBlock, Exit.then])
  refine bodyPost_ret (results_cell_row rfl _ _ (w.heap.size + 1) 28 _ (0, 0) _ rfl (g.res.seven_set _ _ _ _ _ _ _) Tryz.underlying28 rfl (by kernel_rfl)) rfl ⟨rfl, ?_⟩
  exact ⟨g.wd.seven_other (by have := g.ltt; omega) _ _ _ _ _ _ _, g.kp.seven_set (Nat.le_succ _) _ _ _ _ _ _ _⟩

set_option maxHeartbeats 1000000 in
theorem immediate_lay (op rd r1 r2 im od sz : Int) (s c t : Nat) (w : World) (hs : s < 4294967296) (hct : c ≠ t) (hc : Has w c 86 #[.pointer (some ⟨t, 0, none⟩)]) (ht : Has w t 40 #[.int .u32 s]) :
    Calls Tryz.prog 58 #[.agg (I7 op rd r1 r2 im od sz), .func (.func 69) #[] #[.pointer (some ⟨c, 0, none⟩)]] w fun e w' =>
      e = .returned (.agg (I7 op rd r1 r2 (low im 12) od sz)) ∧ Has w' t 40 #[.int .u32 (ly (ly (ly s rd 7 5 0) r1 15 5 0) im 20 12 0)] ∧ Kp (some t) w w' := by
  have f0 := FrL.start (I7 op rd r1 r2 im od sz) hct hc ht
  go_enter Tryz.func58, Tryz.ntmps58
  go_wp2_with fail
  refine (lay_any _ s 7 5 0 c t _ hs (by omega) (by omega) (by omega) (by omega) hct f0.cap f0.wd).mono ?_
  rintro e w1 ⟨rfl, h1, k1⟩
  have f1 := f0.call k1 h1
  obtain ⟨b0, b1, b2, b3, b4, b5, b6⟩ := f1.box.seven
  have z := f1.box.free
  go_wp2_with fail
  have f2 := f1.set 1 (.int .i64 rd)
  refine (lay_any _ (ly s rd 7 5 0) 15 5 0 c t _ (ly_lt hs (by omega)) (by omega) (by omega) (by omega) (by omega) hct f2.cap f2.wd).mono ?_
  rintro e w2 ⟨rfl, h2, k2⟩
  have f3 := f2.call k2 h2
  clear b0 b1 b2 b3 b4 b5 b6 z
  obtain ⟨b0, b1, b2, b3, b4, b5, b6⟩ := f3.box.seven
  have z := f3.box.free
  go_wp2_with fail
  have f4 := f3.set 2 (.int .i64 r1)
  refine (lay_any _ (ly (ly s rd 7 5 0) r1 15 5 0) 20 12 0 c t _ (ly_lt (ly_lt hs (by omega)) (by omega)) (by omega) (by omega) (by omega) (by omega) hct f4.cap f4.wd).mono ?_
  rintro e w3 ⟨rfl, h3, k3⟩
  have f5 := f4.call k3 h3
  clear b0 b1 b2 b3 b4 b5 b6 z
  obtain ⟨b0, b1, b2, b3, b4, b5, b6⟩ := f5.box.seven
  have z := f5.box.free
  obtain ⟨q0, q1, q2, q3, q4, q5, q6⟩ := f5.res.seven
  have y := f5.res.free
  go_wp2_with fail
  refine (signed_any _ 12 _ (by omega) (by omega)).mono ?_
  rintro e w' ⟨rfl, rfl⟩
  go_wp2
  have g := f5.set 4 (.int .i64 (low im 12))
  (try simp only [Exit.inBlock, Exit.then])
  refine bodyPost_ret (results_cell_row rfl _ _ (w.heap.size + 1) 28 _ (0, 0) _ rfl (g.res.seven_set _ _ _ _ _ _ _) Tryz.underlying28 rfl (by kernel_rfl)) rfl ⟨rfl, ?_⟩
  exact ⟨g.wd.seven_other (by have := g.ltt; omega) _ _ _ _ _ _ _, g.kp.seven_set (Nat.le_succ _) _ _ _ _ _ _ _⟩

set_option maxHeartbeats 1000000 in
theorem registers_lay (op rd r1 r2 im od sz : Int) (s c t : Nat) (w : World) (hs : s < 4294967296) (hct : c ≠ t) (hc : Has w c 86 #[.pointer (some ⟨t, 0, none⟩)]) (ht : Has w t 40 #[.int .u32 s]) :
    Calls Tryz.prog 63 #[.agg (I7 op rd r1 r2 im od sz), .func (.func 69) #[] #[.pointer (some ⟨c, 0, none⟩)]] w fun e w' =>
      e = .returned (.agg (I7 op rd r1 r2 im od sz)) ∧ Has w' t 40 #[.int .u32 (ly (ly (ly s rd 7 5 0) r1 15 5 0) r2 20 5 0)] ∧ Kp (some t) w w' := by
  have f0 := FrL.start (I7 op rd r1 r2 im od sz) hct hc ht
  go_enter Tryz.func63, Tryz.ntmps63
  go_wp2_with fail
  refine (lay_any _ s 7 5 0 c t _ hs (by omega) (by omega) (by omega) (by omega) hct f0.cap f0.wd).mono ?_
  rintro e w1 ⟨rfl, h1, k1⟩
  have f1 := f0.call k1 h1
  obtain ⟨b0, b1, b2, b3, b4, b5, b6⟩ := f1.box.seven
  have z := f1.box.free
  go_wp2_with fail
  have f2 := f1.set 1 (.int .i64 rd)
  refine (lay_any _ (ly s rd 7 5 0) 15 5 0 c t _ (ly_lt hs (by omega)) (by omega) (by omega) (by omega) (by omega) hct f2.cap f2.wd).mono ?_
  rintro e w2 ⟨rfl, h2, k2⟩
  have f3 := f2.call k2 h2
  clear b0 b1 b2 b3 b4 b5 b6 z
  obtain ⟨b0, b1, b2, b3, b4, b5, b6⟩ := f3.box.seven
  have z := f3.box.free
  go_wp2_with fail
  have f4 := f3.set 2 (.int .i64 r1)
  refine (lay_any _ (ly (ly s rd 7 5 0) r1 15 5 0) 20 5 0 c t _ (ly_lt (ly_lt hs (by omega)) (by omega)) (by omega) (by omega) (by omega) (by omega) hct f4.cap f4.wd).mono ?_
  rintro e w3 ⟨rfl, h3, k3⟩
  have f5 := f4.call k3 h3
  clear b0 b1 b2 b3 b4 b5 b6 z
  obtain ⟨b0, b1, b2, b3, b4, b5, b6⟩ := f5.box.seven
  have z := f5.box.free
  obtain ⟨q0, q1, q2, q3, q4, q5, q6⟩ := f5.res.seven
  have y := f5.res.free
  go_wp2
  have g := f5.set 3 (.int .i64 r2)
  (try simp only [Exit.inBlock, Exit.then])
  refine bodyPost_ret (results_cell_row rfl _ _ (w.heap.size + 1) 28 _ (0, 0) _ rfl (g.res.seven_set _ _ _ _ _ _ _) Tryz.underlying28 rfl (by kernel_rfl)) rfl ⟨rfl, ?_⟩
  exact ⟨g.wd.seven_other (by have := g.ltt; omega) _ _ _ _ _ _ _, g.kp.seven_set (Nat.le_succ _) _ _ _ _ _ _ _⟩

set_option maxHeartbeats 1000000 in
theorem jump_lay (op rd r1 r2 im od sz : Int) (s c t : Nat) (w : World) (hs : s < 4294967296) (hct : c ≠ t) (hc : Has w c 86 #[.pointer (some ⟨t, 0, none⟩)]) (ht : Has w t 40 #[.int .u32 s]) :
    Calls Tryz.prog 57 #[.agg (I7 op rd r1 r2 im od sz), .func (.func 69) #[] #[.pointer (some ⟨c, 0, none⟩)]] w fun e w' =>
      e = .returned (.agg (I7 op rd r1 r2 (low (bits .or .i64 (bits .or .i64 (bits .or .i64 im im) im) im) 21) od sz)) ∧ Has w' t 40 #[.int .u32 (ly (ly (ly (ly (ly s rd 7 5 0) im 31 1 20) im 12 8 12) im 20 1 11) im 21 10 1)] ∧ Kp (some t) w w' := by
  have f0 := FrL.start (I7 op rd r1 r2 im od sz) hct hc ht
  go_enter Tryz.func57, Tryz.ntmps57
  go_wp2_with fail
  refine (lay_any _ s 7 5 0 c t _ hs (by omega) (by omega) (by omega) (by omega) hct f0.cap f0.wd).mono ?_
  rintro e w1 ⟨rfl, h1, k1⟩
  have f1 := f0.call k1 h1
  obtain ⟨b0, b1, b2, b3, b4, b5, b6⟩ := f1.box.seven
  have z := f1.box.free
  go_wp2_with fail
  have f2 := f1.set 1 (.int .i64 rd)
  have f3 := f2.drew
  refine wp_region_hd 20 (fun w' => w'.cell? ⟨w.heap.size, 4, none⟩ = some (.int .i64 im)) (by kernel_rfl) (by decide) (f3.box.cell 4) (fun hHeld => ?_)
  refine wpHd_take (i := 0) (v := ?_) rfl (by kernel_rfl) (fun _ _ _ h => h) (Or.inl ⟨by rfl, ?hy⟩) hHeld ?_
  case hy => (intro w hSw; (try dsimp only at hSw); go_split_ands; go_simp; try (with_reducible rfl))
  (try simp only [Act.put, List.setIfInBounds_toArray, List.set_cons_zero, List.set_cons_succ])
  refine wpHd_take (i := 1) (v := ?_) rfl (by kernel_rfl) (fun _ _ _ h => h) (Or.inl ⟨by rfl, ?hy⟩) hHeld ?_
  case hy => (intro w hSw; (try dsimp only at hSw); go_split_ands; go_simp; try (with_reducible rfl))
  (try simp only [Act.put, List.setIfInBounds_toArray, List.set_cons_zero, List.set_cons_succ])
  refine wpHd_take (i := 2) (v := ?_) rfl (by kernel_rfl) (fun _ _ _ h => h) (Or.inl ⟨by rfl, ?hy⟩) hHeld ?_
  case hy => (intro w hSw; (try dsimp only at hSw); go_split_ands; go_simp; try (with_reducible rfl))
  (try simp only [Act.put, List.setIfInBounds_toArray, List.set_cons_zero, List.set_cons_succ])
  refine wpHd_take (i := 4) (v := ?_) rfl (by kernel_rfl) (fun _ _ _ h => h) (Or.inl ⟨by rfl, ?hy⟩) hHeld ?_
  case hy => (intro w hSw; (try dsimp only at hSw); go_split_ands; go_simp; try (with_reducible rfl))
  (try simp only [Act.put, List.setIfInBounds_toArray, List.set_cons_zero, List.set_cons_succ])
  refine wpHd_take (i := 5) (v := ?_) rfl (by kernel_rfl) (fun _ _ _ h => h) (Or.inl ⟨by rfl, ?hy⟩) hHeld ?_
  case hy => (intro w hSw; (try dsimp only at hSw); go_split_ands; go_simp; try (with_reducible rfl))
  (try simp only [Act.put, List.setIfInBounds_toArray, List.set_cons_zero, List.set_cons_succ])
  refine wpHd_take (i := 6) (v := ?_) rfl (by kernel_rfl) (fun _ _ _ h => h) (Or.inl ⟨by rfl, ?hy⟩) hHeld ?_
  case hy => (intro w hSw; (try dsimp only at hSw); go_split_ands; go_simp; try (with_reducible rfl))
  (try simp only [Act.put, List.setIfInBounds_toArray, List.set_cons_zero, List.set_cons_succ])
  refine wpHd_take (i := 9) (v := ?_) rfl (by kernel_rfl) (fun _ _ _ h => h) (Or.inl ⟨by rfl, ?hy⟩) hHeld ?_
  case hy => (intro w hSw; (try dsimp only at hSw); go_split_ands; go_simp; try (with_reducible rfl))
  (try simp only [Act.put, List.setIfInBounds_toArray, List.set_cons_zero, List.set_cons_succ])
  refine wpHd_take (i := 10) (v := ?_) rfl (by kernel_rfl) (fun _ _ _ h => h) (Or.inl ⟨by rfl, ?hy⟩) hHeld ?_
  case hy => (intro w hSw; (try dsimp only at hSw); go_split_ands; go_simp; try (with_reducible rfl))
  (try simp only [Act.put, List.setIfInBounds_toArray, List.set_cons_zero, List.set_cons_succ])
  refine wpHd_take (i := 11) (v := ?_) rfl (by kernel_rfl) (fun _ _ _ h => h) (Or.inl ⟨by rfl, ?hy⟩) hHeld ?_
  case hy => (intro w hSw; (try dsimp only at hSw); go_split_ands; go_simp; try (with_reducible rfl))
  (try simp only [Act.put, List.setIfInBounds_toArray, List.set_cons_zero, List.set_cons_succ])
  refine wpHd_take (i := 14) (v := ?_) rfl (by kernel_rfl) (fun _ _ _ h => h) (Or.inl ⟨by rfl, ?hy⟩) hHeld ?_
  case hy => (intro w hSw; (try dsimp only at hSw); go_split_ands; go_simp; try (with_reducible rfl))
  (try simp only [Act.put, List.setIfInBounds_toArray, List.set_cons_zero, List.set_cons_succ])
  refine wpHd_take (i := 15) (v := ?_) rfl (by kernel_rfl) (fun _ _ _ h => h) (Or.inl ⟨by rfl, ?hy⟩) hHeld ?_
  case hy => (intro w hSw; (try dsimp only at hSw); go_split_ands; go_simp; try (with_reducible rfl))
  (try simp only [Act.put, List.setIfInBounds_toArray, List.set_cons_zero, List.set_cons_succ])
  refine wpHd_take (i := 16) (v := ?_) rfl (by kernel_rfl) (fun _ _ _ h => h) (Or.inl ⟨by rfl, ?hy⟩) hHeld ?_
  case hy => (intro w hSw; (try dsimp only at hSw); go_split_ands; go_simp; try (with_reducible rfl))
  (try simp only [Act.put, List.setIfInBounds_toArray, List.set_cons_zero, List.set_cons_succ])
  refine wpHd_one (i := 3) rfl (by kernel_rfl) (fun K hK => ?_)
  go_simp
  refine (lay_any _ (ly s rd 7 5 0) 31 1 20 c t _ (ly_lt hs (by omega)) (by omega) (by omega) (by omega) (by omega) hct f3.cap f3.wd).mono ?_
  rintro e w2 ⟨rfl, h2, k2⟩
  have f4 := f3.call k2 h2
  refine hK.out _ _ (f4.box.cell 4) (fun hHeld => ?_)
  clear hK K
  (try simp only [Act.put, List.setIfInBounds_toArray, List.set_cons_zero, List.set_cons_succ])
  refine wpHd_one (i := 7) rfl (by kernel_rfl) (fun K hK => ?_)
  go_simp
  refine (lay_any _ (ly (ly s rd 7 5 0) im 31 1 20) 12 8 12 c t _ (ly_lt (ly_lt hs (by omega)) (by omega)) (by omega) (by omega) (by omega) (by omega) hct f4.cap f4.wd).mono ?_
  rintro e w3 ⟨rfl, h3, k3⟩
  have f5 := f4.call k3 h3
  refine hK.out _ _ (f5.box.cell 4) (fun hHeld => ?_)
  clear hK K
  (try simp only [Act.put, List.setIfInBounds_toArray, List.set_cons_zero, List.set_cons_succ])
  refine wpHd_take (i := 8) (v := ?_) rfl (by kernel_rfl) (fun _ _ _ h => h) (Or.inl ⟨by rfl, ?hy⟩) hHeld ?_
  case hy => (intro w hSw; (try dsimp only at hSw); go_split_ands; go_simp; try (with_reducible rfl))
  (try simp only [Act.put, List.setIfInBounds_toArray, List.set_cons_zero, List.set_cons_succ])
  refine wpHd_one (i := 12) rfl (by kernel_rfl) (fun K hK => ?_)
  go_simp
  refine (lay_any _ (ly (ly (ly s rd 7 5 0) im 31 1 20) im 12 8 12) 20 1 11 c t _ (ly_lt (ly_lt (ly_lt hs (by omega)) (by omega)) (by omega)) (by omega) (by omega) (by omega) (by omega) hct f5.cap f5.wd).mono ?_
  rintro e w4 ⟨rfl, h4, k4⟩
  have f6 := f5.call k4 h4
  refine hK.out _ _ (f6.box.cell 4) (fun hHeld => ?_)
  clear hK K
  (try simp only [Act.put, List.setIfInBounds_toArray, List.set_cons_zero, List.set_cons_succ])
  refine wpHd_take (i := 13) (v := ?_) rfl (by kernel_rfl) (fun _ _ _ h => h) (Or.inl ⟨by rfl, ?hy⟩) hHeld ?_
  case hy => (intro w hSw; (try dsimp only at hSw); go_split_ands; go_simp; try (with_reducible rfl))
  (try simp only [Act.put, List.setIfInBounds_toArray, List.set_cons_zero, List.set_cons_succ])
  refine wpHd_one (i := 17) rfl (by kernel_rfl) (fun K hK => ?_)
  go_simp
  refine (lay_any _ (ly (ly (ly (ly s rd 7 5 0) im 31 1 20) im 12 8 12) im 20 1 11) 21 10 1 c t _ (ly_lt (ly_lt (ly_lt (ly_lt hs (by omega)) (by omega)) (by omega)) (by omega)) (by omega) (by omega) (by omega) (by omega) hct f6.cap f6.wd).mono ?_
  rintro e w5 ⟨rfl, h5, k5⟩
  have f7 := f6.call k5 h5
  refine hK.out _ _ (f7.box.cell 4) (fun hHeld => ?_)
  clear hK K
  (try simp only [Act.put, List.setIfInBounds_toArray, List.set_cons_zero, List.set_cons_succ])
  refine wpHd_take (i := 18) (v := ?_) rfl (by kernel_rfl) (fun _ _ _ h => h) (Or.inl ⟨by rfl, ?hy⟩) hHeld ?_
  case hy => (intro w hSw; (try dsimp only at hSw); go_split_ands; go_simp; try (with_reducible rfl))
  (try simp only [Act.put, List.setIfInBounds_toArray, List.set_cons_zero, List.set_cons_succ])
  refine wpHd_one (i := 19) rfl (by kernel_rfl) (fun K hK => ?_)
  go_simp
  refine (signed_any _ 21 _ (by omega) (by omega)).mono ?_
  rintro e w' ⟨rfl, rfl⟩
  refine hK.out _ _ (f7.box.cell 4) (fun hHeld => ?_)
  clear hK K
  (try simp only [Act.put, List.setIfInBounds_toArray, List.set_cons_zero, List.set_cons_succ])
  refine ⟨by kernel_rfl, ?_⟩
  simp only [List.drop_succ_cons, List.drop_zero]
  clear b0 b1 b2 b3 b4 b5 b6 z
  obtain ⟨b0, b1, b2, b3, b4, b5, b6⟩ := f7.box.seven
  have z := f7.box.free
  obtain ⟨q0, q1, q2, q3, q4, q5, q6⟩ := f7.res.seven
  have y := f7.res.free
  go_wp2
  have g := f7.set 4 (.int .i64 (low (bits .or .i64 (bits .or .i64 (bits .or .i64 im im) im) im) 21))
  (try simp only [Exit.inBlock, Exit.then])
  refine bodyPost_ret (results_cell_row rfl _ _ (w.heap.size + 1) 28 _ (0, 0) _ rfl (g.res.seven_set _ _ _ _ _ _ _) Tryz.underlying28 rfl (by kernel_rfl)) rfl ⟨rfl, ?_⟩
  exact ⟨g.wd.seven_other (by have := g.ltt; omega) _ _ _ _ _ _ _, g.kp.seven_set (Nat.le_succ _) _ _ _ _ _ _ _⟩

set_option maxHeartbeats 1000000 in
theorem branch_lay (op rd r1 r2 im od sz : Int) (s c t : Nat) (w : World) (hs : s < 4294967296) (hct : c ≠ t) (hc : Has w c 86 #[.pointer (some ⟨t, 0, none⟩)]) (ht : Has w t 40 #[.int .u32 s]) :
    Calls Tryz.prog 59 #[.agg (I7 op rd r1 r2 im od sz), .func (.func 69) #[] #[.pointer (some ⟨c, 0, none⟩)]] w fun e w' =>
      e = .returned (.agg (I7 op rd r1 r2 (low (bits .or .i64 (bits .or .i64 (bits .or .i64 im im) im) im) 13) od sz)) ∧ Has w' t 40 #[.int .u32 (ly (ly (ly (ly (ly (ly s r1 15 5 0) r2 20 5 0) im 31 1 12) im 7 1 11) im 25 6 5) im 8 4 1)] ∧ Kp (some t) w w' := by
  have f0 := FrL.start (I7 op rd r1 r2 im od sz) hct hc ht
  go_enter Tryz.func59, Tryz.ntmps59
  go_wp2_with fail
  refine (lay_any _ s 15 5 0 c t _ hs (by omega) (by omega) (by omega) (by omega) hct f0.cap f0.wd).mono ?_
  rintro e w1 ⟨rfl, h1, k1⟩
  have f1 := f0.call k1 h1
  obtain ⟨b0, b1, b2, b3, b4, b5, b6⟩ := f1.box.seven
  have z := f1.box.free
  go_wp2_with fail
  have f2 := f1.set 2 (.int .i64 r1)
  refine (lay_any _ (ly s r1 15 5 0) 20 5 0 c t _ (ly_lt hs (by omega)) (by omega) (by omega) (by omega) (by omega) hct f2.cap f2.wd).mono ?_
  rintro e w2 ⟨rfl, h2, k2⟩
  have f3 := f2.call k2 h2
  clear b0 b1 b2 b3 b4 b5 b6 z
  obtain ⟨b0, b1, b2, b3, b4, b5, b6⟩ := f3.box.seven
  have z := f3.box.free
  go_wp2_with fail
  have f4 := f3.set 3 (.int .i64 r2)
  have f5 := f4.drew
  refine wp_region_hd 20 (fun w' => w'.cell? ⟨w.heap.size, 4, none⟩ = some (.int .i64 im)) (by kernel_rfl) (by decide) (f5.box.cell 4) (fun hHeld => ?_)
  refine wpHd_take (i := 0) (v := ?_) rfl (by kernel_rfl) (fun _ _ _ h => h) (Or.inl ⟨by rfl, ?hy⟩) hHeld ?_
  case hy => (intro w hSw; (try dsimp only at hSw); go_split_ands; go_simp; try (with_reducible rfl))
  (try simp only [Act.put, List.setIfInBounds_toArray, List.set_cons_zero, List.set_cons_succ])
  refine wpHd_take (i := 1) (v := ?_) rfl (by kernel_rfl) (fun _ _ _ h => h) (Or.inl ⟨by rfl, ?hy⟩) hHeld ?_
  case hy => (intro w hSw; (try dsimp only at hSw); go_split_ands; go_simp; try (with_reducible rfl))
  (try simp only [Act.put, List.setIfInBounds_toArray, List.set_cons_zero, List.set_cons_succ])
  refine wpHd_take (i := 2) (v := ?_) rfl (by kernel_rfl) (fun _ _ _ h => h) (Or.inl ⟨by rfl, ?hy⟩) hHeld ?_
  case hy => (intro w hSw; (try dsimp only at hSw); go_split_ands; go_simp; try (with_reducible rfl))
  (try simp only [Act.put, List.setIfInBounds_toArray, List.set_cons_zero, List.set_cons_succ])
  refine wpHd_take (i := 4) (v := ?_) rfl (by kernel_rfl) (fun _ _ _ h => h) (Or.inl ⟨by rfl, ?hy⟩) hHeld ?_
  case hy => (intro w hSw; (try dsimp only at hSw); go_split_ands; go_simp; try (with_reducible rfl))
  (try simp only [Act.put, List.setIfInBounds_toArray, List.set_cons_zero, List.set_cons_succ])
  refine wpHd_take (i := 5) (v := ?_) rfl (by kernel_rfl) (fun _ _ _ h => h) (Or.inl ⟨by rfl, ?hy⟩) hHeld ?_
  case hy => (intro w hSw; (try dsimp only at hSw); go_split_ands; go_simp; try (with_reducible rfl))
  (try simp only [Act.put, List.setIfInBounds_toArray, List.set_cons_zero, List.set_cons_succ])
  refine wpHd_take (i := 6) (v := ?_) rfl (by kernel_rfl) (fun _ _ _ h => h) (Or.inl ⟨by rfl, ?hy⟩) hHeld ?_
  case hy => (intro w hSw; (try dsimp only at hSw); go_split_ands; go_simp; try (with_reducible rfl))
  (try simp only [Act.put, List.setIfInBounds_toArray, List.set_cons_zero, List.set_cons_succ])
  refine wpHd_take (i := 9) (v := ?_) rfl (by kernel_rfl) (fun _ _ _ h => h) (Or.inl ⟨by rfl, ?hy⟩) hHeld ?_
  case hy => (intro w hSw; (try dsimp only at hSw); go_split_ands; go_simp; try (with_reducible rfl))
  (try simp only [Act.put, List.setIfInBounds_toArray, List.set_cons_zero, List.set_cons_succ])
  refine wpHd_take (i := 10) (v := ?_) rfl (by kernel_rfl) (fun _ _ _ h => h) (Or.inl ⟨by rfl, ?hy⟩) hHeld ?_
  case hy => (intro w hSw; (try dsimp only at hSw); go_split_ands; go_simp; try (with_reducible rfl))
  (try simp only [Act.put, List.setIfInBounds_toArray, List.set_cons_zero, List.set_cons_succ])
  refine wpHd_take (i := 11) (v := ?_) rfl (by kernel_rfl) (fun _ _ _ h => h) (Or.inl ⟨by rfl, ?hy⟩) hHeld ?_
  case hy => (intro w hSw; (try dsimp only at hSw); go_split_ands; go_simp; try (with_reducible rfl))
  (try simp only [Act.put, List.setIfInBounds_toArray, List.set_cons_zero, List.set_cons_succ])
  refine wpHd_take (i := 14) (v := ?_) rfl (by kernel_rfl) (fun _ _ _ h => h) (Or.inl ⟨by rfl, ?hy⟩) hHeld ?_
  case hy => (intro w hSw; (try dsimp only at hSw); go_split_ands; go_simp; try (with_reducible rfl))
  (try simp only [Act.put, List.setIfInBounds_toArray, List.set_cons_zero, List.set_cons_succ])
  refine wpHd_take (i := 15) (v := ?_) rfl (by kernel_rfl) (fun _ _ _ h => h) (Or.inl ⟨by rfl, ?hy⟩) hHeld ?_
  case hy => (intro w hSw; (try dsimp only at hSw); go_split_ands; go_simp; try (with_reducible rfl))
  (try simp only [Act.put, List.setIfInBounds_toArray, List.set_cons_zero, List.set_cons_succ])
  refine wpHd_take (i := 16) (v := ?_) rfl (by kernel_rfl) (fun _ _ _ h => h) (Or.inl ⟨by rfl, ?hy⟩) hHeld ?_
  case hy => (intro w hSw; (try dsimp only at hSw); go_split_ands; go_simp; try (with_reducible rfl))
  (try simp only [Act.put, List.setIfInBounds_toArray, List.set_cons_zero, List.set_cons_succ])
  refine wpHd_one (i := 3) rfl (by kernel_rfl) (fun K hK => ?_)
  go_simp
  refine (lay_any _ (ly (ly s r1 15 5 0) r2 20 5 0) 31 1 12 c t _ (ly_lt (ly_lt hs (by omega)) (by omega)) (by omega) (by omega) (by omega) (by omega) hct f5.cap f5.wd).mono ?_
  rintro e w3 ⟨rfl, h3, k3⟩
  have f6 := f5.call k3 h3
  refine hK.out _ _ (f6.box.cell 4) (fun hHeld => ?_)
  clear hK K
  (try simp only [Act.put, List.setIfInBounds_toArray, List.set_cons_zero, List.set_cons_succ])
  refine wpHd_one (i := 7) rfl (by kernel_rfl) (fun K hK => ?_)
  go_simp
  refine (lay_any _ (ly (ly (ly s r1 15 5 0) r2 20 5 0) im 31 1 12) 7 1 11 c t _ (ly_lt (ly_lt (ly_lt hs (by omega)) (by omega)) (by omega)) (by omega) (by omega) (by omega) (by omega) hct f6.cap f6.wd).mono ?_
  rintro e w4 ⟨rfl, h4, k4⟩
  have f7 := f6.call k4 h4
  refine hK.out _ _ (f7.box.cell 4) (fun hHeld => ?_)
  clear hK K
  (try simp only [Act.put, List.setIfInBounds_toArray, List.set_cons_zero, List.set_cons_succ])
  refine wpHd_take (i := 8) (v := ?_) rfl (by kernel_rfl) (fun _ _ _ h => h) (Or.inl ⟨by rfl, ?hy⟩) hHeld ?_
  case hy => (intro w hSw; (try dsimp only at hSw); go_split_ands; go_simp; try (with_reducible rfl))
  (try simp only [Act.put, List.setIfInBounds_toArray, List.set_cons_zero, List.set_cons_succ])
  refine wpHd_one (i := 12) rfl (by kernel_rfl) (fun K hK => ?_)
  go_simp
  refine (lay_any _ (ly (ly (ly (ly s r1 15 5 0) r2 20 5 0) im 31 1 12) im 7 1 11) 25 6 5 c t _ (ly_lt (ly_lt (ly_lt (ly_lt hs (by omega)) (by omega)) (by omega)) (by omega)) (by omega) (by omega) (by omega) (by omega) hct f7.cap f7.wd).mono ?_
  rintro e w5 ⟨rfl, h5, k5⟩
  have f8 := f7.call k5 h5
  refine hK.out _ _ (f8.box.cell 4) (fun hHeld => ?_)
  clear hK K
  (try simp only [Act.put, List.setIfInBounds_toArray, List.set_cons_zero, List.set_cons_succ])
  refine wpHd_take (i := 13) (v := ?_) rfl (by kernel_rfl) (fun _ _ _ h => h) (Or.inl ⟨by rfl, ?hy⟩) hHeld ?_
  case hy => (intro w hSw; (try dsimp only at hSw); go_split_ands; go_simp; try (with_reducible rfl))
  (try simp only [Act.put, List.setIfInBounds_toArray, List.set_cons_zero, List.set_cons_succ])
  refine wpHd_one (i := 17) rfl (by kernel_rfl) (fun K hK => ?_)
  go_simp
  refine (lay_any _ (ly (ly (ly (ly (ly s r1 15 5 0) r2 20 5 0) im 31 1 12) im 7 1 11) im 25 6 5) 8 4 1 c t _ (ly_lt (ly_lt (ly_lt (ly_lt (ly_lt hs (by omega)) (by omega)) (by omega)) (by omega)) (by omega)) (by omega) (by omega) (by omega) (by omega) hct f8.cap f8.wd).mono ?_
  rintro e w6 ⟨rfl, h6, k6⟩
  have f9 := f8.call k6 h6
  refine hK.out _ _ (f9.box.cell 4) (fun hHeld => ?_)
  clear hK K
  (try simp only [Act.put, List.setIfInBounds_toArray, List.set_cons_zero, List.set_cons_succ])
  refine wpHd_take (i := 18) (v := ?_) rfl (by kernel_rfl) (fun _ _ _ h => h) (Or.inl ⟨by rfl, ?hy⟩) hHeld ?_
  case hy => (intro w hSw; (try dsimp only at hSw); go_split_ands; go_simp; try (with_reducible rfl))
  (try simp only [Act.put, List.setIfInBounds_toArray, List.set_cons_zero, List.set_cons_succ])
  refine wpHd_one (i := 19) rfl (by kernel_rfl) (fun K hK => ?_)
  go_simp
  refine (signed_any _ 13 _ (by omega) (by omega)).mono ?_
  rintro e w' ⟨rfl, rfl⟩
  refine hK.out _ _ (f9.box.cell 4) (fun hHeld => ?_)
  clear hK K
  (try simp only [Act.put, List.setIfInBounds_toArray, List.set_cons_zero, List.set_cons_succ])
  refine ⟨by kernel_rfl, ?_⟩
  simp only [List.drop_succ_cons, List.drop_zero]
  clear b0 b1 b2 b3 b4 b5 b6 z
  obtain ⟨b0, b1, b2, b3, b4, b5, b6⟩ := f9.box.seven
  have z := f9.box.free
  obtain ⟨q0, q1, q2, q3, q4, q5, q6⟩ := f9.res.seven
  have y := f9.res.free
  go_wp2
  have g := f9.set 4 (.int .i64 (low (bits .or .i64 (bits .or .i64 (bits .or .i64 im im) im) im) 13))
  (try simp only [Exit.inBlock, Exit.then])
  refine bodyPost_ret (results_cell_row rfl _ _ (w.heap.size + 1) 28 _ (0, 0) _ rfl (g.res.seven_set _ _ _ _ _ _ _) Tryz.underlying28 rfl (by kernel_rfl)) rfl ⟨rfl, ?_⟩
  exact ⟨g.wd.seven_other (by have := g.ltt; omega) _ _ _ _ _ _ _, g.kp.seven_set (Nat.le_succ _) _ _ _ _ _ _ _⟩

set_option maxHeartbeats 1000000 in
theorem store_lay (op rd r1 r2 im od sz : Int) (s c t : Nat) (w : World) (hs : s < 4294967296) (hct : c ≠ t) (hc : Has w c 86 #[.pointer (some ⟨t, 0, none⟩)]) (ht : Has w t 40 #[.int .u32 s]) :
    Calls Tryz.prog 60 #[.agg (I7 op rd r1 r2 im od sz), .func (.func 69) #[] #[.pointer (some ⟨c, 0, none⟩)]] w fun e w' =>
      e = .returned (.agg (I7 op rd r1 r2 (low (bits .or .i64 im im) 12) od sz)) ∧ Has w' t 40 #[.int .u32 (ly (ly (ly (ly s r1 15 5 0) r2 20 5 0) im 25 7 5) im 7 5 0)] ∧ Kp (some t) w w' := by
  have f0 := FrL.start (I7 op rd r1 r2 im od sz) hct hc ht
  go_enter Tryz.func60, Tryz.ntmps60
  go_wp2_with fail
  refine (lay_any _ s 15 5 0 c t _ hs (by omega) (by omega) (by omega) (by omega) hct f0.cap f0.wd).mono ?_
  rintro e w1 ⟨rfl, h1, k1⟩
  have f1 := f0.call k1 h1
  obtain ⟨b0, b1, b2, b3, b4, b5, b6⟩ := f1.box.seven
  have z := f1.box.free
  go_wp2_with fail
  have f2 := f1.set 2 (.int .i64 r1)
  refine (lay_any _ (ly s r1 15 5 0) 20 5 0 c t _ (ly_lt hs (by omega)) (by omega) (by omega) (by omega) (by omega) hct f2.cap f2.wd).mono ?_
  rintro e w2 ⟨rfl, h2, k2⟩
  have f3 := f2.call k2 h2
  clear b0 b1 b2 b3 b4 b5 b6 z
  obtain ⟨b0, b1, b2, b3, b4, b5, b6⟩ := f3.box.seven
  have z := f3.box.free
  go_wp2_with fail
  have f4 := f3.set 3 (.int .i64 r2)
  have f5 := f4.drew
  refine wp_region_hd 10 (fun w' => w'.cell? ⟨w.heap.size, 4, none⟩ = some (.int .i64 im)) (by kernel_rfl) (by decide) (f5.box.cell 4) (fun hHeld => ?_)
  refine wpHd_take (i := 0) (v := ?_) rfl (by kernel_rfl) (fun _ _ _ h => h) (Or.inl ⟨by rfl, ?hy⟩) hHeld ?_
  case hy => (intro w hSw; (try dsimp only at hSw); go_split_ands; go_simp; try (with_reducible rfl))
  (try simp only [Act.put, List.setIfInBounds_toArray, List.set_cons_zero, List.set_cons_succ])
  refine wpHd_take (i := 1) (v := ?_) rfl (by kernel_rfl) (fun _ _ _ h => h) (Or.inl ⟨by rfl, ?hy⟩) hHeld ?_
  case hy => (intro w hSw; (try dsimp only at hSw); go_split_ands; go_simp; try (with_reducible rfl))
  (try simp only [Act.put, List.setIfInBounds_toArray, List.set_cons_zero, List.set_cons_succ])
  refine wpHd_take (i := 2) (v := ?_) rfl (by kernel_rfl) (fun _ _ _ h => h) (Or.inl ⟨by rfl, ?hy⟩) hHeld ?_
  case hy => (intro w hSw; (try dsimp only at hSw); go_split_ands; go_simp; try (with_reducible rfl))
  (try simp only [Act.put, List.setIfInBounds_toArray, List.set_cons_zero, List.set_cons_succ])
  refine wpHd_take (i := 4) (v := ?_) rfl (by kernel_rfl) (fun _ _ _ h => h) (Or.inl ⟨by rfl, ?hy⟩) hHeld ?_
  case hy => (intro w hSw; (try dsimp only at hSw); go_split_ands; go_simp; try (with_reducible rfl))
  (try simp only [Act.put, List.setIfInBounds_toArray, List.set_cons_zero, List.set_cons_succ])
  refine wpHd_take (i := 5) (v := ?_) rfl (by kernel_rfl) (fun _ _ _ h => h) (Or.inl ⟨by rfl, ?hy⟩) hHeld ?_
  case hy => (intro w hSw; (try dsimp only at hSw); go_split_ands; go_simp; try (with_reducible rfl))
  (try simp only [Act.put, List.setIfInBounds_toArray, List.set_cons_zero, List.set_cons_succ])
  refine wpHd_take (i := 6) (v := ?_) rfl (by kernel_rfl) (fun _ _ _ h => h) (Or.inl ⟨by rfl, ?hy⟩) hHeld ?_
  case hy => (intro w hSw; (try dsimp only at hSw); go_split_ands; go_simp; try (with_reducible rfl))
  (try simp only [Act.put, List.setIfInBounds_toArray, List.set_cons_zero, List.set_cons_succ])
  refine wpHd_one (i := 3) rfl (by kernel_rfl) (fun K hK => ?_)
  go_simp
  refine (lay_any _ (ly (ly s r1 15 5 0) r2 20 5 0) 25 7 5 c t _ (ly_lt (ly_lt hs (by omega)) (by omega)) (by omega) (by omega) (by omega) (by omega) hct f5.cap f5.wd).mono ?_
  rintro e w3 ⟨rfl, h3, k3⟩
  have f6 := f5.call k3 h3
  refine hK.out _ _ (f6.box.cell 4) (fun hHeld => ?_)
  clear hK K
  (try simp only [Act.put, List.setIfInBounds_toArray, List.set_cons_zero, List.set_cons_succ])
  refine wpHd_one (i := 7) rfl (by kernel_rfl) (fun K hK => ?_)
  go_simp
  refine (lay_any _ (ly (ly (ly s r1 15 5 0) r2 20 5 0) im 25 7 5) 7 5 0 c t _ (ly_lt (ly_lt (ly_lt hs (by omega)) (by omega)) (by omega)) (by omega) (by omega) (by omega) (by omega) hct f6.cap f6.wd).mono ?_
  rintro e w4 ⟨rfl, h4, k4⟩
  have f7 := f6.call k4 h4
  refine hK.out _ _ (f7.box.cell 4) (fun hHeld => ?_)
  clear hK K
  (try simp only [Act.put, List.setIfInBounds_toArray, List.set_cons_zero, List.set_cons_succ])
  refine wpHd_take (i := 8) (v := ?_) rfl (by kernel_rfl) (fun _ _ _ h => h) (Or.inl ⟨by rfl, ?hy⟩) hHeld ?_
  case hy => (intro w hSw; (try dsimp only at hSw); go_split_ands; go_simp; try (with_reducible rfl))
  (try simp only [Act.put, List.setIfInBounds_toArray, List.set_cons_zero, List.set_cons_succ])
  refine wpHd_one (i := 9) rfl (by kernel_rfl) (fun K hK => ?_)
  go_simp
  refine (signed_any _ 12 _ (by omega) (by omega)).mono ?_
  rintro e w' ⟨rfl, rfl⟩
  refine hK.out _ _ (f7.box.cell 4) (fun hHeld => ?_)
  clear hK K
  (try simp only [Act.put, List.setIfInBounds_toArray, List.set_cons_zero, List.set_cons_succ])
  refine ⟨by kernel_rfl, ?_⟩
  simp only [List.drop_succ_cons, List.drop_zero]
  clear b0 b1 b2 b3 b4 b5 b6 z
  obtain ⟨b0, b1, b2, b3, b4, b5, b6⟩ := f7.box.seven
  have z := f7.box.free
  obtain ⟨q0, q1, q2, q3, q4, q5, q6⟩ := f7.res.seven
  have y := f7.res.free
  go_wp2
  have g := f7.set 4 (.int .i64 (low (bits .or .i64 im im) 12))
  (try simp only [Exit.inBlock, Exit.then])
  refine bodyPost_ret (results_cell_row rfl _ _ (w.heap.size + 1) 28 _ (0, 0) _ rfl (g.res.seven_set _ _ _ _ _ _ _) Tryz.underlying28 rfl (by kernel_rfl)) rfl ⟨rfl, ?_⟩
  exact ⟨g.wd.seven_other (by have := g.ltt; omega) _ _ _ _ _ _ _, g.kp.seven_set (Nat.le_succ _) _ _ _ _ _ _ _⟩

set_option maxHeartbeats 1000000 in
theorem shift_lay (op rd r1 r2 im od sz : Int) (s c t : Nat) (w : World) (hs : s < 4294967296) (hct : c ≠ t) (hc : Has w c 86 #[.pointer (some ⟨t, 0, none⟩)]) (ht : Has w t 40 #[.int .u32 s]) (q Q : Nat) (hq20 : q ≤ 6) (hq : Has w Q 3 #[.int .i64 q]) (hqt : Q ≠ t) :
    Calls Tryz.prog 96 #[.agg (I7 op rd r1 r2 im od sz), .func (.func 69) #[] #[.pointer (some ⟨c, 0, none⟩)], .pointer (some ⟨Q, 0, none⟩)] w fun e w' =>
      e = .returned (.agg (I7 op rd r1 r2 im od sz)) ∧ Has w' t 40 #[.int .u32 (ly (ly (ly s rd 7 5 0) r1 15 5 0) im 20 q 0)] ∧ Kp (some t) w w' := by
  have f0 := FrL.start (I7 op rd r1 r2 im od sz) hct hc ht
  go_enter Tryz.func96, Tryz.ntmps96
  go_wp2_with fail
  refine (lay_any _ s 7 5 0 c t _ hs (by omega) (by omega) (by omega) (by omega) hct f0.cap f0.wd).mono ?_
  rintro e w1 ⟨rfl, h1, k1⟩
  have f1 := f0.call k1 h1
  obtain ⟨b0, b1, b2, b3, b4, b5, b6⟩ := f1.box.seven
  have z := f1.box.free
  have qq := (hq.kp f1.kp (by simpa using hqt)).cell 0
  simp at qq
  go_wp2_with fail
  have f2 := f1.set 1 (.int .i64 rd)
  refine (lay_any _ (ly s rd 7 5 0) 15 5 0 c t _ (ly_lt hs (by omega)) (by omega) (by omega) (by omega) (by omega) hct f2.cap f2.wd).mono ?_
  rintro e w2 ⟨rfl, h2, k2⟩
  have f3 := f2.call k2 h2
  clear b0 b1 b2 b3 b4 b5 b6 z qq
  obtain ⟨b0, b1, b2, b3, b4, b5, b6⟩ := f3.box.seven
  have z := f3.box.free
  have qq := (hq.kp f3.kp (by simpa using hqt)).cell 0
  simp at qq
  go_wp2_with fail
  have f4 := f3.set 2 (.int .i64 r1)
  refine (lay_any _ (ly (ly s rd 7 5 0) r1 15 5 0) 20 q 0 c t _ (ly_lt (ly_lt hs (by omega)) (by omega)) (by omega) (by omega) (by omega) (by omega) hct f4.cap f4.wd).mono ?_
  rintro e w3 ⟨rfl, h3, k3⟩
  have f5 := f4.call k3 h3
  clear b0 b1 b2 b3 b4 b5 b6 z qq
  obtain ⟨b0, b1, b2, b3, b4, b5, b6⟩ := f5.box.seven
  have z := f5.box.free
  obtain ⟨q0, q1, q2, q3, q4, q5, q6⟩ := f5.res.seven
  have y := f5.res.free
  have qq := (hq.kp f5.kp (by simpa using hqt)).cell 0
  simp at qq
  go_wp2
  have g := f5.set 4 (.int .i64 im)
  (try simp only [Exit.inBlock, Exit.then])
  refine bodyPost_ret (results_cell_row rfl _ _ (w.heap.size + 1) 28 _ (0, 0) _ rfl (g.res.seven_set _ _ _ _ _ _ _) Tryz.underlying28 rfl (by kernel_rfl)) rfl ⟨rfl, ?_⟩
  exact ⟨g.wd.seven_other (by have := g.ltt; omega) _ _ _ _ _ _ _, g.kp.seven_set (Nat.le_succ _) _ _ _ _ _ _ _⟩

end Go.Proofs.YtionnhjldcpmjaaGreatDoor
