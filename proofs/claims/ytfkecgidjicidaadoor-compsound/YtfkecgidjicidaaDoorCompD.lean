/-
  Contracts of the choice of a short instruction's kind.
-/
import Derived.Test.YtfkecgidjicidaaDoorCompC
set_option linter.unusedVariables false
set_option linter.unusedSimpArgs false
namespace Go.Proofs.YtfkecgidjicidaaDoor
open Go.RowKit

set_option maxHeartbeats 1000000 in
theorem instr_none (s g k : Nat) (w : World) (hs : s < 65536) (hT : TabsC w) (hg : pc s 0 2 = g) (hk : pc s 13 3 = k) (hop : opsT.getD (g * 8 + k) 0 = 0) : Calls Tryd.prog 12 #[.int .u16 s] w fun e w' => e = .returned (.agg (I7 0 0 0 0 0 0 0)) ∧ Kp none w w' := by
  have CG := Lib.hid (fun w => group_is s g w hs hg)
  have CK := Lib.hid (fun w => kind_is s k w hs hk)
  have g1 : (g : Int) < 4 := by have := pc_lt s 0 2; simp only [Nat.reducePow] at this; omega
  have k1 : (k : Int) < 8 := by have := pc_lt s 13 3; simp only [Nat.reducePow] at this; omega
  have g0 : (0 : Int) ≤ (g : Int) := by omega
  have k0 : (0 : Int) ≤ (k : Int) := by omega
  have HR := Lib.hid hT.o
  have hx := Lib.hid (fun (w' : World) (kk : Kp none w w') => (show w'.cell? ⟨0, g * 8 + k, none⟩ = some (.int .i64 0) by rw [← hop]; exact (HR.out.kp kk) (g * 8 + k) (by show g * 8 + k < 32; omega)))
  clear hT HR hs hg hk hop
  have k2 := (Kp.refl none w).alloc (I7 0 0 0 0 0 0 0) 24
  have b2 := Has.new w (I7 0 0 0 0 0 0 0) 24
  go_enter Tryd.func12, Tryd.ntmps12
  go_wp2_with fail
  refine wp_region_hd 7 (fun w' => Kp none w w' ∧ Has w' w.heap.size 24 (I7 0 0 0 0 0 0 0) ∧ w'.cell? ⟨0, g * 8 + k, none⟩ = some (.int .i64 0)) (by kernel_rfl) (by decide) ⟨k2.drew, b2.drew, hx.out _ k2.drew⟩ (fun hHeld => ?_)
  refine wpHd_take (i := 0) (v := ?_) rfl (by kernel_rfl) (fun _ _ _ h => h) (Or.inl ⟨by rfl, ?hy⟩) hHeld ?_
  case hy => (intro w hSw; (try dsimp only at hSw); go_split_ands; go_simp; try (with_reducible rfl))
  (try simp only [Act.put, List.setIfInBounds_toArray, List.set_cons_zero, List.set_cons_succ])
  refine wpHd_take (i := 2) (v := ?_) rfl (by kernel_rfl) (fun _ _ _ h => h) (Or.inl ⟨by rfl, ?hy⟩) hHeld ?_
  case hy => (intro w hSw; (try dsimp only at hSw); go_split_ands; go_simp; try (with_reducible rfl))
  (try simp only [Act.put, List.setIfInBounds_toArray, List.set_cons_zero, List.set_cons_succ])
  refine wpHd_one (i := 1) rfl (by kernel_rfl) (fun K hK => ?_)
  go_simp
  refine (CG.out _).mono ?_
  rintro e w2 ⟨rfl, hq⟩
  refine hK.out _ _ ?_ (fun hHeld => ?_)
  · exact ⟨hHeld.1.trans (kd hq), hHeld.2.1.kp (kd hq) (by simp), hx.out _ (hHeld.1.trans (kd hq))⟩
  clear hK K
  (try simp only [Act.put, List.setIfInBounds_toArray, List.set_cons_zero, List.set_cons_succ])
  refine wpHd_take (i := 4) (v := ?_) rfl (by kernel_rfl) (fun _ _ _ h => h) (Or.inl ⟨by rfl, ?hy⟩) hHeld ?_
  case hy => (intro w hSw; (try dsimp only at hSw); go_split_ands; go_simp; try (with_reducible rfl))
  (try simp only [Act.put, List.setIfInBounds_toArray, List.set_cons_zero, List.set_cons_succ])
  refine wpHd_one (i := 3) rfl (by kernel_rfl) (fun K hK => ?_)
  go_simp
  refine (CK.out _).mono ?_
  rintro e w2 ⟨rfl, hq⟩
  refine hK.out _ _ ?_ (fun hHeld => ?_)
  · exact ⟨hHeld.1.trans (kd hq), hHeld.2.1.kp (kd hq) (by simp), hx.out _ (hHeld.1.trans (kd hq))⟩
  clear hK K
  (try simp only [Act.put, List.setIfInBounds_toArray, List.set_cons_zero, List.set_cons_succ])
  refine wpHd_take (i := 5) (v := ?_) rfl (by kernel_rfl) (fun _ _ _ h => h) (Or.inl ⟨by rfl, ?hy⟩) hHeld ?_
  case hy => (intro w hSw; (try dsimp only at hSw); go_split_ands; go_simp; try (with_reducible rfl))
  (try simp only [Act.put, List.setIfInBounds_toArray, List.set_cons_zero, List.set_cons_succ])
  refine wpHd_take (i := 6) (v := ?_) rfl (by kernel_rfl) (fun _ _ _ h => h) (Or.inl ⟨by rfl, ?hy⟩) hHeld ?_
  case hy => (intro w hSw; (try dsimp only at hSw); go_split_ands; go_simp; try (with_reducible rfl))
  (try simp only [Act.put, List.setIfInBounds_toArray, List.set_cons_zero, List.set_cons_succ])
  refine ⟨by kernel_rfl, ?_⟩
  simp only [List.drop_succ_cons, List.drop_zero]
  obtain ⟨k3, b3, -⟩ := hHeld
  clear hx
  obtain ⟨q0, q1, q2, q3, q4, q5, q6⟩ := b3.seven
  have y := b3.free
  go_wp2
  (try simp only [Exit.inBlock, Exit.then])
  refine bodyPost_ret (results_cell_row rfl _ _ w.heap.size 24 _ (0, 0) _ rfl (b3.seven_set _ _ _ _ _ _ _) Tryd.underlying24 rfl (by kernel_rfl)) rfl ⟨rfl, ?_⟩
  exact k3.seven_set (Nat.le_refl _) _ _ _ _ _ _ _

set_option maxHeartbeats 1000000 in
theorem instr_small (s g k : Nat) (op : Int) (w : World) (hs : s < 65536) (hT : TabsC w) (hg : pc s 0 2 = g) (hk : pc s 13 3 = k) (hop : opsT.getD (g * 8 + k) 0 = op) (h0 : (op == 0) = false) (t0 : ((g : Int) == 0) = true) (a0 a1 a2 a3 a4 a5 a6 : Int) (HM : ∀ w', Kp none w w' → Calls Tryd.prog 21 #[.int .u16 s, .int .i64 op] w' fun e w'' => e = .returned (.agg (I7 a0 a1 a2 a3 a4 a5 a6)) ∧ Kp none w' w'') : Calls Tryd.prog 12 #[.int .u16 s] w fun e w' => e = .returned (.agg (I7 a0 a1 a2 a3 a4 a5 a6)) ∧ Kp none w w' := by
  have CG := Lib.hid (fun w => group_is s g w hs hg)
  have CK := Lib.hid (fun w => kind_is s k w hs hk)
  have g1 : (g : Int) < 4 := by have := pc_lt s 0 2; simp only [Nat.reducePow] at this; omega
  have k1 : (k : Int) < 8 := by have := pc_lt s 13 3; simp only [Nat.reducePow] at this; omega
  have g0 : (0 : Int) ≤ (g : Int) := by omega
  have k0 : (0 : Int) ≤ (k : Int) := by omega
  have HR := Lib.hid hT.o
  have hx := Lib.hid (fun (w' : World) (kk : Kp none w w') => (show w'.cell? ⟨0, g * 8 + k, none⟩ = some (.int .i64 op) by rw [← hop]; exact (HR.out.kp kk) (g * 8 + k) (by show g * 8 + k < 32; omega)))
  clear hT HR hs hg hk hop
  have k2 := (Kp.refl none w).alloc (I7 0 0 0 0 0 0 0) 24
  have b2 := Has.new w (I7 0 0 0 0 0 0 0) 24
  have CM := Lib.hid HM; clear HM
  go_enter Tryd.func12, Tryd.ntmps12
  go_wp2_with fail
  refine wp_region_hd 7 (fun w' => Kp none w w' ∧ Has w' w.heap.size 24 (I7 0 0 0 0 0 0 0) ∧ w'.cell? ⟨0, g * 8 + k, none⟩ = some (.int .i64 op)) (by kernel_rfl) (by decide) ⟨k2.drew, b2.drew, hx.out _ k2.drew⟩ (fun hHeld => ?_)
  refine wpHd_take (i := 0) (v := ?_) rfl (by kernel_rfl) (fun _ _ _ h => h) (Or.inl ⟨by rfl, ?hy⟩) hHeld ?_
  case hy => (intro w hSw; (try dsimp only at hSw); go_split_ands; go_simp; try (with_reducible rfl))
  (try simp only [Act.put, List.setIfInBounds_toArray, List.set_cons_zero, List.set_cons_succ])
  refine wpHd_take (i := 2) (v := ?_) rfl (by kernel_rfl) (fun _ _ _ h => h) (Or.inl ⟨by rfl, ?hy⟩) hHeld ?_
  case hy => (intro w hSw; (try dsimp only at hSw); go_split_ands; go_simp; try (with_reducible rfl))
  (try simp only [Act.put, List.setIfInBounds_toArray, List.set_cons_zero, List.set_cons_succ])
  refine wpHd_one (i := 1) rfl (by kernel_rfl) (fun K hK => ?_)
  go_simp
  refine (CG.out _).mono ?_
  rintro e w2 ⟨rfl, hq⟩
  refine hK.out _ _ ?_ (fun hHeld => ?_)
  · exact ⟨hHeld.1.trans (kd hq), hHeld.2.1.kp (kd hq) (by simp), hx.out _ (hHeld.1.trans (kd hq))⟩
  clear hK K
  (try simp only [Act.put, List.setIfInBounds_toArray, List.set_cons_zero, List.set_cons_succ])
  refine wpHd_take (i := 4) (v := ?_) rfl (by kernel_rfl) (fun _ _ _ h => h) (Or.inl ⟨by rfl, ?hy⟩) hHeld ?_
  case hy => (intro w hSw; (try dsimp only at hSw); go_split_ands; go_simp; try (with_reducible rfl))
  (try simp only [Act.put, List.setIfInBounds_toArray, List.set_cons_zero, List.set_cons_succ])
  refine wpHd_one (i := 3) rfl (by kernel_rfl) (fun K hK => ?_)
  go_simp
  refine (CK.out _).mono ?_
  rintro e w2 ⟨rfl, hq⟩
  refine hK.out _ _ ?_ (fun hHeld => ?_)
  · exact ⟨hHeld.1.trans (kd hq), hHeld.2.1.kp (kd hq) (by simp), hx.out _ (hHeld.1.trans (kd hq))⟩
  clear hK K
  (try simp only [Act.put, List.setIfInBounds_toArray, List.set_cons_zero, List.set_cons_succ])
  refine wpHd_take (i := 5) (v := ?_) rfl (by kernel_rfl) (fun _ _ _ h => h) (Or.inl ⟨by rfl, ?hy⟩) hHeld ?_
  case hy => (intro w hSw; (try dsimp only at hSw); go_split_ands; go_simp; try (with_reducible rfl))
  (try simp only [Act.put, List.setIfInBounds_toArray, List.set_cons_zero, List.set_cons_succ])
  refine wpHd_take (i := 6) (v := ?_) rfl (by kernel_rfl) (fun _ _ _ h => h) (Or.inl ⟨by rfl, ?hy⟩) hHeld ?_
  case hy => (intro w hSw; (try dsimp only at hSw); go_split_ands; go_simp; try (with_reducible rfl))
  (try simp only [Act.put, List.setIfInBounds_toArray, List.set_cons_zero, List.set_cons_succ])
  refine ⟨by kernel_rfl, ?_⟩
  simp only [List.drop_succ_cons, List.drop_zero]
  obtain ⟨k3, b3, -⟩ := hHeld
  clear hx
  have HK := Lib.hid k3; have HB := Lib.hid b3; clear k3 b3
  go_wp2_with fail
  refine (CG.out _).mono ?_
  rintro e w4 ⟨rfl, hq⟩
  have k3 := HK.out.trans (kd hq); have b3 := HB.out.kp (kd hq) (by simp)
  clear HK HB hq; have HK := Lib.hid k3; have HB := Lib.hid b3; clear k3 b3
  go_wp2_with fail
  refine (CM.out _ HK.out).mono ?_
  rintro e w5 ⟨rfl, hq⟩
  have k3 := HK.out.trans hq; have b3 := HB.out.kp hq (by simp)
  clear HK HB hq CM CK CG
  obtain ⟨q0, q1, q2, q3, q4, q5, q6⟩ := b3.seven
  have y := b3.free
  go_wp2
  (try simp only [Exit.inBlock, Exit.then])
  refine bodyPost_ret (results_cell_row rfl _ _ w.heap.size 24 _ (0, 0) _ rfl (b3.seven_set _ _ _ _ _ _ _) Tryd.underlying24 rfl (by kernel_rfl)) rfl ⟨rfl, ?_⟩
  exact k3.seven_set (Nat.le_refl _) _ _ _ _ _ _ _

set_option maxHeartbeats 1000000 in
theorem instr_constant (s g k : Nat) (op : Int) (w : World) (hs : s < 65536) (hT : TabsC w) (hg : pc s 0 2 = g) (hk : pc s 13 3 = k) (hop : opsT.getD (g * 8 + k) 0 = op) (h0 : (op == 0) = false) (t0 : ((g : Int) == 0) = false) (t1 : ((g : Int) == 1) = true) (a0 a1 a2 a3 a4 a5 a6 : Int) (HM : ∀ w', Kp none w w' → Calls Tryd.prog 22 #[.int .u16 s, .int .i64 op] w' fun e w'' => e = .returned (.agg (I7 a0 a1 a2 a3 a4 a5 a6)) ∧ Kp none w' w'') : Calls Tryd.prog 12 #[.int .u16 s] w fun e w' => e = .returned (.agg (I7 a0 a1 a2 a3 a4 a5 a6)) ∧ Kp none w w' := by
  have CG := Lib.hid (fun w => group_is s g w hs hg)
  have CK := Lib.hid (fun w => kind_is s k w hs hk)
  have g1 : (g : Int) < 4 := by have := pc_lt s 0 2; simp only [Nat.reducePow] at this; omega
  have k1 : (k : Int) < 8 := by have := pc_lt s 13 3; simp only [Nat.reducePow] at this; omega
  have g0 : (0 : Int) ≤ (g : Int) := by omega
  have k0 : (0 : Int) ≤ (k : Int) := by omega
  have HR := Lib.hid hT.o
  have hx := Lib.hid (fun (w' : World) (kk : Kp none w w') => (show w'.cell? ⟨0, g * 8 + k, none⟩ = some (.int .i64 op) by rw [← hop]; exact (HR.out.kp kk) (g * 8 + k) (by show g * 8 + k < 32; omega)))
  clear hT HR hs hg hk hop
  have k2 := (Kp.refl none w).alloc (I7 0 0 0 0 0 0 0) 24
  have b2 := Has.new w (I7 0 0 0 0 0 0 0) 24
  have CM := Lib.hid HM; clear HM
  go_enter Tryd.func12, Tryd.ntmps12
  go_wp2_with fail
  refine wp_region_hd 7 (fun w' => Kp none w w' ∧ Has w' w.heap.size 24 (I7 0 0 0 0 0 0 0) ∧ w'.cell? ⟨0, g * 8 + k, none⟩ = some (.int .i64 op)) (by kernel_rfl) (by decide) ⟨k2.drew, b2.drew, hx.out _ k2.drew⟩ (fun hHeld => ?_)
  refine wpHd_take (i := 0) (v := ?_) rfl (by kernel_rfl) (fun _ _ _ h => h) (Or.inl ⟨by rfl, ?hy⟩) hHeld ?_
  case hy => (intro w hSw; (try dsimp only at hSw); go_split_ands; go_simp; try (with_reducible rfl))
  (try simp only [Act.put, List.setIfInBounds_toArray, List.set_cons_zero, List.set_cons_succ])
  refine wpHd_take (i := 2) (v := ?_) rfl (by kernel_rfl) (fun _ _ _ h => h) (Or.inl ⟨by rfl, ?hy⟩) hHeld ?_
  case hy => (intro w hSw; (try dsimp only at hSw); go_split_ands; go_simp; try (with_reducible rfl))
  (try simp only [Act.put, List.setIfInBounds_toArray, List.set_cons_zero, List.set_cons_succ])
  refine wpHd_one (i := 1) rfl (by kernel_rfl) (fun K hK => ?_)
  go_simp
  refine (CG.out _).mono ?_
  rintro e w2 ⟨rfl, hq⟩
  refine hK.out _ _ ?_ (fun hHeld => ?_)
  · exact ⟨hHeld.1.trans (kd hq), hHeld.2.1.kp (kd hq) (by simp), hx.out _ (hHeld.1.trans (kd hq))⟩
  clear hK K
  (try simp only [Act.put, List.setIfInBounds_toArray, List.set_cons_zero, List.set_cons_succ])
  refine wpHd_take (i := 4) (v := ?_) rfl (by kernel_rfl) (fun _ _ _ h => h) (Or.inl ⟨by rfl, ?hy⟩) hHeld ?_
  case hy => (intro w hSw; (try dsimp only at hSw); go_split_ands; go_simp; try (with_reducible rfl))
  (try simp only [Act.put, List.setIfInBounds_toArray, List.set_cons_zero, List.set_cons_succ])
  refine wpHd_one (i := 3) rfl (by kernel_rfl) (fun K hK => ?_)
  go_simp
  refine (CK.out _).mono ?_
  rintro e w2 ⟨rfl, hq⟩
  refine hK.out _ _ ?_ (fun hHeld => ?_)
  · exact ⟨hHeld.1.trans (kd hq), hHeld.2.1.kp (kd hq) (by simp), hx.out _ (hHeld.1.trans (kd hq))⟩
  clear hK K
  (try simp only [Act.put, List.setIfInBounds_toArray, List.set_cons_zero, List.set_cons_succ])
  refine wpHd_take (i := 5) (v := ?_) rfl (by kernel_rfl) (fun _ _ _ h => h) (Or.inl ⟨by rfl, ?hy⟩) hHeld ?_
  case hy => (intro w hSw; (try dsimp only at hSw); go_split_ands; go_simp; try (with_reducible rfl))
  (try simp only [Act.put, List.setIfInBounds_toArray, List.set_cons_zero, List.set_cons_succ])
  refine wpHd_take (i := 6) (v := ?_) rfl (by kernel_rfl) (fun _ _ _ h => h) (Or.inl ⟨by rfl, ?hy⟩) hHeld ?_
  case hy => (intro w hSw; (try dsimp only at hSw); go_split_ands; go_simp; try (with_reducible rfl))
  (try simp only [Act.put, List.setIfInBounds_toArray, List.set_cons_zero, List.set_cons_succ])
  refine ⟨by kernel_rfl, ?_⟩
  simp only [List.drop_succ_cons, List.drop_zero]
  obtain ⟨k3, b3, -⟩ := hHeld
  clear hx
  have HK := Lib.hid k3; have HB := Lib.hid b3; clear k3 b3
  go_wp2_with fail
  refine (CG.out _).mono ?_
  rintro e w4 ⟨rfl, hq⟩
  have k3 := HK.out.trans (kd hq); have b3 := HB.out.kp (kd hq) (by simp)
  clear HK HB hq; have HK := Lib.hid k3; have HB := Lib.hid b3; clear k3 b3
  go_wp2_with fail
  refine (CM.out _ HK.out).mono ?_
  rintro e w5 ⟨rfl, hq⟩
  have k3 := HK.out.trans hq; have b3 := HB.out.kp hq (by simp)
  clear HK HB hq CM CK CG
  obtain ⟨q0, q1, q2, q3, q4, q5, q6⟩ := b3.seven
  have y := b3.free
  go_wp2
  (try simp only [Exit.inBlock, Exit.then])
  refine bodyPost_ret (results_cell_row rfl _ _ w.heap.size 24 _ (0, 0) _ rfl (b3.seven_set _ _ _ _ _ _ _) Tryd.underlying24 rfl (by kernel_rfl)) rfl ⟨rfl, ?_⟩
  exact k3.seven_set (Nat.le_refl _) _ _ _ _ _ _ _

set_option maxHeartbeats 1000000 in
theorem instr_whole (s g k : Nat) (op : Int) (w : World) (hs : s < 65536) (hT : TabsC w) (hg : pc s 0 2 = g) (hk : pc s 13 3 = k) (hop : opsT.getD (g * 8 + k) 0 = op) (h0 : (op == 0) = false) (t0 : ((g : Int) == 0) = false) (t1 : ((g : Int) == 1) = false) (a0 a1 a2 a3 a4 a5 a6 : Int) (HM : ∀ w', Kp none w w' → Calls Tryd.prog 23 #[.int .u16 s, .int .i64 op] w' fun e w'' => e = .returned (.agg (I7 a0 a1 a2 a3 a4 a5 a6)) ∧ Kp none w' w'') : Calls Tryd.prog 12 #[.int .u16 s] w fun e w' => e = .returned (.agg (I7 a0 a1 a2 a3 a4 a5 a6)) ∧ Kp none w w' := by
  have CG := Lib.hid (fun w => group_is s g w hs hg)
  have CK := Lib.hid (fun w => kind_is s k w hs hk)
  have g1 : (g : Int) < 4 := by have := pc_lt s 0 2; simp only [Nat.reducePow] at this; omega
  have k1 : (k : Int) < 8 := by have := pc_lt s 13 3; simp only [Nat.reducePow] at this; omega
  have g0 : (0 : Int) ≤ (g : Int) := by omega
  have k0 : (0 : Int) ≤ (k : Int) := by omega
  have HR := Lib.hid hT.o
  have hx := Lib.hid (fun (w' : World) (kk : Kp none w w') => (show w'.cell? ⟨0, g * 8 + k, none⟩ = some (.int .i64 op) by rw [← hop]; exact (HR.out.kp kk) (g * 8 + k) (by show g * 8 + k < 32; omega)))
  clear hT HR hs hg hk hop
  have k2 := (Kp.refl none w).alloc (I7 0 0 0 0 0 0 0) 24
  have b2 := Has.new w (I7 0 0 0 0 0 0 0) 24
  have CM := Lib.hid HM; clear HM
  go_enter Tryd.func12, Tryd.ntmps12
  go_wp2_with fail
  refine wp_region_hd 7 (fun w' => Kp none w w' ∧ Has w' w.heap.size 24 (I7 0 0 0 0 0 0 0) ∧ w'.cell? ⟨0, g * 8 + k, none⟩ = some (.int .i64 op)) (by kernel_rfl) (by decide) ⟨k2.drew, b2.drew, hx.out _ k2.drew⟩ (fun hHeld => ?_)
  refine wpHd_take (i := 0) (v := ?_) rfl (by kernel_rfl) (fun _ _ _ h => h) (Or.inl ⟨by rfl, ?hy⟩) hHeld ?_
  case hy => (intro w hSw; (try dsimp only at hSw); go_split_ands; go_simp; try (with_reducible rfl))
  (try simp only [Act.put, List.setIfInBounds_toArray, List.set_cons_zero, List.set_cons_succ])
  refine wpHd_take (i := 2) (v := ?_) rfl (by kernel_rfl) (fun _ _ _ h => h) (Or.inl ⟨by rfl, ?hy⟩) hHeld ?_
  case hy => (intro w hSw; (try dsimp only at hSw); go_split_ands; go_simp; try (with_reducible rfl))
  (try simp only [Act.put, List.setIfInBounds_toArray, List.set_cons_zero, List.set_cons_succ])
  refine wpHd_one (i := 1) rfl (by kernel_rfl) (fun K hK => ?_)
  go_simp
  refine (CG.out _).mono ?_
  rintro e w2 ⟨rfl, hq⟩
  refine hK.out _ _ ?_ (fun hHeld => ?_)
  · exact ⟨hHeld.1.trans (kd hq), hHeld.2.1.kp (kd hq) (by simp), hx.out _ (hHeld.1.trans (kd hq))⟩
  clear hK K
  (try simp only [Act.put, List.setIfInBounds_toArray, List.set_cons_zero, List.set_cons_succ])
  refine wpHd_take (i := 4) (v := ?_) rfl (by kernel_rfl) (fun _ _ _ h => h) (Or.inl ⟨by rfl, ?hy⟩) hHeld ?_
  case hy => (intro w hSw; (try dsimp only at hSw); go_split_ands; go_simp; try (with_reducible rfl))
  (try simp only [Act.put, List.setIfInBounds_toArray, List.set_cons_zero, List.set_cons_succ])
  refine wpHd_one (i := 3) rfl (by kernel_rfl) (fun K hK => ?_)
  go_simp
  refine (CK.out _).mono ?_
  rintro e w2 ⟨rfl, hq⟩
  refine hK.out _ _ ?_ (fun hHeld => ?_)
  · exact ⟨hHeld.1.trans (kd hq), hHeld.2.1.kp (kd hq) (by simp), hx.out _ (hHeld.1.trans (kd hq))⟩
  clear hK K
  (try simp only [Act.put, List.setIfInBounds_toArray, List.set_cons_zero, List.set_cons_succ])
  refine wpHd_take (i := 5) (v := ?_) rfl (by kernel_rfl) (fun _ _ _ h => h) (Or.inl ⟨by rfl, ?hy⟩) hHeld ?_
  case hy => (intro w hSw; (try dsimp only at hSw); go_split_ands; go_simp; try (with_reducible rfl))
  (try simp only [Act.put, List.setIfInBounds_toArray, List.set_cons_zero, List.set_cons_succ])
  refine wpHd_take (i := 6) (v := ?_) rfl (by kernel_rfl) (fun _ _ _ h => h) (Or.inl ⟨by rfl, ?hy⟩) hHeld ?_
  case hy => (intro w hSw; (try dsimp only at hSw); go_split_ands; go_simp; try (with_reducible rfl))
  (try simp only [Act.put, List.setIfInBounds_toArray, List.set_cons_zero, List.set_cons_succ])
  refine ⟨by kernel_rfl, ?_⟩
  simp only [List.drop_succ_cons, List.drop_zero]
  obtain ⟨k3, b3, -⟩ := hHeld
  clear hx
  have HK := Lib.hid k3; have HB := Lib.hid b3; clear k3 b3
  go_wp2_with fail
  refine (CG.out _).mono ?_
  rintro e w4 ⟨rfl, hq⟩
  have k3 := HK.out.trans (kd hq); have b3 := HB.out.kp (kd hq) (by simp)
  clear HK HB hq; have HK := Lib.hid k3; have HB := Lib.hid b3; clear k3 b3
  go_wp2_with fail
  refine (CM.out _ HK.out).mono ?_
  rintro e w5 ⟨rfl, hq⟩
  have k3 := HK.out.trans hq; have b3 := HB.out.kp hq (by simp)
  clear HK HB hq CM CK CG
  obtain ⟨q0, q1, q2, q3, q4, q5, q6⟩ := b3.seven
  have y := b3.free
  go_wp2
  (try simp only [Exit.inBlock, Exit.then])
  refine bodyPost_ret (results_cell_row rfl _ _ w.heap.size 24 _ (0, 0) _ rfl (b3.seven_set _ _ _ _ _ _ _) Tryd.underlying24 rfl (by kernel_rfl)) rfl ⟨rfl, ?_⟩
  exact k3.seven_set (Nat.le_refl _) _ _ _ _ _ _ _

/-- A short instruction's parts, but for its size. -/
structure Sh where
  op : Int
  rd : Int
  r1 : Int
  r2 : Int
  im : Int
deriving DecidableEq
abbrev Sh.cells (i : Sh) (sz : Int) : Array Value := I7 i.op i.rd i.r1 i.r2 i.im 0 sz
def Sh.zero : Sh := ⟨0, 0, 0, 0, 0⟩
def exReckon (s : Nat) : Sh :=
  if pc s 10 2 = 0 then ⟨29, (pc s 7 3 : Nat) + 8, (pc s 7 3 : Nat) + 8, 0, (shiftN s : Nat)⟩
  else if pc s 10 2 = 1 then ⟨30, (pc s 7 3 : Nat) + 8, (pc s 7 3 : Nat) + 8, 0, (shiftN s : Nat)⟩
  else if pc s 10 2 = 2 then ⟨27, (pc s 7 3 : Nat) + 8, (pc s 7 3 : Nat) + 8, 0, low (shiftN s : Nat) 6⟩
  else ⟨recT.getD (reckN s) 0, (pc s 7 3 : Nat) + 8, (pc s 7 3 : Nat) + 8, (pc s 2 3 : Nat) + 8, 0⟩
def exMove (s : Nat) : Sh :=
  if pc s 2 5 = 0 then
    (if pc s 7 5 = 0 then (if pc s 12 1 = 1 then ⟨88, 0, 0, 0, 0⟩ else Sh.zero)
     else (if pc s 12 1 = 1 then ⟨4, 1, (pc s 7 5 : Nat), 0, 0⟩ else ⟨4, 0, (pc s 7 5 : Nat), 0, 0⟩))
  else (if pc s 12 1 = 1 then ⟨31, (pc s 7 5 : Nat), (pc s 7 5 : Nat), (pc s 2 5 : Nat), 0⟩ else ⟨31, (pc s 7 5 : Nat), 0, (pc s 2 5 : Nat), 0⟩)
def exUpper (s : Nat) : Sh :=
  if low (shiftN s : Nat) 6 = 0 then Sh.zero
  else if pc s 7 5 = 2 then ⟨22, 2, 2, 0, low (stackN s : Nat) 10⟩
  else ⟨1, (pc s 7 5 : Nat), 0, 0, low (shiftN s : Nat) 6 * 4096⟩
/-- Which instruction a short one is, but for its size; the operator is 0 where it is none. -/
def ex (s : Nat) : Sh :=
  match pc s 0 2 * 8 + pc s 13 3 with
  | 0 => if frameN s = 0 then Sh.zero else ⟨22, (pc s 2 3 : Nat) + 8, 2, 0, (frameN s : Nat)⟩
  | 2 => ⟨13, (pc s 2 3 : Nat) + 8, (pc s 7 3 : Nat) + 8, 0, (wordsN s : Nat)⟩
  | 3 => ⟨14, (pc s 2 3 : Nat) + 8, (pc s 7 3 : Nat) + 8, 0, (doublesN s : Nat)⟩
  | 6 => ⟨20, 0, (pc s 7 3 : Nat) + 8, (pc s 2 3 : Nat) + 8, (wordsN s : Nat)⟩
  | 7 => ⟨21, 0, (pc s 7 3 : Nat) + 8, (pc s 2 3 : Nat) + 8, (doublesN s : Nat)⟩
  | 8 => ⟨22, (pc s 7 5 : Nat), (pc s 7 5 : Nat), 0, low (shiftN s : Nat) 6⟩
  | 9 => if pc s 7 5 = 0 then Sh.zero else ⟨41, (pc s 7 5 : Nat), (pc s 7 5 : Nat), 0, low (shiftN s : Nat) 6⟩
  | 10 => ⟨22, (pc s 7 5 : Nat), 0, 0, low (shiftN s : Nat) 6⟩
  | 11 => exUpper s
  | 12 => exReckon s
  | 13 => ⟨3, 0, 0, 0, low (jumpN s : Nat) 12⟩
  | 14 => ⟨5, 0, (pc s 7 3 : Nat) + 8, 0, low (branchN s : Nat) 9⟩
  | 15 => ⟨6, 0, (pc s 7 3 : Nat) + 8, 0, low (branchN s : Nat) 9⟩
  | 16 => ⟨28, (pc s 7 5 : Nat), (pc s 7 5 : Nat), 0, (shiftN s : Nat)⟩
  | 18 => if pc s 7 5 = 0 then Sh.zero else ⟨13, (pc s 7 5 : Nat), 2, 0, (loadW s : Nat)⟩
  | 19 => if pc s 7 5 = 0 then Sh.zero else ⟨14, (pc s 7 5 : Nat), 2, 0, (loadD s : Nat)⟩
  | 20 => exMove s
  | 22 => ⟨20, 0, 2, (pc s 2 5 : Nat), (storeW s : Nat)⟩
  | 23 => ⟨21, 0, 2, (pc s 2 5 : Nat), (storeD s : Nat)⟩
  | _ => Sh.zero
theorem top_bit (s k : Nat) (hk : pc s 13 3 = k) : pc s 15 1 = k / 4 := by subst hk; unfold pc; omega
theorem dbl_bit (s k : Nat) (hk : pc s 13 3 = k) : pc s 13 1 = k % 2 := by subst hk; unfold pc; omega
theorem ne0 {v : Nat} (h : ¬ v = 0) : ((v : Int) == 0) = false := by simp; omega
theorem ne0' {v : Nat} (h : ¬ v = 0) : ((v : Int) != 0) = true := by simp; omega
theorem bit2 (s : Nat) (h : ¬ pc s 12 1 = 1) : pc s 12 1 = 0 := by have := pc_lt s 12 1; simp only [Nat.reducePow] at this; omega

/-- instruction. -/
theorem instruction_any (s : Nat) (w : World) (hs : s < 65536) (hT : TabsC w) : Calls Tryd.prog 12 #[.int .u16 s] w fun e w' => e = .returned (.agg ((ex s).cells 0)) ∧ Kp none w w' := by
  have hg := pc_lt s 0 2
  have hk := pc_lt s 13 3
  simp only [Nat.reducePow] at hg hk
  have hE : ex s = ex s := rfl
  conv at hE => rhs; unfold ex
  obtain ⟨g, eg⟩ : ∃ g, pc s 0 2 = g := ⟨_, rfl⟩
  obtain ⟨k, ek⟩ : ∃ k, pc s 13 3 = k := ⟨_, rfl⟩
  have e15 := top_bit s k ek
  have e13 := dbl_bit s k ek
  rw [eg] at hg hE
  rw [ek] at hk hE
  have hgs : g = 0 ∨ g = 1 ∨ g = 2 ∨ g = 3 := by omega
  have hks : k = 0 ∨ k = 1 ∨ k = 2 ∨ k = 3 ∨ k = 4 ∨ k = 5 ∨ k = 6 ∨ k = 7 := by omega
  clear hg hk
  rcases hgs with rfl | rfl | rfl | rfl
  · rcases hks with rfl | rfl | rfl | rfl | rfl | rfl | rfl | rfl
    · by_cases h : frameN s = 0
      · have hE2 : ex s = Sh.zero := by rw [hE]; exact if_pos h
        rw [hE2]; exact (instr_small s 0 0 22 w hs hT eg ek rfl (by decide) (by decide) _ _ _ _ _ _ _ (fun w' kw => small_none s 22 w' hs ek h))
      · have hE2 : ex s = ⟨22, (pc s 2 3 : Nat) + 8, 2, 0, (frameN s : Nat)⟩ := by rw [hE]; exact if_neg h
        rw [hE2]; exact (instr_small s 0 0 22 w hs hT eg ek rfl (by decide) (by decide) _ _ _ _ _ _ _ (fun w' kw => small_add s 22 w' hs ek (ne0 h)))
    · rw [hE]; exact (instr_none s 0 1 w hs hT eg ek rfl)
    · rw [hE]; exact (instr_small s 0 2 13 w hs hT eg ek rfl (by decide) (by decide) _ _ _ _ _ _ _ (fun w' kw => small_load s 13 w' hs 2 ek (by decide) e15 _ (fun w'' => offset_w s w'' hs e13)))
    · rw [hE]; exact (instr_small s 0 3 14 w hs hT eg ek rfl (by decide) (by decide) _ _ _ _ _ _ _ (fun w' kw => small_load s 14 w' hs 3 ek (by decide) e15 _ (fun w'' => offset_d s w'' hs e13)))
    · rw [hE]; exact (instr_none s 0 4 w hs hT eg ek rfl)
    · rw [hE]; exact (instr_none s 0 5 w hs hT eg ek rfl)
    · rw [hE]; exact (instr_small s 0 6 20 w hs hT eg ek rfl (by decide) (by decide) _ _ _ _ _ _ _ (fun w' kw => small_store s 20 w' hs 6 ek (by decide) e15 _ (fun w'' => offset_w s w'' hs e13)))
    · rw [hE]; exact (instr_small s 0 7 21 w hs hT eg ek rfl (by decide) (by decide) _ _ _ _ _ _ _ (fun w' kw => small_store s 21 w' hs 7 ek (by decide) e15 _ (fun w'' => offset_d s w'' hs e13)))
  · rcases hks with rfl | rfl | rfl | rfl | rfl | rfl | rfl | rfl
    · rw [hE]; exact (instr_constant s 1 0 22 w hs hT eg ek rfl (by decide) (by decide) (by decide) _ _ _ _ _ _ _ (fun w' kw => constant_addi s w' hs ek))
    · by_cases h : pc s 7 5 = 0
      · have hE2 : ex s = Sh.zero := by rw [hE]; exact if_pos h
        rw [hE2]; exact (instr_constant s 1 1 41 w hs hT eg ek rfl (by decide) (by decide) (by decide) _ _ _ _ _ _ _ (fun w' kw => constant_none s w' hs ek h))
      · have hE2 : ex s = ⟨41, (pc s 7 5 : Nat), (pc s 7 5 : Nat), 0, low (shiftN s : Nat) 6⟩ := by rw [hE]; exact if_neg h
        rw [hE2]; exact (instr_constant s 1 1 41 w hs hT eg ek rfl (by decide) (by decide) (by decide) _ _ _ _ _ _ _ (fun w' kw => constant_addiw s w' hs ek (ne0 h) (ne0' h)))
    · rw [hE]; exact (instr_constant s 1 2 22 w hs hT eg ek rfl (by decide) (by decide) (by decide) _ _ _ _ _ _ _ (fun w' kw => constant_li s 22 w' hs ek))
    · have hE1 : ex s = exUpper s := hE
      by_cases h : low (shiftN s : Nat) 6 = 0
      · have hE2 : ex s = Sh.zero := by rw [hE1]; exact if_pos h
        rw [hE2]; exact (instr_constant s 1 3 1 w hs hT eg ek rfl (by decide) (by decide) (by decide) _ _ _ _ _ _ _ (fun w' kw => constant_upper s 1 w' hs ek _ _ _ _ _ _ _ (fun w'' _ => upper_none s 1 w'' hs h)))
      · by_cases h2 : pc s 7 5 = 2
        · have hE2 : ex s = ⟨22, 2, 2, 0, low (stackN s : Nat) 10⟩ := by rw [hE1]; unfold exUpper; rw [if_neg h, if_pos h2]
          rw [hE2]; exact (instr_constant s 1 3 1 w hs hT eg ek rfl (by decide) (by decide) (by decide) _ _ _ _ _ _ _ (fun w' kw => constant_upper s 1 w' hs ek _ _ _ _ _ _ _ (fun w'' _ => upper_stack s 1 w'' hs (by simpa using h) h2)))
        · have hE2 : ex s = ⟨1, (pc s 7 5 : Nat), 0, 0, low (shiftN s : Nat) 6 * 4096⟩ := by rw [hE1]; unfold exUpper; rw [if_neg h, if_neg h2]
          rw [hE2]; exact (instr_constant s 1 3 1 w hs hT eg ek rfl (by decide) (by decide) (by decide) _ _ _ _ _ _ _ (fun w' kw => constant_upper s 1 w' hs ek _ _ _ _ _ _ _ (fun w'' _ => upper_lui s 1 w'' hs (by simpa using h) (by simp; omega))))
    · have hE1 : ex s = exReckon s := hE
      have hj := pc_lt s 10 2
      simp only [Nat.reducePow] at hj
      by_cases j0 : pc s 10 2 = 0
      · have hE2 : ex s = ⟨29, (pc s 7 3 : Nat) + 8, (pc s 7 3 : Nat) + 8, 0, (shiftN s : Nat)⟩ := by rw [hE1]; exact if_pos j0
        rw [hE2]; exact (instr_constant s 1 4 27 w hs hT eg ek rfl (by decide) (by decide) (by decide) _ _ _ _ _ _ _ (fun w' kw => constant_reckon s 27 w' hs ek _ _ _ _ _ _ _ (fun w'' _ => reckon_srli s 27 w'' hs j0)))
      by_cases j1 : pc s 10 2 = 1
      · have hE2 : ex s = ⟨30, (pc s 7 3 : Nat) + 8, (pc s 7 3 : Nat) + 8, 0, (shiftN s : Nat)⟩ := by rw [hE1]; unfold exReckon; rw [if_neg j0, if_pos j1]
        rw [hE2]; exact (instr_constant s 1 4 27 w hs hT eg ek rfl (by decide) (by decide) (by decide) _ _ _ _ _ _ _ (fun w' kw => constant_reckon s 27 w' hs ek _ _ _ _ _ _ _ (fun w'' _ => reckon_srai s 27 w'' hs j1)))
      by_cases j2 : pc s 10 2 = 2
      · have hE2 : ex s = ⟨27, (pc s 7 3 : Nat) + 8, (pc s 7 3 : Nat) + 8, 0, low (shiftN s : Nat) 6⟩ := by rw [hE1]; unfold exReckon; rw [if_neg j0, if_neg j1, if_pos j2]
        rw [hE2]; exact (instr_constant s 1 4 27 w hs hT eg ek rfl (by decide) (by decide) (by decide) _ _ _ _ _ _ _ (fun w' kw => constant_reckon s 27 w' hs ek _ _ _ _ _ _ _ (fun w'' _ => reckon_andi s 27 w'' hs j2)))
      have hE2 : ex s = ⟨recT.getD (reckN s) 0, (pc s 7 3 : Nat) + 8, (pc s 7 3 : Nat) + 8, (pc s 2 3 : Nat) + 8, 0⟩ := by rw [hE1]; unfold exReckon; rw [if_neg j0, if_neg j1, if_neg j2]
      rw [hE2]; exact (instr_constant s 1 4 27 w hs hT eg ek rfl (by decide) (by decide) (by decide) _ _ _ _ _ _ _ (fun w' kw => constant_reckon s 27 w' hs ek _ _ _ _ _ _ _ (fun w'' kw2 => reckon_two s 27 w'' hs (by omega) ((hT.kp kw).kp kw2))))
    · rw [hE]; exact (instr_constant s 1 5 3 w hs hT eg ek rfl (by decide) (by decide) (by decide) _ _ _ _ _ _ _ (fun w' kw => constant_jump s 3 w' hs ek))
    · rw [hE]; exact (instr_constant s 1 6 5 w hs hT eg ek rfl (by decide) (by decide) (by decide) _ _ _ _ _ _ _ (fun w' kw => constant_beq s w' hs ek))
    · rw [hE]; exact (instr_constant s 1 7 6 w hs hT eg ek rfl (by decide) (by decide) (by decide) _ _ _ _ _ _ _ (fun w' kw => constant_bne s w' hs ek))
  · rcases hks with rfl | rfl | rfl | rfl | rfl | rfl | rfl | rfl
    · rw [hE]; exact (instr_whole s 2 0 28 w hs hT eg ek rfl (by decide) (by decide) (by decide) _ _ _ _ _ _ _ (fun w' kw => whole_shift s 28 w' hs ek))
    · rw [hE]; exact (instr_none s 2 1 w hs hT eg ek rfl)
    · by_cases h : pc s 7 5 = 0
      · have hE2 : ex s = Sh.zero := by rw [hE]; exact if_pos h
        rw [hE2]; exact (instr_whole s 2 2 13 w hs hT eg ek rfl (by decide) (by decide) (by decide) _ _ _ _ _ _ _ (fun w' kw => whole_none s 13 w' hs 2 ek (by decide) (by decide) e15 h))
      · have hE2 : ex s = ⟨13, (pc s 7 5 : Nat), 2, 0, (loadW s : Nat)⟩ := by rw [hE]; exact if_neg h
        rw [hE2]; exact (instr_whole s 2 2 13 w hs hT eg ek rfl (by decide) (by decide) (by decide) _ _ _ _ _ _ _ (fun w' kw => whole_load s 13 w' hs 2 ek (by decide) (by decide) e15 _ (fun w'' => loadOffset_w s w'' hs e13) (ne0 h) (ne0' h)))
    · by_cases h : pc s 7 5 = 0
      · have hE2 : ex s = Sh.zero := by rw [hE]; exact if_pos h
        rw [hE2]; exact (instr_whole s 2 3 14 w hs hT eg ek rfl (by decide) (by decide) (by decide) _ _ _ _ _ _ _ (fun w' kw => whole_none s 14 w' hs 3 ek (by decide) (by decide) e15 h))
      · have hE2 : ex s = ⟨14, (pc s 7 5 : Nat), 2, 0, (loadD s : Nat)⟩ := by rw [hE]; exact if_neg h
        rw [hE2]; exact (instr_whole s 2 3 14 w hs hT eg ek rfl (by decide) (by decide) (by decide) _ _ _ _ _ _ _ (fun w' kw => whole_load s 14 w' hs 3 ek (by decide) (by decide) e15 _ (fun w'' => loadOffset_d s w'' hs e13) (ne0 h) (ne0' h)))
    · have hE1 : ex s = exMove s := hE
      by_cases h2 : pc s 2 5 = 0
      · by_cases hr : pc s 7 5 = 0
        · by_cases hb : pc s 12 1 = 1
          · skip
            have hE2 : ex s = ⟨88, 0, 0, 0, 0⟩ := by rw [hE1]; unfold exMove; rw [if_pos h2, if_pos hr, if_pos hb]
            rw [hE2]; exact (instr_whole s 2 4 31 w hs hT eg ek rfl (by decide) (by decide) (by decide) _ _ _ _ _ _ _ (fun w' kw => whole_move s 31 w' hs ek _ _ _ _ _ _ _ (fun w'' _ => move_break s 31 w'' hs hb h2 hr)))
          · skip
            have hE2 : ex s = Sh.zero := by rw [hE1]; unfold exMove; rw [if_pos h2, if_pos hr, if_neg hb]
            rw [hE2]; exact (instr_whole s 2 4 31 w hs hT eg ek rfl (by decide) (by decide) (by decide) _ _ _ _ _ _ _ (fun w' kw => whole_move s 31 w' hs ek _ _ _ _ _ _ _ (fun w'' _ => move_none s 31 w'' hs (bit2 s hb) h2 hr)))
        · by_cases hb : pc s 12 1 = 1
          · skip
            have hE2 : ex s = ⟨4, 1, (pc s 7 5 : Nat), 0, 0⟩ := by rw [hE1]; unfold exMove; rw [if_pos h2, if_neg hr, if_pos hb]
            rw [hE2]; exact (instr_whole s 2 4 31 w hs hT eg ek rfl (by decide) (by decide) (by decide) _ _ _ _ _ _ _ (fun w' kw => whole_move s 31 w' hs ek _ _ _ _ _ _ _ (fun w'' _ => move_jalr s 31 w'' hs hb h2 (ne0 hr) (ne0' hr))))
          · skip
            have hE2 : ex s = ⟨4, 0, (pc s 7 5 : Nat), 0, 0⟩ := by rw [hE1]; unfold exMove; rw [if_pos h2, if_neg hr, if_neg hb]
            rw [hE2]; exact (instr_whole s 2 4 31 w hs hT eg ek rfl (by decide) (by decide) (by decide) _ _ _ _ _ _ _ (fun w' kw => whole_move s 31 w' hs ek _ _ _ _ _ _ _ (fun w'' _ => move_jr s 31 w'' hs (bit2 s hb) h2 (ne0 hr) (ne0' hr))))
      · by_cases hb : pc s 12 1 = 1
        · skip
          have hE2 : ex s = ⟨31, (pc s 7 5 : Nat), (pc s 7 5 : Nat), (pc s 2 5 : Nat), 0⟩ := by rw [hE1]; unfold exMove; rw [if_neg h2, if_pos hb]
          rw [hE2]; exact (instr_whole s 2 4 31 w hs hT eg ek rfl (by decide) (by decide) (by decide) _ _ _ _ _ _ _ (fun w' kw => whole_move s 31 w' hs ek _ _ _ _ _ _ _ (fun w'' _ => move_add s 31 w'' hs hb (ne0 h2) (ne0' h2))))
        · skip
          have hE2 : ex s = ⟨31, (pc s 7 5 : Nat), 0, (pc s 2 5 : Nat), 0⟩ := by rw [hE1]; unfold exMove; rw [if_neg h2, if_neg hb]
          rw [hE2]; exact (instr_whole s 2 4 31 w hs hT eg ek rfl (by decide) (by decide) (by decide) _ _ _ _ _ _ _ (fun w' kw => whole_move s 31 w' hs ek _ _ _ _ _ _ _ (fun w'' _ => move_mv s 31 w'' hs (bit2 s hb) (ne0 h2) (ne0' h2))))
    · rw [hE]; exact (instr_none s 2 5 w hs hT eg ek rfl)
    · rw [hE]; exact (instr_whole s 2 6 20 w hs hT eg ek rfl (by decide) (by decide) (by decide) _ _ _ _ _ _ _ (fun w' kw => whole_store s 20 w' hs 6 ek (by decide) (by decide) e15 _ (fun w'' => storeOffset_w s w'' hs e13)))
    · rw [hE]; exact (instr_whole s 2 7 21 w hs hT eg ek rfl (by decide) (by decide) (by decide) _ _ _ _ _ _ _ (fun w' kw => whole_store s 21 w' hs 7 ek (by decide) (by decide) e15 _ (fun w'' => storeOffset_d s w'' hs e13)))
  · rcases hks with rfl | rfl | rfl | rfl | rfl | rfl | rfl | rfl
    · rw [hE]; exact (instr_none s 3 0 w hs hT eg ek rfl)
    · rw [hE]; exact (instr_none s 3 1 w hs hT eg ek rfl)
    · rw [hE]; exact (instr_none s 3 2 w hs hT eg ek rfl)
    · rw [hE]; exact (instr_none s 3 3 w hs hT eg ek rfl)
    · rw [hE]; exact (instr_none s 3 4 w hs hT eg ek rfl)
    · rw [hE]; exact (instr_none s 3 5 w hs hT eg ek rfl)
    · rw [hE]; exact (instr_none s 3 6 w hs hT eg ek rfl)
    · rw [hE]; exact (instr_none s 3 7 w hs hT eg ek rfl)
end Go.Proofs.YtfkecgidjicidaaDoor
