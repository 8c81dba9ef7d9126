/-
  Contracts of what is reckoned by a short instruction, and of the choice of its kind.
-/
import Derived.Test.YtfkecgidjicidaaDoorCompB
import Derived.Test.YtfkecgidjicidaaDoorHead
set_option linter.unusedVariables false
set_option linter.unusedSimpArgs false
namespace Go.Proofs.YtfkecgidjicidaaDoor
open Go.RowKit
/-- Variable g holds these numbers. -/
def TabC (w : World) (g : Nat) (zs : List Int) : Prop := ∀ i, i < zs.length → w.cell? ⟨g, i, none⟩ = some (.int .i64 (zs.getD i 0))
theorem TabC.kp {w w' : World} {g : Nat} {zs : List Int} (h : TabC w g zs) (k : Kp none w w') : TabC w' g zs := fun i hi => by
  have h0 := h i hi
  have hlt : g < w.heap.size := by
    rcases Nat.lt_or_ge g w.heap.size with hl | hl
    · exact hl
    · simp [World.cell?, Array.getElem?_eq_none hl] at h0
  rw [World.cell?_of_block (w := w) (k.block g hlt (by simp))]
  exact h0
def opsT : List Int := [22, 0, 13, 14, 0, 0, 20, 21, 22, 41, 22, 1, 27, 3, 5, 6, 28, 0, 13, 14, 31, 0, 20, 21, 0, 0, 0, 0, 0, 0, 0, 0]
def recT : List Int := [32, 36, 39, 40, 46, 45, 0, 0]
/-- The two arrays of package comp. -/
structure TabsC (w : World) : Prop where
  o : TabC w 0 opsT
  r : TabC w 12 recT
theorem TabsC.kp {w w' : World} (h : TabsC w) (k : Kp none w w') : TabsC w' := ⟨h.o.kp k, h.r.kp k⟩
theorem TabsC.drew {w : World} (h : TabsC w) : TabsC w.drew := h.kp (Kp.refl _ _).drew

/-- Inside reckon: its instruction and its result. -/
structure FrR (w : World) (cs : Array Value) (w1 : World) : Prop where
  kp : Kp none w w1
  res : Has w1 w.heap.size 24 (I7 0 0 0 0 0 0 0)
  box : Has w1 (w.heap.size + 1) 24 cs
theorem FrR.start (w : World) (q : Nat) (cs : Array Value) : FrR w cs (((w.alloc (.cells (I7 0 0 0 0 0 0 0) 24)).drewN q).alloc (.cells cs 24)) :=
  ⟨(((Kp.refl _ _).alloc _ _).drewN _).alloc _ _, ((Has.new w (I7 0 0 0 0 0 0 0) 24 : Has ((w.alloc (.cells (I7 0 0 0 0 0 0 0) 24)).drewN q) w.heap.size 24 (I7 0 0 0 0 0 0 0))).alloc _,
   by have := Has.new ((w.alloc (.cells (I7 0 0 0 0 0 0 0) 24)).drewN q) cs 24; simpa using this⟩
theorem FrR.call {w w1 w2 : World} {cs : Array Value} (h : FrR w cs w1) (k : Kp none w1 w2) : FrR w cs w2 :=
  ⟨h.kp.trans k, h.res.kp k (by simp), h.box.kp k (by simp)⟩
theorem FrR.set {w w1 : World} {cs : Array Value} (h : FrR w cs w1) (i : Nat) (u : Value) : FrR w (cs.setIfInBounds i u) (w1.setCell ⟨w.heap.size + 1, i, none⟩ u) :=
  ⟨h.kp.setCell (Or.inl (Nat.le_succ _)) _, h.res.other (by show w.heap.size ≠ w.heap.size + 1; omega) _, h.box.set i u⟩

set_option maxHeartbeats 1000000 in
theorem reckon_srli (s : Nat) (op : Int) (w : World) (hs : s < 65536) (hj : pc s 10 2 = 0) : Calls Tryd.prog 39 #[.int .u16 s, .int .i64 op] w fun e w' => e = .returned (.agg (I7 29 ((pc s 7 3 : Nat) + 8) ((pc s 7 3 : Nat) + 8) 0 (shiftN s : Nat) 0 0)) ∧ Kp none w w' := by
  have CB := Lib.hid (bits_is s 11 10 0 0 hs (by decide) (by decide) (by decide) (by show pc s 10 2 * 2 ^ 0 = 0; rw [hj]))
  have C1 := Lib.hid (fun w => smallRs1_is s _ w hs rfl)
  generalize pc s 7 3 = r at *
  have CN := Lib.hid (fun w => shiftC_any s w hs)
  generalize shiftN s = sh at *
  clear hs hj
  go_enter Tryd.func39, Tryd.ntmps39
  go_wp2_with fail
  refine (C1.out _).mono ?_
  rintro e w1 ⟨rfl, q1, rfl⟩
  go_wp2_with fail
  refine (C1.out _).mono ?_
  rintro e w2 ⟨rfl, q2, rfl⟩
  go_wp2_with fail
  have f1 := FrR.start w (q1 + q2) (I7 op ((r : Int) + 8) ((r : Int) + 8) 0 0 0 0)
  refine (CB.out _).mono ?_
  rintro e w3 ⟨rfl, hq⟩
  have f2 := f1.call (kd hq)
  clear f1 hq
  go_wp2_with fail
  refine (CN.out _).mono ?_
  rintro e w4 ⟨rfl, hq⟩
  have f3 := f2.call (kd hq)
  clear f2 hq
  obtain ⟨b0, b1, b2, b3, b4, b5, b6⟩ := f3.box.seven
  have z := f3.box.free
  obtain ⟨q0, q1, q2, q3, q4, q5, q6⟩ := f3.res.seven
  have y := f3.res.free
  go_wp2
  have g := ((f3.set 0 (.int .i64 29)).set 4 (.int .i64 (sh : Int)))
  (try simp only [Exit.inBlock, Exit.then])
  refine bodyPost_ret (results_cell_row rfl _ _ w.heap.size 24 _ (0, 0) _ rfl (g.res.seven_set _ _ _ _ _ _ _) Tryd.underlying24 rfl (by kernel_rfl)) rfl ⟨rfl, ?_⟩
  exact g.kp.seven_set (Nat.le_refl _) _ _ _ _ _ _ _

set_option maxHeartbeats 1000000 in
theorem reckon_srai (s : Nat) (op : Int) (w : World) (hs : s < 65536) (hj : pc s 10 2 = 1) : Calls Tryd.prog 39 #[.int .u16 s, .int .i64 op] w fun e w' => e = .returned (.agg (I7 30 ((pc s 7 3 : Nat) + 8) ((pc s 7 3 : Nat) + 8) 0 (shiftN s : Nat) 0 0)) ∧ Kp none w w' := by
  have CB := Lib.hid (bits_is s 11 10 0 1 hs (by decide) (by decide) (by decide) (by show pc s 10 2 * 2 ^ 0 = 1; rw [hj]))
  have C1 := Lib.hid (fun w => smallRs1_is s _ w hs rfl)
  generalize pc s 7 3 = r at *
  have CN := Lib.hid (fun w => shiftC_any s w hs)
  generalize shiftN s = sh at *
  clear hs hj
  go_enter Tryd.func39, Tryd.ntmps39
  go_wp2_with fail
  refine (C1.out _).mono ?_
  rintro e w1 ⟨rfl, q1, rfl⟩
  go_wp2_with fail
  refine (C1.out _).mono ?_
  rintro e w2 ⟨rfl, q2, rfl⟩
  go_wp2_with fail
  have f1 := FrR.start w (q1 + q2) (I7 op ((r : Int) + 8) ((r : Int) + 8) 0 0 0 0)
  refine (CB.out _).mono ?_
  rintro e w3 ⟨rfl, hq⟩
  have f2 := f1.call (kd hq)
  clear f1 hq
  go_wp2_with fail
  refine (CN.out _).mono ?_
  rintro e w4 ⟨rfl, hq⟩
  have f3 := f2.call (kd hq)
  clear f2 hq
  obtain ⟨b0, b1, b2, b3, b4, b5, b6⟩ := f3.box.seven
  have z := f3.box.free
  obtain ⟨q0, q1, q2, q3, q4, q5, q6⟩ := f3.res.seven
  have y := f3.res.free
  go_wp2
  have g := ((f3.set 0 (.int .i64 30)).set 4 (.int .i64 (sh : Int)))
  (try simp only [Exit.inBlock, Exit.then])
  refine bodyPost_ret (results_cell_row rfl _ _ w.heap.size 24 _ (0, 0) _ rfl (g.res.seven_set _ _ _ _ _ _ _) Tryd.underlying24 rfl (by kernel_rfl)) rfl ⟨rfl, ?_⟩
  exact g.kp.seven_set (Nat.le_refl _) _ _ _ _ _ _ _

set_option maxHeartbeats 1000000 in
theorem reckon_andi (s : Nat) (op : Int) (w : World) (hs : s < 65536) (hj : pc s 10 2 = 2) : Calls Tryd.prog 39 #[.int .u16 s, .int .i64 op] w fun e w' => e = .returned (.agg (I7 op ((pc s 7 3 : Nat) + 8) ((pc s 7 3 : Nat) + 8) 0 (low (shiftN s : Nat) 6) 0 0)) ∧ Kp none w w' := by
  have CB := Lib.hid (bits_is s 11 10 0 2 hs (by decide) (by decide) (by decide) (by show pc s 10 2 * 2 ^ 0 = 2; rw [hj]))
  have C1 := Lib.hid (fun w => smallRs1_is s _ w hs rfl)
  generalize pc s 7 3 = r at *
  have CN := Lib.hid (fun w => number_any s w hs)
  generalize low (shiftN s : Nat) 6 = sh at *
  clear hs hj
  go_enter Tryd.func39, Tryd.ntmps39
  go_wp2_with fail
  refine (C1.out _).mono ?_
  rintro e w1 ⟨rfl, q1, rfl⟩
  go_wp2_with fail
  refine (C1.out _).mono ?_
  rintro e w2 ⟨rfl, q2, rfl⟩
  go_wp2_with fail
  have f1 := FrR.start w (q1 + q2) (I7 op ((r : Int) + 8) ((r : Int) + 8) 0 0 0 0)
  refine (CB.out _).mono ?_
  rintro e w3 ⟨rfl, hq⟩
  have f2 := f1.call (kd hq)
  clear f1 hq
  go_wp2_with fail
  refine (CN.out _).mono ?_
  rintro e w4 ⟨rfl, hq⟩
  have f3 := f2.call (kd hq)
  clear f2 hq
  obtain ⟨b0, b1, b2, b3, b4, b5, b6⟩ := f3.box.seven
  have z := f3.box.free
  obtain ⟨q0, q1, q2, q3, q4, q5, q6⟩ := f3.res.seven
  have y := f3.res.free
  go_wp2
  have g := (f3.set 4 (.int .i64 sh))
  (try simp only [Exit.inBlock, Exit.then])
  refine bodyPost_ret (results_cell_row rfl _ _ w.heap.size 24 _ (0, 0) _ rfl (g.res.seven_set _ _ _ _ _ _ _) Tryd.underlying24 rfl (by kernel_rfl)) rfl ⟨rfl, ?_⟩
  exact g.kp.seven_set (Nat.le_refl _) _ _ _ _ _ _ _

set_option maxHeartbeats 1000000 in
theorem reckon_two (s : Nat) (op : Int) (w : World) (hs : s < 65536) (hj : pc s 10 2 = 3) (hT : TabsC w) : Calls Tryd.prog 39 #[.int .u16 s, .int .i64 op] w fun e w' => e = .returned (.agg (I7 (recT.getD (reckN s) 0) ((pc s 7 3 : Nat) + 8) ((pc s 7 3 : Nat) + 8) ((pc s 2 3 : Nat) + 8) 0 0 0)) ∧ Kp none w w' := by
  have CB := Lib.hid (bits_is s 11 10 0 3 hs (by decide) (by decide) (by decide) (by show pc s 10 2 * 2 ^ 0 = 3; rw [hj]))
  have C1 := Lib.hid (fun w => smallRs1_is s _ w hs rfl)
  generalize pc s 7 3 = r at *
  have C2 := Lib.hid (fun w => smallRs2_is s _ w hs rfl)
  generalize pc s 2 3 = r2 at *
  have CR := Lib.hid (fun w => reckoner_any s w hs)
  have hv : reckN s < 8 := by
    have h1 := pc_lt s 12 1
    have h2 := pc_lt s 5 2
    simp only [Nat.reducePow] at h1 h2
    unfold reckN
    omega
  have HR := Lib.hid hT.r
  generalize reckN s = v at *
  have hx := Lib.hid (fun (w' : World) (k : Kp none w w') => (HR.out.kp k) v hv)
  have hv0 : (0 : Int) ≤ (v : Int) := by omega
  have hv8 : (v : Int) < 8 := by omega
  generalize recT.getD v 0 = ro at *
  clear hs hj hT hv
  go_enter Tryd.func39, Tryd.ntmps39
  go_wp2_with fail
  refine (C1.out _).mono ?_
  rintro e w1 ⟨rfl, q1, rfl⟩
  go_wp2_with fail
  refine (C1.out _).mono ?_
  rintro e w2 ⟨rfl, q2, rfl⟩
  go_wp2_with fail
  have f1 := FrR.start w (q1 + q2) (I7 op ((r : Int) + 8) ((r : Int) + 8) 0 0 0 0)
  refine (CB.out _).mono ?_
  rintro e w3 ⟨rfl, hq⟩
  have f2 := f1.call (kd hq)
  clear f1 hq
  go_wp2_with fail
  refine wp_region_hd 7 (fun w' => FrR w (I7 op ((r : Int) + 8) ((r : Int) + 8) 0 0 0 0) w' ∧ w'.cell? ⟨12, v, none⟩ = some (.int .i64 ro)) (by kernel_rfl) (by decide) ⟨f2.call (Kp.refl _ _).drew, hx.out _ (f2.kp.drew)⟩ (fun hHeld => ?_)
  refine wpHd_take (i := 0) (v := ?_) rfl (by kernel_rfl) (fun _ _ _ h => h) (Or.inl ⟨by rfl, ?hy⟩) hHeld ?_
  case hy => (intro w hSw; (try dsimp only at hSw); go_split_ands; go_simp; try (with_reducible rfl))
  (try simp only [Act.put, List.setIfInBounds_toArray, List.set_cons_zero, List.set_cons_succ])
  refine wpHd_take (i := 4) (v := ?_) rfl (by kernel_rfl) (fun _ _ _ h => h) (Or.inl ⟨by rfl, ?hy⟩) hHeld ?_
  case hy => (intro w hSw; (try dsimp only at hSw); go_split_ands; go_simp; try (with_reducible rfl))
  (try simp only [Act.put, List.setIfInBounds_toArray, List.set_cons_zero, List.set_cons_succ])
  refine wpHd_one (i := 1) rfl (by kernel_rfl) (fun K hK => ?_)
  go_simp
  refine (CR.out _).mono ?_
  rintro e w2 ⟨rfl, hq⟩
  refine hK.out _ _ ?_ (fun hHeld => ?_)
  · exact ⟨hHeld.1.call (kd hq), hx.out _ (hHeld.1.call (kd hq)).kp⟩
  clear hK K
  (try simp only [Act.put, List.setIfInBounds_toArray, List.set_cons_zero, List.set_cons_succ])
  refine wpHd_take (i := 2) (v := ?_) rfl (by kernel_rfl) (fun _ _ _ h => h) (Or.inl ⟨by rfl, ?hy⟩) hHeld ?_
  case hy => (intro w hSw; (try dsimp only at hSw); go_split_ands; go_simp; try (with_reducible rfl))
  (try simp only [Act.put, List.setIfInBounds_toArray, List.set_cons_zero, List.set_cons_succ])
  refine wpHd_take (i := 3) (v := ?_) rfl (by kernel_rfl) (fun _ _ _ h => h) (Or.inl ⟨by rfl, ?hy⟩) hHeld ?_
  case hy => (intro w hSw; (try dsimp only at hSw); go_split_ands; go_simp; try (with_reducible rfl))
  (try simp only [Act.put, List.setIfInBounds_toArray, List.set_cons_zero, List.set_cons_succ])
  refine wpHd_take (i := 6) (v := ?_) rfl (by kernel_rfl) (fun _ _ _ h => h) (Or.inl ⟨by rfl, ?hy⟩) hHeld ?_
  case hy => (intro w hSw; (try dsimp only at hSw); go_split_ands; go_simp; try (with_reducible rfl))
  (try simp only [Act.put, List.setIfInBounds_toArray, List.set_cons_zero, List.set_cons_succ])
  refine wpHd_one (i := 5) rfl (by kernel_rfl) (fun K hK => ?_)
  go_simp
  refine (C2.out _).mono ?_
  rintro e w2 ⟨rfl, hq⟩
  refine hK.out _ _ ?_ (fun hHeld => ?_)
  · exact ⟨hHeld.1.call (kd hq), hx.out _ (hHeld.1.call (kd hq)).kp⟩
  clear hK K
  (try simp only [Act.put, List.setIfInBounds_toArray, List.set_cons_zero, List.set_cons_succ])
  refine ⟨by kernel_rfl, ?_⟩
  simp only [List.drop_succ_cons, List.drop_zero]
  obtain ⟨f3, -⟩ := hHeld
  obtain ⟨b0, b1, b2, b3, b4, b5, b6⟩ := f3.box.seven
  have z := f3.box.free
  obtain ⟨q0, q1, q2, q3, q4, q5, q6⟩ := f3.res.seven
  have y := f3.res.free
  go_wp2
  have g := (f3.set 0 (.int .i64 ro)).set 3 (.int .i64 ((r2 : Int) + 8))
  (try simp only [Exit.inBlock, Exit.then])
  refine bodyPost_ret (results_cell_row rfl _ _ w.heap.size 24 _ (0, 0) _ rfl (g.res.seven_set _ _ _ _ _ _ _) Tryd.underlying24 rfl (by kernel_rfl)) rfl ⟨rfl, ?_⟩
  exact g.kp.seven_set (Nat.le_refl _) _ _ _ _ _ _ _
end Go.Proofs.YtfkecgidjicidaaDoor
