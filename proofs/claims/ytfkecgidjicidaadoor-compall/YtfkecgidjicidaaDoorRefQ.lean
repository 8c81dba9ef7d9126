/-
  Contracts of the reference: pieces by lists of its own, what is reckoned of registers of eight, moves.
-/
import Derived.Test.YtfkecgidjicidaaDoorRefP
import Derived.Test.YtfkecgidjicidaaDoorCompE
set_option linter.unusedVariables false
set_option linter.unusedSimpArgs false
namespace Go.Proofs.YtfkecgidjicidaaDoor
open Go.RowKit
def flat : List (Nat × Nat) → List Int
  | [] => []
  | p :: r => (p.1 : Int) :: (p.2 : Int) :: flat r
theorem flat_at : ∀ (ps : List (Nat × Nat)) (j : Nat), j < ps.length → (flat ps)[2 * j]? = some ((ps.getD j (0, 0)).1 : Int) ∧ (flat ps)[2 * j + 1]? = some ((ps.getD j (0, 0)).2 : Int)
  | [], j, h => by simp at h
  | p :: r, 0, h => by simp [flat]
  | p :: r, j + 1, h => by
    have := flat_at r j (by simpa using h)
    simpa [flat, Nat.mul_add] using this
theorem pieces_new (s : Nat) (ps : List (Nat × Nat)) (z v len : Nat) (w0 w1 : World) (hw : w1 = w0.alloc (.cells ((flat ps).map (Value.int .i64)).toArray 3)) (hs : s < 65536) (hlen : 2 * ps.length = len) (hz : z ≤ 12) (hl : len ≤ 100)
    (hbl : bl ps ps.length ≤ 16) (hR : ∀ j, j < ps.length → (ps.getD j (0, 0)).2 ≤ (ps.getD j (0, 0)).1 ∧ (ps.getD j (0, 0)).1 ≤ 15) (hv : acc s ps ps.length * 2 ^ z = v) :
    Calls Tryd.prog 14 #[.int .u16 s, .slice (some ⟨w0.heap.size, 0, none⟩) len len, .int .i64 z] w1 fun e w' => e = .returned (.int .i64 (v : Int)) ∧ w1 = w' := by
  subst hw
  rw [← hv]
  refine pieces_any s ps z _ len len _ hs hlen hz hl hbl (fun j hj => ?_) hR
  obtain ⟨h1, h2⟩ := flat_at ps j hj
  rw [(Has.new w0 _ 3).cell, (Has.new w0 _ 3).cell]
  exact ⟨by simp [h1], by simp [h2]⟩
theorem FrR.alloc {w w1 : World} {cs : Array Value} (h : FrR w cs w1) (c : Array Value) (t : TypeId) : FrR w cs (w1.alloc (.cells c t)) :=
  ⟨h.kp.alloc _ _, h.res.alloc _, h.box.alloc _⟩
theorem FrR.two (w : World) (cs : Array Value) : FrR w cs ((w.alloc (.cells (I7 0 0 0 0 0 0 0) 24)).alloc (.cells cs 24)) :=
  ⟨((Kp.refl _ _).alloc _ _).alloc _ _, (Has.new _ _ _).alloc _, by have := Has.new (w.alloc (.cells (I7 0 0 0 0 0 0 0) 24)) cs 24; simpa using this⟩
theorem F_at (s hi lo m : Nat) (w : World) (hs : s < 65536) (h1 : lo ≤ hi) (h2 : hi ≤ 15) (hm : hi + 1 - lo = m) : Calls Tryd.prog 13 #[.int .u32 s, .int .i64 hi, .int .i64 lo] w fun e w' => e = .returned (.int .i64 ((pc s lo m : Nat) : Int)) ∧ w = w' := by
  rw [← hm]; exact F_any s hi lo w (by omega) h1 (by omega)
theorem one_fresh (zs : List Int) (k : Nat) (w0 w1 : World) (hw : w1 = w0.alloc (.cells (zs.map (Value.int .i64)).toArray 3)) (hl : zs.length ≤ 100) :
    Calls Tryd.prog 24 #[.slice (some ⟨w0.heap.size, 0, none⟩) zs.length zs.length, .int .i64 k] w1 fun e w' => e = .returned (.int .i64 (zs.getD k 0)) ∧ w1 = w' := by
  subst hw
  refine one_any _ zs zs.length zs.length k _ rfl hl (fun i hi => ?_)
  rw [(Has.new w0 _ 3).cell i]
  simp [List.getElem?_eq_getElem hi]

set_option maxHeartbeats 1000000 in
theorem moves_none (rd r2 : Nat) (w : World) (hr : rd = 0) (h2 : r2 = 0) : Calls Tryd.prog 17 #[.int .i64 0, .int .i64 0, .int .i64 0] w fun e w' => e = .returned (.agg (I7 0 0 0 0 0 0 0)) ∧ Kp none w w' := by
  have k := (Kp.refl none w).alloc (I7 0 0 0 0 0 0 0) 24
  go_enter Tryd.func17, Tryd.ntmps17
  go_wp2
  (try simp only [Exit.inBlock, Exit.then])
  refine bodyPost_ret (results_cell_row rfl _ _ w.heap.size 24 _ (0, 0) _ rfl (Has.new w _ 24) Tryd.underlying24 rfl (by kernel_rfl)) rfl ⟨rfl, ?_⟩
  exact (Kp.refl none w).alloc _ _

set_option maxHeartbeats 1000000 in
theorem moves_jr (rd r2 : Nat) (w : World) (h2 : r2 = 0) (hrd : ((rd : Int) == 0) = false) : Calls Tryd.prog 17 #[.int .i64 0, .int .i64 (rd : Int), .int .i64 0] w fun e w' => e = .returned (.agg (I7 4 0 (rd : Int) 0 0 0 0)) ∧ Kp none w w' := by
  have k := (Kp.refl none w).alloc (I7 0 0 0 0 0 0 0) 24
  go_enter Tryd.func17, Tryd.ntmps17
  go_wp2
  (try simp only [Exit.inBlock, Exit.then])
  refine bodyPost_ret (results_cell_row rfl _ _ w.heap.size 24 _ (0, 0) _ rfl (Has.new w _ 24) Tryd.underlying24 rfl (by kernel_rfl)) rfl ⟨rfl, ?_⟩
  exact (Kp.refl none w).alloc _ _

set_option maxHeartbeats 1000000 in
theorem moves_mv (rd r2 : Nat) (w : World) (hr2 : ((r2 : Int) == 0) = false) : Calls Tryd.prog 17 #[.int .i64 0, .int .i64 (rd : Int), .int .i64 (r2 : Int)] w fun e w' => e = .returned (.agg (I7 31 (rd : Int) 0 (r2 : Int) 0 0 0)) ∧ Kp none w w' := by
  have k := (Kp.refl none w).alloc (I7 0 0 0 0 0 0 0) 24
  go_enter Tryd.func17, Tryd.ntmps17
  go_wp2
  (try simp only [Exit.inBlock, Exit.then])
  refine bodyPost_ret (results_cell_row rfl _ _ w.heap.size 24 _ (0, 0) _ rfl (Has.new w _ 24) Tryd.underlying24 rfl (by kernel_rfl)) rfl ⟨rfl, ?_⟩
  exact (Kp.refl none w).alloc _ _

set_option maxHeartbeats 1000000 in
theorem moves_break (rd r2 : Nat) (w : World) (hr : rd = 0) (h2 : r2 = 0) : Calls Tryd.prog 17 #[.int .i64 1, .int .i64 0, .int .i64 0] w fun e w' => e = .returned (.agg (I7 88 0 0 0 0 0 0)) ∧ Kp none w w' := by
  have k := (Kp.refl none w).alloc (I7 0 0 0 0 0 0 0) 24
  go_enter Tryd.func17, Tryd.ntmps17
  go_wp2
  (try simp only [Exit.inBlock, Exit.then])
  refine bodyPost_ret (results_cell_row rfl _ _ w.heap.size 24 _ (0, 0) _ rfl (Has.new w _ 24) Tryd.underlying24 rfl (by kernel_rfl)) rfl ⟨rfl, ?_⟩
  exact (Kp.refl none w).alloc _ _

set_option maxHeartbeats 1000000 in
theorem moves_jalr (rd r2 : Nat) (w : World) (h2 : r2 = 0) (hrd : ((rd : Int) == 0) = false) : Calls Tryd.prog 17 #[.int .i64 1, .int .i64 (rd : Int), .int .i64 0] w fun e w' => e = .returned (.agg (I7 4 1 (rd : Int) 0 0 0 0)) ∧ Kp none w w' := by
  have k := (Kp.refl none w).alloc (I7 0 0 0 0 0 0 0) 24
  go_enter Tryd.func17, Tryd.ntmps17
  go_wp2
  (try simp only [Exit.inBlock, Exit.then])
  refine bodyPost_ret (results_cell_row rfl _ _ w.heap.size 24 _ (0, 0) _ rfl (Has.new w _ 24) Tryd.underlying24 rfl (by kernel_rfl)) rfl ⟨rfl, ?_⟩
  exact (Kp.refl none w).alloc _ _

set_option maxHeartbeats 1000000 in
theorem moves_addn (rd r2 : Nat) (w : World) (hrd : ((rd : Int) == 0) = false) (hr2 : ((r2 : Int) == 0) = false) : Calls Tryd.prog 17 #[.int .i64 1, .int .i64 (rd : Int), .int .i64 (r2 : Int)] w fun e w' => e = .returned (.agg (I7 31 (rd : Int) (rd : Int) (r2 : Int) 0 0 0)) ∧ Kp none w w' := by
  have k := (Kp.refl none w).alloc (I7 0 0 0 0 0 0 0) 24
  go_enter Tryd.func17, Tryd.ntmps17
  go_wp2
  (try simp only [Exit.inBlock, Exit.then])
  refine bodyPost_ret (results_cell_row rfl _ _ w.heap.size 24 _ (0, 0) _ rfl (Has.new w _ 24) Tryd.underlying24 rfl (by kernel_rfl)) rfl ⟨rfl, ?_⟩
  exact (Kp.refl none w).alloc _ _

set_option maxHeartbeats 1000000 in
theorem moves_addz (rd r2 : Nat) (w : World) (hr : rd = 0) (hr2 : ((r2 : Int) == 0) = false) : Calls Tryd.prog 17 #[.int .i64 1, .int .i64 0, .int .i64 (r2 : Int)] w fun e w' => e = .returned (.agg (I7 31 0 0 (r2 : Int) 0 0 0)) ∧ Kp none w w' := by
  have k := (Kp.refl none w).alloc (I7 0 0 0 0 0 0 0) 24
  go_enter Tryd.func17, Tryd.ntmps17
  go_wp2
  (try simp only [Exit.inBlock, Exit.then])
  refine bodyPost_ret (results_cell_row rfl _ _ w.heap.size 24 _ (0, 0) _ rfl (Has.new w _ 24) Tryd.underlying24 rfl (by kernel_rfl)) rfl ⟨rfl, ?_⟩
  exact (Kp.refl none w).alloc _ _

theorem moves_add (rd r2 : Nat) (w : World) (hr2 : ((r2 : Int) == 0) = false) : Calls Tryd.prog 17 #[.int .i64 1, .int .i64 (rd : Int), .int .i64 (r2 : Int)] w fun e w' => e = .returned (.agg (I7 31 (rd : Int) (rd : Int) (r2 : Int) 0 0 0)) ∧ Kp none w w' := by
  by_cases h : rd = 0
  · subst h; exact moves_addz 0 r2 w rfl hr2
  · exact moves_addn rd r2 w (ne0 h) hr2

set_option maxHeartbeats 1000000 in
theorem eight_srli (s x : Nat) (a b : Int) (w : World) (hs : s < 65536) (hx : x < 64) (hj : pc s 10 2 = 0) : Calls Tryd.prog 16 #[.int .u16 s, .int .i64 a, .int .i64 b, .int .i64 (x : Int)] w fun e w' => e = .returned (.agg (I7 29 a a 0 (x : Int) 0 0)) ∧ Kp none w w' := by
  have CF := Lib.hid (fun w => F_at s 11 10 2 w hs (by decide) (by decide) rfl)
  rw [hj] at CF
  have CS := Lib.hid (fun w => S_any (x : Int) 6 w (by decide) (by decide) (by omega) (by omega))
  have k := (Kp.refl none w).alloc (I7 0 0 0 0 0 0 0) 24
  clear hj
  generalize low (x : Int) 6 = d at *
  go_enter Tryd.func16, Tryd.ntmps16
  go_wp2_with fail
  refine (CF.out _).mono ?_
  rintro e w1 ⟨rfl, rfl⟩
  go_wp2
  skip
  (try simp only [Exit.inBlock, Exit.then])
  refine bodyPost_ret (results_cell_row rfl _ _ w.heap.size 24 _ (0, 0) _ rfl (Has.new w _ 24) Tryd.underlying24 rfl (by kernel_rfl)) rfl ⟨rfl, ?_⟩
  exact (Kp.refl none w).alloc _ _

set_option maxHeartbeats 1000000 in
theorem eight_srai (s x : Nat) (a b : Int) (w : World) (hs : s < 65536) (hx : x < 64) (hj : pc s 10 2 = 1) : Calls Tryd.prog 16 #[.int .u16 s, .int .i64 a, .int .i64 b, .int .i64 (x : Int)] w fun e w' => e = .returned (.agg (I7 30 a a 0 (x : Int) 0 0)) ∧ Kp none w w' := by
  have CF := Lib.hid (fun w => F_at s 11 10 2 w hs (by decide) (by decide) rfl)
  rw [hj] at CF
  have CS := Lib.hid (fun w => S_any (x : Int) 6 w (by decide) (by decide) (by omega) (by omega))
  have k := (Kp.refl none w).alloc (I7 0 0 0 0 0 0 0) 24
  clear hj
  generalize low (x : Int) 6 = d at *
  go_enter Tryd.func16, Tryd.ntmps16
  go_wp2_with fail
  refine (CF.out _).mono ?_
  rintro e w1 ⟨rfl, rfl⟩
  go_wp2
  skip
  (try simp only [Exit.inBlock, Exit.then])
  refine bodyPost_ret (results_cell_row rfl _ _ w.heap.size 24 _ (0, 0) _ rfl (Has.new w _ 24) Tryd.underlying24 rfl (by kernel_rfl)) rfl ⟨rfl, ?_⟩
  exact (Kp.refl none w).alloc _ _

set_option maxHeartbeats 1000000 in
theorem eight_andi (s x : Nat) (a b : Int) (w : World) (hs : s < 65536) (hx : x < 64) (hj : pc s 10 2 = 2) : Calls Tryd.prog 16 #[.int .u16 s, .int .i64 a, .int .i64 b, .int .i64 (x : Int)] w fun e w' => e = .returned (.agg (I7 27 a a 0 (low (x : Int) 6) 0 0)) ∧ Kp none w w' := by
  have CF := Lib.hid (fun w => F_at s 11 10 2 w hs (by decide) (by decide) rfl)
  rw [hj] at CF
  have CS := Lib.hid (fun w => S_any (x : Int) 6 w (by decide) (by decide) (by omega) (by omega))
  have k := (Kp.refl none w).alloc (I7 0 0 0 0 0 0 0) 24
  clear hj
  generalize low (x : Int) 6 = d at *
  go_enter Tryd.func16, Tryd.ntmps16
  go_wp2_with fail
  refine (CF.out _).mono ?_
  rintro e w1 ⟨rfl, rfl⟩
  go_wp2_with fail
  refine (CS.out _).mono ?_
  rintro e w2 ⟨rfl, rfl⟩
  go_wp2
  (try simp only [Exit.inBlock, Exit.then])
  refine bodyPost_ret (results_cell_row rfl _ _ w.heap.size 24 _ (0, 0) _ rfl (Has.new w _ 24) Tryd.underlying24 rfl (by kernel_rfl)) rfl ⟨rfl, ?_⟩
  exact (Kp.refl none w).alloc _ _

set_option maxHeartbeats 1000000 in
theorem eight_none (s x : Nat) (a b ro : Int) (w : World) (hs : s < 65536) (hj : pc s 10 2 = 3) (hro : recT.getD (reckN s) 0 = ro) (ho : ro = 0) : Calls Tryd.prog 16 #[.int .u16 s, .int .i64 a, .int .i64 b, .int .i64 (x : Int)] w fun e w' => e = .returned (.agg (I7 0 0 0 0 0 0 0)) ∧ Kp none w w' := by
  have CF := Lib.hid (fun w => F_at s 11 10 2 w hs (by decide) (by decide) rfl)
  rw [hj] at CF
  have CA := Lib.hid (fun w => F_at s 12 12 1 w hs (by decide) (by decide) rfl)
  have CB := Lib.hid (fun w => F_at s 6 5 2 w hs (by decide) (by decide) rfl)
  have hv : reckN s < 8 := by
    have h1 : pc s 12 1 < 2 := pc_lt s 12 1
    have h2 : pc s 5 2 < 4 := pc_lt s 5 2
    unfold reckN; omega
  have hA : pc s 12 1 < 2 := pc_lt s 12 1
  have hB : pc s 5 2 < 4 := pc_lt s 5 2
  have hE : reckN s = pc s 12 1 * 4 + pc s 5 2 := by unfold reckN; omega
  have heq : ∀ n, n < 8 → ([32, 36, 39, 40, 46, 45] : List Int).getD n 0 = recT.getD n 0 := by decide
  have CO := Lib.hid (fun w0 w1 hw => one_fresh [32, 36, 39, 40, 46, 45] (reckN s) w0 w1 hw (by decide))
  rw [heq _ hv, hro, hE] at CO
  subst ho
  clear hj hv hE heq hro
  generalize pc s 12 1 = u at *
  generalize pc s 5 2 = v at *
  have k := (Kp.refl none w).alloc (I7 0 0 0 0 0 0 0) 24
  have b0 := Has.new w (I7 0 0 0 0 0 0 0) 24
  go_enter Tryd.func16, Tryd.ntmps16
  go_wp2_with fail
  refine (CF.out _).mono ?_
  rintro e w1 ⟨rfl, rfl⟩
  generalize w.alloc (.cells (I7 0 0 0 0 0 0 0) 24) = w1 at k b0 ⊢
  go_wp2_with fail
  refine (CA.out _).mono ?_
  rintro e w2 ⟨rfl, rfl⟩
  go_wp2_with fail
  refine (CB.out _).mono ?_
  rintro e w3 ⟨rfl, rfl⟩
  go_wp2_with fail
  refine (CO.out w1 _ (by rfl)).mono ?_
  rintro e w4 ⟨rfl, rfl⟩
  have k2 := k.alloc #[.int .i64 32, .int .i64 36, .int .i64 39, .int .i64 40, .int .i64 46, .int .i64 45] 3
  have b2 := b0.alloc (.cells #[.int .i64 32, .int .i64 36, .int .i64 39, .int .i64 40, .int .i64 46, .int .i64 45] 3)
  generalize w1.alloc (.cells #[.int .i64 32, .int .i64 36, .int .i64 39, .int .i64 40, .int .i64 46, .int .i64 45] 3) = w5 at k2 b2 ⊢
  obtain ⟨q0, q1, q2, q3, q4, q5, q6⟩ := b2.seven
  have y := b2.free
  go_wp2
  (try simp only [Exit.inBlock, Exit.then])
  refine bodyPost_ret (results_cell_row rfl _ _ w.heap.size 24 _ (0, 0) _ rfl (b2.seven_set _ _ _ _ _ _ _) Tryd.underlying24 rfl (by kernel_rfl)) rfl ⟨rfl, ?_⟩
  exact k2.seven_set (Nat.le_refl _) _ _ _ _ _ _ _

set_option maxHeartbeats 1000000 in
theorem eight_two (s x : Nat) (a b ro : Int) (w : World) (hs : s < 65536) (hj : pc s 10 2 = 3) (hro : recT.getD (reckN s) 0 = ro) (ho : (ro == 0) = false) : Calls Tryd.prog 16 #[.int .u16 s, .int .i64 a, .int .i64 b, .int .i64 (x : Int)] w fun e w' => e = .returned (.agg (I7 ro a a b 0 0 0)) ∧ Kp none w w' := by
  have CF := Lib.hid (fun w => F_at s 11 10 2 w hs (by decide) (by decide) rfl)
  rw [hj] at CF
  have CA := Lib.hid (fun w => F_at s 12 12 1 w hs (by decide) (by decide) rfl)
  have CB := Lib.hid (fun w => F_at s 6 5 2 w hs (by decide) (by decide) rfl)
  have hv : reckN s < 8 := by
    have h1 : pc s 12 1 < 2 := pc_lt s 12 1
    have h2 : pc s 5 2 < 4 := pc_lt s 5 2
    unfold reckN; omega
  have hA : pc s 12 1 < 2 := pc_lt s 12 1
  have hB : pc s 5 2 < 4 := pc_lt s 5 2
  have hE : reckN s = pc s 12 1 * 4 + pc s 5 2 := by unfold reckN; omega
  have heq : ∀ n, n < 8 → ([32, 36, 39, 40, 46, 45] : List Int).getD n 0 = recT.getD n 0 := by decide
  have CO := Lib.hid (fun w0 w1 hw => one_fresh [32, 36, 39, 40, 46, 45] (reckN s) w0 w1 hw (by decide))
  rw [heq _ hv, hro, hE] at CO
  skip
  clear hj hv hE heq hro
  generalize pc s 12 1 = u at *
  generalize pc s 5 2 = v at *
  have k := (Kp.refl none w).alloc (I7 0 0 0 0 0 0 0) 24
  have b0 := Has.new w (I7 0 0 0 0 0 0 0) 24
  go_enter Tryd.func16, Tryd.ntmps16
  go_wp2_with fail
  refine (CF.out _).mono ?_
  rintro e w1 ⟨rfl, rfl⟩
  generalize w.alloc (.cells (I7 0 0 0 0 0 0 0) 24) = w1 at k b0 ⊢
  go_wp2_with fail
  refine (CA.out _).mono ?_
  rintro e w2 ⟨rfl, rfl⟩
  go_wp2_with fail
  refine (CB.out _).mono ?_
  rintro e w3 ⟨rfl, rfl⟩
  go_wp2_with fail
  refine (CO.out w1 _ (by rfl)).mono ?_
  rintro e w4 ⟨rfl, rfl⟩
  have k2 := k.alloc #[.int .i64 32, .int .i64 36, .int .i64 39, .int .i64 40, .int .i64 46, .int .i64 45] 3
  have b2 := b0.alloc (.cells #[.int .i64 32, .int .i64 36, .int .i64 39, .int .i64 40, .int .i64 46, .int .i64 45] 3)
  generalize w1.alloc (.cells #[.int .i64 32, .int .i64 36, .int .i64 39, .int .i64 40, .int .i64 46, .int .i64 45] 3) = w5 at k2 b2 ⊢
  obtain ⟨q0, q1, q2, q3, q4, q5, q6⟩ := b2.seven
  have y := b2.free
  go_wp2
  (try simp only [Exit.inBlock, Exit.then])
  refine bodyPost_ret (results_cell_row rfl _ _ w.heap.size 24 _ (0, 0) _ rfl (b2.seven_set _ _ _ _ _ _ _) Tryd.underlying24 rfl (by kernel_rfl)) rfl ⟨rfl, ?_⟩
  exact k2.seven_set (Nat.le_refl _) _ _ _ _ _ _ _

end Go.Proofs.YtfkecgidjicidaaDoor