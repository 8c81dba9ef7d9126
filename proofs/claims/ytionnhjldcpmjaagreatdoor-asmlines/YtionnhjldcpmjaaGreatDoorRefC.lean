/-
  The reference's Decode, a code each.
-/
import Derived.Test.YtionnhjldcpmjaaGreatDoorRefB
set_option linter.unusedVariables false
set_option linter.unusedSimpArgs false
namespace Go.Proofs.YtionnhjldcpmjaaGreatDoor
set_option maxRecDepth 100000
open Go.RowKit
theorem F_at (s hi lo m : Nat) (w : World) (hs : s < 4294967296) (h1 : lo ≤ hi) (h2 : hi ≤ 31) (hm : hi + 1 - lo = m) :
    Calls Tryz.prog 30 #[.int .u32 s, .int .i64 hi, .int .i64 lo] w fun e w' => e = .returned (.int .i64 (pc s lo m)) ∧ w = w' := by
  subst hm; exact F_any s hi lo w hs h1 h2
theorem S_at (n : Int) (b : Nat) (B : Int) (w : World) (h1 : 1 ≤ b) (h32 : b ≤ 32) (h0 : 0 ≤ n) (hB : (2 : Int) ^ b = B) (h2 : n < B) :
    Calls Tryz.prog 31 #[.int .i64 n, .int .i64 b] w fun e w' => e = .returned (.int .i64 (low n b)) ∧ w = w' := S_any n b w h1 h32 h0 (by rw [hB]; exact h2)
/-- Inside the reference's Decode: its result, its instruction. -/
structure FrR (w : World) (cs : Array Value) (w1 : World) : Prop where
  kp : Kp none w w1
  res : Has w1 w.heap.size 28 (I7 0 0 0 0 0 0 0)
  box : Has w1 (w.heap.size + 1) 28 cs
theorem FrR.start (w : World) (cs : Array Value) : FrR w cs ((w.alloc (.cells (I7 0 0 0 0 0 0 0) 28)).alloc (.cells cs 28)) :=
  ⟨((Kp.refl _ _).alloc _ _).alloc _ _, (Has.new _ _ _).alloc _, by have := Has.new (w.alloc (.cells (I7 0 0 0 0 0 0 0) 28)) cs 28; simpa using this⟩
theorem FrR.set {w w1 : World} {cs : Array Value} (h : FrR w cs w1) (i : Nat) (u : Value) : FrR w (cs.setIfInBounds i u) (w1.setCell ⟨w.heap.size + 1, i, none⟩ u) :=
  ⟨h.kp.setCell (Or.inl (Nat.le_succ _)) _, h.res.other (by show w.heap.size ≠ w.heap.size + 1; omega) _, h.box.set i u⟩
theorem FrR.alloc {w w1 : World} {cs : Array Value} (h : FrR w cs w1) (c : Array Value) (t : TypeId) : FrR w cs (w1.alloc (.cells c t)) := ⟨h.kp.alloc _ _, h.res.alloc _, h.box.alloc _⟩
theorem FrR.turn {w w1 w2 : World} {cs ds : Array Value} (h : FrR w cs w1) (k : Kp (some (w.heap.size + 1)) w1 w2) (hb : Has w2 (w.heap.size + 1) 28 ds) : FrR w ds w2 :=
  ⟨h.kp.drop k (fun i hi => by cases hi; omega), h.res.kp k (by simp), hb⟩
theorem mul4096 (n : Int) (h1 : -524288 ≤ n) (h2 : n < 524288) : wrap64 (n * 4096) = n * 4096 := by unfold wrap64; omega
theorem mul2 (n : Int) (h1 : -524288 ≤ n) (h2 : n < 524288) : wrap64 (n * 2) = n * 2 := by unfold wrap64; omega
theorem low20 (n : Int) : -524288 ≤ low n 20 ∧ low n 20 < 524288 := ⟨by have := low_lo n 20; simpa using this, by have := low_hi n 20 (by omega); simpa using this⟩
theorem low12 (n : Int) : -524288 ≤ low n 12 ∧ low n 12 < 524288 := ⟨by have := low_lo n 12; simp at this; omega, by have := low_hi n 12 (by omega); simp at this; omega⟩

set_option maxRecDepth 100000 in
set_option maxHeartbeats 2000000 in
theorem ref_lui (s : Nat) (w : World) (hs : s < 4294967296) (hc : pc s 0 7 = 55) :
    Calls Tryz.prog 16 #[.int .u32 s] w fun e w' => e = .returned (.tuple #[.agg (I7 1 (pc s 7 5 : Nat) 0 0 (low (pc s 12 20 : Nat) 20 * 4096) 0 4), .bool true]) ∧ Kp none w w' := by
  have f0 := FrR.start w (I7 0 0 0 0 0 0 4)
  have C11_7 := Lib.hid (fun w => F_at s 11 7 5 w hs (by omega) (by omega) rfl)
  have B11_7 : pc s 7 5 < 32 := pc_lt s 7 5
  have C14_12 := Lib.hid (fun w => F_at s 14 12 3 w hs (by omega) (by omega) rfl)
  have B14_12 : pc s 12 3 < 8 := pc_lt s 12 3
  have C19_15 := Lib.hid (fun w => F_at s 19 15 5 w hs (by omega) (by omega) rfl)
  have B19_15 : pc s 15 5 < 32 := pc_lt s 15 5
  have C24_20 := Lib.hid (fun w => F_at s 24 20 5 w hs (by omega) (by omega) rfl)
  have B24_20 : pc s 20 5 < 32 := pc_lt s 20 5
  have C31_25 := Lib.hid (fun w => F_at s 31 25 7 w hs (by omega) (by omega) rfl)
  have B31_25 : pc s 25 7 < 128 := pc_lt s 25 7
  have C31_20 := Lib.hid (fun w => F_at s 31 20 12 w hs (by omega) (by omega) rfl)
  have B31_20 : pc s 20 12 < 4096 := pc_lt s 20 12
  have C6_0 := Lib.hid (fun w => F_at s 6 0 7 w hs (by omega) (by omega) rfl)
  rw [hc] at C6_0
  have B6_0 : pc s 0 7 < 128 := pc_lt s 0 7
  have M := mul4096 _ (low20 (pc s 12 20 : Nat)).1 (low20 _).2
  have C31_12 := Lib.hid (fun w => F_at s 31 12 20 w hs (by omega) (by omega) rfl)
  have B31_12 : pc s 12 20 < 1048576 := pc_lt s 12 20
  go_enter Tryz.func16, Tryz.ntmps16
  go_wp2_with fail
  refine (C11_7.out _).mono ?_
  rintro e wx ⟨rfl, rfl⟩
  generalize (w.alloc (.cells (I7 0 0 0 0 0 0 0) 28)).alloc (.cells (I7 0 0 0 0 0 0 4) 28) = w1 at f0 ⊢
  obtain ⟨b0, b1, b2, b3, b4, b5, b6⟩ := f0.box.seven
  have z := f0.box.free
  go_wp2_with fail
  refine (C14_12.out _).mono ?_
  rintro e wx ⟨rfl, rfl⟩
  go_wp2_with fail
  refine (C19_15.out _).mono ?_
  rintro e wx ⟨rfl, rfl⟩
  go_wp2_with fail
  refine (C24_20.out _).mono ?_
  rintro e wx ⟨rfl, rfl⟩
  go_wp2_with fail
  refine (C31_25.out _).mono ?_
  rintro e wx ⟨rfl, rfl⟩
  go_wp2_with fail
  refine (C31_20.out _).mono ?_
  rintro e wx ⟨rfl, rfl⟩
  go_wp2_with fail
  refine (S_at _ 12 4096 _ (by omega) (by omega) (by omega) (by rfl) (by omega)).mono ?_
  rintro e wx ⟨rfl, rfl⟩
  go_wp2_with fail
  refine (C6_0.out _).mono ?_
  rintro e wx ⟨rfl, rfl⟩
  go_wp2_with fail
  refine (C6_0.out _).mono ?_
  rintro e wx ⟨rfl, rfl⟩
  go_wp2_with fail
  refine (C31_12.out _).mono ?_
  rintro e wx ⟨rfl, rfl⟩
  go_wp2_with fail
  refine (S_at _ 20 1048576 _ (by omega) (by omega) (by omega) (by rfl) (by omega)).mono ?_
  rintro e wx ⟨rfl, rfl⟩
  obtain ⟨q0, q1, q2, q3, q4, q5, q6⟩ := f0.res.seven
  have y := f0.res.free
  go_wp2
  have g := (((f0.set 0 (.int .i64 1)).set 1 (.int .i64 (pc s 7 5 : Nat))).set 4 (.int .i64 (low (pc s 12 20 : Nat) 20 * 4096)))
  (try simp only [Exit.inBlock, Exit.then])
  refine bodyPost_ret (results_two rfl _ _ w.heap.size _ _ _ _ _ _ _ rfl (g.res.seven_set _ _ _ _ _ _ _)) rfl ⟨rfl, ?_⟩
  exact g.kp.seven_set (Nat.le_refl _) _ _ _ _ _ _ _

set_option maxRecDepth 100000 in
set_option maxHeartbeats 2000000 in
theorem ref_jal (s : Nat) (w : World) (hs : s < 4294967296) (hc : pc s 0 7 = 111) :
    Calls Tryz.prog 16 #[.int .u32 s] w fun e w' => e = .returned (.tuple #[.agg (I7 3 (pc s 7 5 : Nat) 0 0 (low ((((pc s 31 1 : Nat) * 256 + (pc s 12 8 : Nat)) * 2 + (pc s 20 1 : Nat)) * 1024 + (pc s 21 10 : Nat) : Int) 20 * 2) 0 4), .bool true]) ∧ Kp none w w' := by
  have f0 := FrR.start w (I7 0 0 0 0 0 0 4)
  have C11_7 := Lib.hid (fun w => F_at s 11 7 5 w hs (by omega) (by omega) rfl)
  have B11_7 : pc s 7 5 < 32 := pc_lt s 7 5
  have C14_12 := Lib.hid (fun w => F_at s 14 12 3 w hs (by omega) (by omega) rfl)
  have B14_12 : pc s 12 3 < 8 := pc_lt s 12 3
  have C19_15 := Lib.hid (fun w => F_at s 19 15 5 w hs (by omega) (by omega) rfl)
  have B19_15 : pc s 15 5 < 32 := pc_lt s 15 5
  have C24_20 := Lib.hid (fun w => F_at s 24 20 5 w hs (by omega) (by omega) rfl)
  have B24_20 : pc s 20 5 < 32 := pc_lt s 20 5
  have C31_25 := Lib.hid (fun w => F_at s 31 25 7 w hs (by omega) (by omega) rfl)
  have B31_25 : pc s 25 7 < 128 := pc_lt s 25 7
  have C31_20 := Lib.hid (fun w => F_at s 31 20 12 w hs (by omega) (by omega) rfl)
  have B31_20 : pc s 20 12 < 4096 := pc_lt s 20 12
  have C6_0 := Lib.hid (fun w => F_at s 6 0 7 w hs (by omega) (by omega) rfl)
  rw [hc] at C6_0
  have B6_0 : pc s 0 7 < 128 := pc_lt s 0 7
  have M := mul2 _ (low20 ((((pc s 31 1 : Nat) * 256 + (pc s 12 8 : Nat)) * 2 + (pc s 20 1 : Nat)) * 1024 + (pc s 21 10 : Nat) : Int)).1 (low20 _).2
  have C31_31 := Lib.hid (fun w => F_at s 31 31 1 w hs (by omega) (by omega) rfl)
  have B31_31 : pc s 31 1 < 2 := pc_lt s 31 1
  have C19_12 := Lib.hid (fun w => F_at s 19 12 8 w hs (by omega) (by omega) rfl)
  have B19_12 : pc s 12 8 < 256 := pc_lt s 12 8
  have C20_20 := Lib.hid (fun w => F_at s 20 20 1 w hs (by omega) (by omega) rfl)
  have B20_20 : pc s 20 1 < 2 := pc_lt s 20 1
  have C30_21 := Lib.hid (fun w => F_at s 30 21 10 w hs (by omega) (by omega) rfl)
  have B30_21 : pc s 21 10 < 1024 := pc_lt s 21 10
  go_enter Tryz.func16, Tryz.ntmps16
  go_wp2_with fail
  refine (C11_7.out _).mono ?_
  rintro e wx ⟨rfl, rfl⟩
  generalize (w.alloc (.cells (I7 0 0 0 0 0 0 0) 28)).alloc (.cells (I7 0 0 0 0 0 0 4) 28) = w1 at f0 ⊢
  obtain ⟨b0, b1, b2, b3, b4, b5, b6⟩ := f0.box.seven
  have z := f0.box.free
  go_wp2_with fail
  refine (C14_12.out _).mono ?_
  rintro e wx ⟨rfl, rfl⟩
  go_wp2_with fail
  refine (C19_15.out _).mono ?_
  rintro e wx ⟨rfl, rfl⟩
  go_wp2_with fail
  refine (C24_20.out _).mono ?_
  rintro e wx ⟨rfl, rfl⟩
  go_wp2_with fail
  refine (C31_25.out _).mono ?_
  rintro e wx ⟨rfl, rfl⟩
  go_wp2_with fail
  refine (C31_20.out _).mono ?_
  rintro e wx ⟨rfl, rfl⟩
  go_wp2_with fail
  refine (S_at _ 12 4096 _ (by omega) (by omega) (by omega) (by rfl) (by omega)).mono ?_
  rintro e wx ⟨rfl, rfl⟩
  go_wp2_with fail
  refine (C6_0.out _).mono ?_
  rintro e wx ⟨rfl, rfl⟩
  go_wp2_with fail
  refine (C31_31.out _).mono ?_
  rintro e wx ⟨rfl, rfl⟩
  go_wp2_with fail
  refine (C19_12.out _).mono ?_
  rintro e wx ⟨rfl, rfl⟩
  go_wp2_with fail
  refine (C20_20.out _).mono ?_
  rintro e wx ⟨rfl, rfl⟩
  go_wp2_with fail
  refine (C30_21.out _).mono ?_
  rintro e wx ⟨rfl, rfl⟩
  go_wp2_with fail
  refine (S_at _ 20 1048576 _ (by omega) (by omega) (by omega) (by rfl) (by omega)).mono ?_
  rintro e wx ⟨rfl, rfl⟩
  obtain ⟨q0, q1, q2, q3, q4, q5, q6⟩ := f0.res.seven
  have y := f0.res.free
  go_wp2
  have g := (((f0.set 0 (.int .i64 3)).set 1 (.int .i64 (pc s 7 5 : Nat))).set 4 (.int .i64 (low ((((pc s 31 1 : Nat) * 256 + (pc s 12 8 : Nat)) * 2 + (pc s 20 1 : Nat)) * 1024 + (pc s 21 10 : Nat) : Int) 20 * 2)))
  (try simp only [Exit.inBlock, Exit.then])
  refine bodyPost_ret (results_two rfl _ _ w.heap.size _ _ _ _ _ _ _ rfl (g.res.seven_set _ _ _ _ _ _ _)) rfl ⟨rfl, ?_⟩
  exact g.kp.seven_set (Nat.le_refl _) _ _ _ _ _ _ _

set_option maxRecDepth 100000 in
set_option maxHeartbeats 2000000 in
theorem ref_load (s : Nat) (w : World) (hs : s < 4294967296) (hc : pc s 0 7 = 3) (ho : (([11, 12, 13, 14, 15, 16, 17] : List Int).getD (pc s 12 3) 0 == 0) = false) :
    Calls Tryz.prog 16 #[.int .u32 s] w fun e w' => e = .returned (.tuple #[.agg (I7 (([11, 12, 13, 14, 15, 16, 17] : List Int).getD (pc s 12 3) 0) (pc s 7 5 : Nat) (pc s 15 5 : Nat) 0 (low (pc s 20 12 : Nat) 12) 0 4), .bool true]) ∧ Kp none w w' := by
  have f0 := FrR.start w (I7 0 0 0 0 0 0 4)
  have C11_7 := Lib.hid (fun w => F_at s 11 7 5 w hs (by omega) (by omega) rfl)
  have B11_7 : pc s 7 5 < 32 := pc_lt s 7 5
  have C14_12 := Lib.hid (fun w => F_at s 14 12 3 w hs (by omega) (by omega) rfl)
  have B14_12 : pc s 12 3 < 8 := pc_lt s 12 3
  have C19_15 := Lib.hid (fun w => F_at s 19 15 5 w hs (by omega) (by omega) rfl)
  have B19_15 : pc s 15 5 < 32 := pc_lt s 15 5
  have C24_20 := Lib.hid (fun w => F_at s 24 20 5 w hs (by omega) (by omega) rfl)
  have B24_20 : pc s 20 5 < 32 := pc_lt s 20 5
  have C31_25 := Lib.hid (fun w => F_at s 31 25 7 w hs (by omega) (by omega) rfl)
  have B31_25 : pc s 25 7 < 128 := pc_lt s 25 7
  have C31_20 := Lib.hid (fun w => F_at s 31 20 12 w hs (by omega) (by omega) rfl)
  have B31_20 : pc s 20 12 < 4096 := pc_lt s 20 12
  have C6_0 := Lib.hid (fun w => F_at s 6 0 7 w hs (by omega) (by omega) rfl)
  rw [hc] at C6_0
  have B6_0 : pc s 0 7 < 128 := pc_lt s 0 7
  have O_o := Lib.hid (fun w0 w1 hw => one_new [11, 12, 13, 14, 15, 16, 17] (pc s 12 3) w0 w1 hw (by decide))
  generalize ([11, 12, 13, 14, 15, 16, 17] : List Int).getD (pc s 12 3) 0 = o at *
  go_enter Tryz.func16, Tryz.ntmps16
  go_wp2_with fail
  refine (C11_7.out _).mono ?_
  rintro e wx ⟨rfl, rfl⟩
  generalize (w.alloc (.cells (I7 0 0 0 0 0 0 0) 28)).alloc (.cells (I7 0 0 0 0 0 0 4) 28) = w1 at f0 ⊢
  obtain ⟨b0, b1, b2, b3, b4, b5, b6⟩ := f0.box.seven
  have z := f0.box.free
  go_wp2_with fail
  refine (C14_12.out _).mono ?_
  rintro e wx ⟨rfl, rfl⟩
  go_wp2_with fail
  refine (C19_15.out _).mono ?_
  rintro e wx ⟨rfl, rfl⟩
  go_wp2_with fail
  refine (C24_20.out _).mono ?_
  rintro e wx ⟨rfl, rfl⟩
  go_wp2_with fail
  refine (C31_25.out _).mono ?_
  rintro e wx ⟨rfl, rfl⟩
  go_wp2_with fail
  refine (C31_20.out _).mono ?_
  rintro e wx ⟨rfl, rfl⟩
  go_wp2_with fail
  refine (S_at _ 12 4096 _ (by omega) (by omega) (by omega) (by rfl) (by omega)).mono ?_
  rintro e wx ⟨rfl, rfl⟩
  go_wp2_with fail
  refine (C6_0.out _).mono ?_
  rintro e wx ⟨rfl, rfl⟩
  go_wp2_with fail
  refine (O_o.out w1 _ (by rfl)).mono ?_
  rintro e wx ⟨rfl, rfl⟩
  have f1 : FrR w (I7 0 0 0 0 0 0 4) _ := f0.alloc #[.int .i64 11, .int .i64 12, .int .i64 13, .int .i64 14, .int .i64 15, .int .i64 16, .int .i64 17] 3
  generalize w1.alloc (.cells #[.int .i64 11, .int .i64 12, .int .i64 13, .int .i64 14, .int .i64 15, .int .i64 16, .int .i64 17] 3) = w2 at f1 ⊢
  clear b0 b1 b2 b3 b4 b5 b6 z
  obtain ⟨b0, b1, b2, b3, b4, b5, b6⟩ := f1.box.seven
  have z := f1.box.free
  go_wp2_with fail
  refine (C6_0.out _).mono ?_
  rintro e wx ⟨rfl, rfl⟩
  obtain ⟨q0, q1, q2, q3, q4, q5, q6⟩ := f1.res.seven
  have y := f1.res.free
  go_wp2
  have g := ((((f1.set 0 (.int .i64 o)).set 1 (.int .i64 (pc s 7 5 : Nat))).set 2 (.int .i64 (pc s 15 5 : Nat))).set 4 (.int .i64 (low (pc s 20 12 : Nat) 12)))
  (try simp only [Exit.inBlock, Exit.then])
  refine bodyPost_ret (results_two rfl _ _ w.heap.size _ _ _ _ _ _ _ rfl (g.res.seven_set _ _ _ _ _ _ _)) rfl ⟨rfl, ?_⟩
  exact g.kp.seven_set (Nat.le_refl _) _ _ _ _ _ _ _

set_option maxRecDepth 100000 in
set_option maxHeartbeats 2000000 in
theorem ref_load_z (s : Nat) (w : World) (hs : s < 4294967296) (hc : pc s 0 7 = 3) (ho : ([11, 12, 13, 14, 15, 16, 17] : List Int).getD (pc s 12 3) 0 = 0) :
    Calls Tryz.prog 16 #[.int .u32 s] w fun e w' => e = .returned (.tuple #[.agg (I7 0 0 0 0 0 0 0), .bool false]) ∧ Kp none w w' := by
  have f0 := FrR.start w (I7 0 0 0 0 0 0 4)
  have C11_7 := Lib.hid (fun w => F_at s 11 7 5 w hs (by omega) (by omega) rfl)
  have B11_7 : pc s 7 5 < 32 := pc_lt s 7 5
  have C14_12 := Lib.hid (fun w => F_at s 14 12 3 w hs (by omega) (by omega) rfl)
  have B14_12 : pc s 12 3 < 8 := pc_lt s 12 3
  have C19_15 := Lib.hid (fun w => F_at s 19 15 5 w hs (by omega) (by omega) rfl)
  have B19_15 : pc s 15 5 < 32 := pc_lt s 15 5
  have C24_20 := Lib.hid (fun w => F_at s 24 20 5 w hs (by omega) (by omega) rfl)
  have B24_20 : pc s 20 5 < 32 := pc_lt s 20 5
  have C31_25 := Lib.hid (fun w => F_at s 31 25 7 w hs (by omega) (by omega) rfl)
  have B31_25 : pc s 25 7 < 128 := pc_lt s 25 7
  have C31_20 := Lib.hid (fun w => F_at s 31 20 12 w hs (by omega) (by omega) rfl)
  have B31_20 : pc s 20 12 < 4096 := pc_lt s 20 12
  have C6_0 := Lib.hid (fun w => F_at s 6 0 7 w hs (by omega) (by omega) rfl)
  rw [hc] at C6_0
  have B6_0 : pc s 0 7 < 128 := pc_lt s 0 7
  have O_o := Lib.hid (fun w0 w1 hw => one_new [11, 12, 13, 14, 15, 16, 17] (pc s 12 3) w0 w1 hw (by decide))
  generalize ([11, 12, 13, 14, 15, 16, 17] : List Int).getD (pc s 12 3) 0 = o at *
  subst ho
  go_enter Tryz.func16, Tryz.ntmps16
  go_wp2_with fail
  refine (C11_7.out _).mono ?_
  rintro e wx ⟨rfl, rfl⟩
  generalize (w.alloc (.cells (I7 0 0 0 0 0 0 0) 28)).alloc (.cells (I7 0 0 0 0 0 0 4) 28) = w1 at f0 ⊢
  obtain ⟨b0, b1, b2, b3, b4, b5, b6⟩ := f0.box.seven
  have z := f0.box.free
  go_wp2_with fail
  refine (C14_12.out _).mono ?_
  rintro e wx ⟨rfl, rfl⟩
  go_wp2_with fail
  refine (C19_15.out _).mono ?_
  rintro e wx ⟨rfl, rfl⟩
  go_wp2_with fail
  refine (C24_20.out _).mono ?_
  rintro e wx ⟨rfl, rfl⟩
  go_wp2_with fail
  refine (C31_25.out _).mono ?_
  rintro e wx ⟨rfl, rfl⟩
  go_wp2_with fail
  refine (C31_20.out _).mono ?_
  rintro e wx ⟨rfl, rfl⟩
  go_wp2_with fail
  refine (S_at _ 12 4096 _ (by omega) (by omega) (by omega) (by rfl) (by omega)).mono ?_
  rintro e wx ⟨rfl, rfl⟩
  go_wp2_with fail
  refine (C6_0.out _).mono ?_
  rintro e wx ⟨rfl, rfl⟩
  go_wp2_with fail
  refine (O_o.out w1 _ (by rfl)).mono ?_
  rintro e wx ⟨rfl, rfl⟩
  have f1 : FrR w (I7 0 0 0 0 0 0 4) _ := f0.alloc #[.int .i64 11, .int .i64 12, .int .i64 13, .int .i64 14, .int .i64 15, .int .i64 16, .int .i64 17] 3
  generalize w1.alloc (.cells #[.int .i64 11, .int .i64 12, .int .i64 13, .int .i64 14, .int .i64 15, .int .i64 16, .int .i64 17] 3) = w2 at f1 ⊢
  clear b0 b1 b2 b3 b4 b5 b6 z
  obtain ⟨b0, b1, b2, b3, b4, b5, b6⟩ := f1.box.seven
  have z := f1.box.free
  go_wp2_with fail
  refine (C6_0.out _).mono ?_
  rintro e wx ⟨rfl, rfl⟩
  obtain ⟨q0, q1, q2, q3, q4, q5, q6⟩ := f1.res.seven
  have y := f1.res.free
  go_wp2
  have g := ((((f1.set 0 (.int .i64 0)).set 1 (.int .i64 (pc s 7 5 : Nat))).set 2 (.int .i64 (pc s 15 5 : Nat))).set 4 (.int .i64 (low (pc s 20 12 : Nat) 12)))
  (try simp only [Exit.inBlock, Exit.then])
  refine bodyPost_ret (results_two rfl _ _ w.heap.size _ _ _ _ _ _ _ rfl (g.res.seven_set _ _ _ _ _ _ _)) rfl ⟨rfl, ?_⟩
  exact g.kp.seven_set (Nat.le_refl _) _ _ _ _ _ _ _

end Go.Proofs.YtionnhjldcpmjaaGreatDoor
