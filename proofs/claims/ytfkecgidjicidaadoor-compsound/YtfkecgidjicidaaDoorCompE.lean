/-
  Contracts of comp's own functions, and the law's own question.
-/
import Derived.Test.YtfkecgidjicidaaDoorCompD
set_option linter.unusedVariables false
set_option linter.unusedSimpArgs false
namespace Go.Proofs.YtfkecgidjicidaaDoor
open Go.RowKit
theorem results_twoC {fn : Func} {p u : Tmp} (h : fn.results = #[.cell p 24, .tmp u]) (tmps : Array Value) (w : World) (g : Nat) (v0 v1 v2 v3 v4 v5 v6 : Value)
    (hp : tmps.getD p undef = .pointer (some ⟨g, 0, none⟩)) (hg : Has w g 24 #[v0, v1, v2, v3, v4, v5, v6]) :
    (results fn tmps).run Tryd.prog w = .ok (.tuple #[.agg #[v0, v1, v2, v3, v4, v5, v6], tmps.getD u undef]) w := by
  have hr := run_loadVar_row (P := Tryd.prog) w g 24 24 #[v0, v1, v2, v3, v4, v5, v6] (0, 0) _ hg Tryd.underlying24 rfl (by kernel_rfl)
  rw [results_cell_tmp h, hp]
  simp [asAddr, Result.andThen, hr]
/-- What Expand answers. -/
def exI (s : Nat) : Array Value := if (ex s).op = 0 then I7 0 0 0 0 0 0 0 else (ex s).cells 2
def exB (s : Nat) : Bool := decide ((ex s).op ≠ 0)

set_option maxHeartbeats 1000000 in
theorem expand_no (s : Nat) (op rd r1 r2 im : Int) (w : World) (ho : op = 0) (HI : ∀ w', Kp none w w' → Calls Tryd.prog 12 #[.int .u16 s] w' fun e w'' => e = .returned (.agg (I7 op rd r1 r2 im 0 0)) ∧ Kp none w' w'') :
    Calls Tryd.prog 7 #[.int .u16 s] w fun e w' => e = .returned (.tuple #[.agg (I7 0 0 0 0 0 0 0), .bool false]) ∧ Kp none w w' := by
  subst ho
  have CI := Lib.hid HI; clear HI
  have k := (Kp.refl none w).alloc (I7 0 0 0 0 0 0 0) 24
  have b := Has.new w (I7 0 0 0 0 0 0 0) 24
  have HK := Lib.hid k; have HB := Lib.hid b; clear k b
  go_enter Tryd.func7, Tryd.ntmps7
  go_wp2_with fail
  refine (CI.out _ HK.out).mono ?_
  rintro e w1 ⟨rfl, hq⟩
  have k := (HK.out.trans hq); have b := HB.out.kp hq (by simp)
  clear HK HB hq CI
  have hlt : w.heap.size < w1.heap.size := b.lt
  have hne : w.heap.size ≠ w1.heap.size := by omega
  have hne' : w1.heap.size ≠ w.heap.size := by omega
  obtain ⟨q0, q1, q2, q3, q4, q5, q6⟩ := b.seven
  have y := b.free
  go_wp2
  (try simp only [Exit.inBlock, Exit.then])
  refine bodyPost_ret (results_twoC rfl _ _ w.heap.size _ _ _ _ _ _ _ rfl ((b.seven_set _ _ _ _ _ _ _).alloc _)) rfl ⟨rfl, ?_⟩
  exact (k.seven_set (Nat.le_refl _) _ _ _ _ _ _ _).alloc _ _

set_option maxHeartbeats 1000000 in
theorem expand_yes (s : Nat) (op rd r1 r2 im : Int) (w : World) (ho : (op == 0) = false) (HI : ∀ w', Kp none w w' → Calls Tryd.prog 12 #[.int .u16 s] w' fun e w'' => e = .returned (.agg (I7 op rd r1 r2 im 0 0)) ∧ Kp none w' w'') :
    Calls Tryd.prog 7 #[.int .u16 s] w fun e w' => e = .returned (.tuple #[.agg (I7 op rd r1 r2 im 0 2), .bool true]) ∧ Kp none w w' := by
  skip
  have CI := Lib.hid HI; clear HI
  have k := (Kp.refl none w).alloc (I7 0 0 0 0 0 0 0) 24
  have b := Has.new w (I7 0 0 0 0 0 0 0) 24
  have HK := Lib.hid k; have HB := Lib.hid b; clear k b
  go_enter Tryd.func7, Tryd.ntmps7
  go_wp2_with fail
  refine (CI.out _ HK.out).mono ?_
  rintro e w1 ⟨rfl, hq⟩
  have k := (HK.out.trans hq); have b := HB.out.kp hq (by simp)
  clear HK HB hq CI
  have hlt : w.heap.size < w1.heap.size := b.lt
  have hne : w.heap.size ≠ w1.heap.size := by omega
  have hne' : w1.heap.size ≠ w.heap.size := by omega
  obtain ⟨q0, q1, q2, q3, q4, q5, q6⟩ := b.seven
  have y := b.free
  go_wp2
  (try simp only [Exit.inBlock, Exit.then])
  refine bodyPost_ret (results_twoC rfl _ _ w.heap.size _ _ _ _ _ _ _ rfl ((b.seven_set _ _ _ _ _ _ _).alloc _)) rfl ⟨rfl, ?_⟩
  exact (k.seven_set (Nat.le_refl _) _ _ _ _ _ _ _).alloc _ _

/-- Expand. -/
theorem expand_any (s : Nat) (w : World) (hs : s < 65536) (hT : TabsC w) : Calls Tryd.prog 7 #[.int .u16 s] w fun e w' => e = .returned (.tuple #[.agg (exI s), .bool (exB s)]) ∧ Kp none w w' := by
  have HI := fun w' (kw : Kp none w w') => instruction_any s w' hs (hT.kp kw)
  unfold exI exB
  generalize ex s = i at *
  obtain ⟨op, rd, r1, r2, im⟩ := i
  by_cases h : op = 0
  · have e1 : (if (Sh.mk op rd r1 r2 im).op = 0 then I7 0 0 0 0 0 0 0 else (Sh.mk op rd r1 r2 im).cells 2) = I7 0 0 0 0 0 0 0 := if_pos h
    have e2 : decide ((Sh.mk op rd r1 r2 im).op ≠ 0) = false := by simp [h]
    rw [e1, e2]
    exact expand_no s op rd r1 r2 im w h HI
  · have e1 : (if (Sh.mk op rd r1 r2 im).op = 0 then I7 0 0 0 0 0 0 0 else (Sh.mk op rd r1 r2 im).cells 2) = I7 op rd r1 r2 im 0 2 := if_neg h
    have e2 : decide ((Sh.mk op rd r1 r2 im).op ≠ 0) = true := by simp [h]
    rw [e1, e2]
    exact expand_yes s op rd r1 r2 im w (by simp [h]) HI
theorem answers_any (w : World) (hT : TabsC w) : Calls Tryd.prog 9 #[] w fun e w' => e = .returned (.bool true) ∧ Kp none w w' := by
  have HD := Lib.hid (expand_any 17669 w (by decide) hT)
  have e0 : ex 17669 = ⟨22, 10, 0, 0, 1⟩ := by kernel_rfl
  have e1 : exI 17669 = I7 22 10 0 0 1 0 2 := by unfold exI; rw [e0]; rfl
  have e2 : exB 17669 = true := by unfold exB; rw [e0]; rfl
  rw [e1, e2] at HD
  clear e0 e1 e2 hT
  go_enter Tryd.func9, Tryd.ntmps9
  go_wp2_with fail
  refine HD.out.mono ?_
  rintro e w1 ⟨rfl, k1⟩
  go_wp2
  go_ret
  exact ⟨rfl, k1.alloc _ _⟩
theorem short_yes (s : Nat) (w : World) (hs : s < 65536) (h : ((s : Int) % 4 != 3) = true) : Calls Tryd.prog 10 #[.int .u16 s] w fun e w' => e = .returned (.bool true) ∧ Kp none w w' := by
  have h2 : (((pc s 0 2 : Nat) : Int) != 3) = true := by
    simp only [bne_iff_ne, ne_eq] at h ⊢
    have : pc s 0 2 = s % 4 := by unfold pc; simp
    omega
  have CG := Lib.hid (fun w => group_is s _ w hs rfl)
  generalize pc s 0 2 = g at *
  clear h hs
  go_enter Tryd.func10, Tryd.ntmps10
  go_wp2_with fail
  refine (CG.out _).mono ?_
  rintro e w1 ⟨rfl, hq⟩
  go_wp2
  go_ret
  exact ⟨rfl, kd hq⟩
theorem short_no (s : Nat) (w : World) (hs : s < 65536) (h : ((s : Int) % 4 != 3) = false) : Calls Tryd.prog 10 #[.int .u16 s] w fun e w' => e = .returned (.bool false) ∧ Kp none w w' := by
  have h2 : pc s 0 2 = 3 := by
    simp only [bne_eq_false_iff_eq] at h
    have : pc s 0 2 = s % 4 := by unfold pc; simp
    omega
  have CG := Lib.hid (fun w => group_is s 3 w hs h2)
  clear h hs h2
  go_enter Tryd.func10, Tryd.ntmps10
  go_wp2_with fail
  refine (CG.out _).mono ?_
  rintro e w1 ⟨rfl, hq⟩
  go_wp2
  go_ret
  exact ⟨rfl, kd hq⟩
end Go.Proofs.YtfkecgidjicidaaDoor