/-
  Contracts of the smaller functions that look an operator up.
-/
import Derived.Test.YtionnhjldcpmjaaGreatDoorTables
import Derived.Deep.RegionHeld3
set_option linter.unusedVariables false
namespace Go.Proofs.YtionnhjldcpmjaaGreatDoor
open Go.RowKit

def T17 : List Int := [66, 65, 63, 64, 67, 0, 0, 0, 69, 0, 0, 0, 68, 0, 0, 0, 70, 0, 0, 0, 71, 0, 0, 0, 72, 0, 0, 0, 73, 0, 0, 0]
def T18 : List Int := [77, 76, 74, 75, 78, 0, 0, 0, 80, 0, 0, 0, 79, 0, 0, 0, 81, 0, 0, 0, 82, 0, 0, 0, 83, 0, 0, 0, 84, 0, 0, 0]
/-- An atomic operator, but none where one that loads has a second register. -/
def lrOf (o : Int) (p : Nat) : Int := if (o = 63 ∨ o = 74) ∧ p ≠ 0 then 0 else o
def opA (s f : Nat) : Int := lrOf (if f = 2 then T17.getD (pc s 27 5) 0 else if f = 3 then T18.getD (pc s 27 5) 0 else 0) (pc s 20 5)

theorem lookSystem_any (s : Nat) (w : World) : Calls Tryz.prog 68 #[.int .u32 s] w fun e w' => e = .returned (.int .i64 (if s = 115 then 87 else if s = 1048691 then 88 else 0)) ∧ w = w' := by
  by_cases h1 : s = 115
  · subst h1
    go_enter Tryz.func68, Tryz.ntmps68
    go_wp2
    go_ret
    exact ⟨rfl, rfl⟩
  · by_cases h2 : s = 1048691
    · subst h2
      go_enter Tryz.func68, Tryz.ntmps68
      go_wp2
      go_ret
      exact ⟨rfl, rfl⟩
    · rw [if_neg h1, if_neg h2]
      have e1 : ((s : Int) == 115) = false := by simp; omega
      have e2 : ((s : Int) == 1048691) = false := by simp; omega
      go_enter Tryz.func68, Tryz.ntmps68
      go_wp2
      go_ret
      exact ⟨rfl, rfl⟩

theorem shift_any (m : Nat) (w : World) : Calls Tryz.prog 80 #[.int .i64 m] w fun e w' => e = .returned (.func (.func 96) #[] #[.pointer (some ⟨w.heap.size, 0, none⟩)]) ∧ Has w' w.heap.size 3 #[.int .i64 m] ∧ Kp none w w' := by
  have hmf : ∀ (fn : Fn) (first cap : Array Value) (w : World), (Instr.makeFunc fn first cap).run Tryz.prog w = .ok (.func fn first cap) w := fun _ _ _ _ => rfl
  go_enter Tryz.func80, Tryz.ntmps80
  go_wp2
  go_ret
  exact ⟨rfl, Has.new _ _ _, (Kp.refl _ _).alloc _ _⟩

set_option maxHeartbeats 1000000 in
theorem lookAtomic_w (s : Nat) (w : World) (hs : s < 4294967296) (hT : Tabs w) : Calls Tryz.prog 65 #[.int .u32 s, .int .u32 2] w fun e w' => e = .returned (.int .i64 (opA s 2)) ∧ Kp none w w' := by
  have hf := pc_lt s 27 5
  have hp := pc_le s 20 5 hs
  have hc : w.cell? ⟨19, pc s 27 5, none⟩ = some (.int .i64 (T17.getD (pc s 27 5) 0)) := hT.t17 _ (by simpa using hf)
  have ho : opA s 2 = lrOf (T17.getD (pc s 27 5) 0) (pc s 20 5) := rfl
  rw [ho]; clear ho hT
  have P1 := fun w => piece_any s 27 5 w hs (by omega) (by omega)
  have P2 := fun w => piece_any s 20 5 w hs (by omega) (by omega)
  generalize T17.getD (pc s 27 5) 0 = o at *
  generalize pc s 27 5 = f at *
  generalize pc s 20 5 = p at *
  have hf0 : (0 : Int) ≤ (f : Int) := by omega
  have hf1 : (f : Int) < 32 := by omega
  have H1 := Lib.hid P1; have H2 := Lib.hid P2; clear P1 P2
  by_cases ho : o = 63 ∨ o = 74
  · by_cases hp0 : p = 0
    · subst hp0
      have e1 : lrOf o 0 = o := by simp [lrOf]
      rw [e1]; clear e1
      rcases ho with rfl | rfl
      all_goals
        go_enter Tryz.func65, Tryz.ntmps65
        go_wp2_with fail
        refine (H1.out _).mono ?_
        rintro e w1 ⟨rfl, q, rfl⟩
        go_wp2_with fail
        refine (H2.out _).mono ?_
        rintro e w1 ⟨rfl, q2, rfl⟩
        go_wp2
        go_ret
        exact ⟨rfl, (Kp.refl _ _).drewN _⟩
    · have e1 : lrOf o p = 0 := by unfold lrOf; rw [if_pos ⟨ho, hp0⟩]
      have e2 : ((p : Int) != 0) = true := by simp; omega
      rw [e1]; clear e1
      rcases ho with rfl | rfl
      all_goals
        go_enter Tryz.func65, Tryz.ntmps65
        go_wp2_with fail
        refine (H1.out _).mono ?_
        rintro e w1 ⟨rfl, q, rfl⟩
        go_wp2_with fail
        refine (H2.out _).mono ?_
        rintro e w1 ⟨rfl, q2, rfl⟩
        go_wp2
        go_ret
        exact ⟨rfl, (Kp.refl _ _).drewN _⟩
  · have e1 : lrOf o p = o := by unfold lrOf; rw [if_neg (fun h => ho h.1)]
    have e2 : (o == 63) = false := by simp; intro h; exact ho (.inl h)
    have e3 : (o == 74) = false := by simp; intro h; exact ho (.inr h)
    rw [e1]; clear e1 ho
    go_enter Tryz.func65, Tryz.ntmps65
    go_wp2_with fail
    refine (H1.out _).mono ?_
    rintro e w1 ⟨rfl, q, rfl⟩
    go_wp2
    go_ret
    exact ⟨rfl, (Kp.refl _ _).drewN _⟩

set_option maxHeartbeats 1000000 in
theorem lookAtomic_d (s : Nat) (w : World) (hs : s < 4294967296) (hT : Tabs w) : Calls Tryz.prog 65 #[.int .u32 s, .int .u32 3] w fun e w' => e = .returned (.int .i64 (opA s 3)) ∧ Kp none w w' := by
  have hf := pc_lt s 27 5
  have hp := pc_le s 20 5 hs
  have hc : w.cell? ⟨20, pc s 27 5, none⟩ = some (.int .i64 (T18.getD (pc s 27 5) 0)) := hT.t18 _ (by simpa using hf)
  have ho : opA s 3 = lrOf (T18.getD (pc s 27 5) 0) (pc s 20 5) := rfl
  rw [ho]; clear ho hT
  have P1 := fun w => piece_any s 27 5 w hs (by omega) (by omega)
  have P2 := fun w => piece_any s 20 5 w hs (by omega) (by omega)
  generalize T18.getD (pc s 27 5) 0 = o at *
  generalize pc s 27 5 = f at *
  generalize pc s 20 5 = p at *
  have hf0 : (0 : Int) ≤ (f : Int) := by omega
  have hf1 : (f : Int) < 32 := by omega
  have H1 := Lib.hid P1; have H2 := Lib.hid P2; clear P1 P2
  by_cases ho : o = 63 ∨ o = 74
  · by_cases hp0 : p = 0
    · subst hp0
      have e1 : lrOf o 0 = o := by simp [lrOf]
      rw [e1]; clear e1
      rcases ho with rfl | rfl
      all_goals
        go_enter Tryz.func65, Tryz.ntmps65
        go_wp2_with fail
        refine (H1.out _).mono ?_
        rintro e w1 ⟨rfl, q, rfl⟩
        go_wp2_with fail
        refine (H2.out _).mono ?_
        rintro e w1 ⟨rfl, q2, rfl⟩
        go_wp2
        go_ret
        exact ⟨rfl, (Kp.refl _ _).drewN _⟩
    · have e1 : lrOf o p = 0 := by unfold lrOf; rw [if_pos ⟨ho, hp0⟩]
      have e2 : ((p : Int) != 0) = true := by simp; omega
      rw [e1]; clear e1
      rcases ho with rfl | rfl
      all_goals
        go_enter Tryz.func65, Tryz.ntmps65
        go_wp2_with fail
        refine (H1.out _).mono ?_
        rintro e w1 ⟨rfl, q, rfl⟩
        go_wp2_with fail
        refine (H2.out _).mono ?_
        rintro e w1 ⟨rfl, q2, rfl⟩
        go_wp2
        go_ret
        exact ⟨rfl, (Kp.refl _ _).drewN _⟩
  · have e1 : lrOf o p = o := by unfold lrOf; rw [if_neg (fun h => ho h.1)]
    have e2 : (o == 63) = false := by simp; intro h; exact ho (.inl h)
    have e3 : (o == 74) = false := by simp; intro h; exact ho (.inr h)
    rw [e1]; clear e1 ho
    go_enter Tryz.func65, Tryz.ntmps65
    go_wp2_with fail
    refine (H1.out _).mono ?_
    rintro e w1 ⟨rfl, q, rfl⟩
    go_wp2
    go_ret
    exact ⟨rfl, (Kp.refl _ _).drewN _⟩

set_option maxHeartbeats 1000000 in
theorem lookAtomic_no (s f : Nat) (w : World) (hs : s < 4294967296) (h2 : ((f : Int) == 2) = false) (h3 : ((f : Int) == 3) = false) : Calls Tryz.prog 65 #[.int .u32 s, .int .u32 f] w fun e w' => e = .returned (.int .i64 (opA s f)) ∧ Kp none w w' := by
  have ho : opA s f = 0 := by
    have h2' : f ≠ 2 := fun h => by subst h; simp at h2
    have h3' : f ≠ 3 := fun h => by subst h; simp at h3
    simp [opA, h2', h3', lrOf]
  rw [ho]; clear ho
  have P1 := fun w => piece_any s 27 5 w hs (by omega) (by omega)
  generalize pc s 27 5 = g at *
  have H1 := Lib.hid P1; clear P1
  go_enter Tryz.func65, Tryz.ntmps65
  go_wp2_with fail
  refine (H1.out _).mono ?_
  rintro e w1 ⟨rfl, q, rfl⟩
  go_wp2
  go_ret
  exact ⟨rfl, (Kp.refl _ _).drewN _⟩

theorem lookAtomic_any (s f : Nat) (w : World) (hs : s < 4294967296) (hT : Tabs w) : Calls Tryz.prog 65 #[.int .u32 s, .int .u32 f] w fun e w' => e = .returned (.int .i64 (opA s f)) ∧ Kp none w w' := by
  by_cases h2 : f = 2
  · subst h2; exact lookAtomic_w s w hs hT
  · by_cases h3 : f = 3
    · subst h3; exact lookAtomic_d s w hs hT
    · exact lookAtomic_no s f w hs (by simp; omega) (by simp; omega)

def T11 : List Int := [22, 0, 23, 24, 25, 0, 26, 27]
/-- An operator picked by f7 of three. -/
def pick3 (g : Nat) (a b c : List Int) (f : Nat) : Int := if g = 0 then a.getD f 0 else if g = 32 then b.getD f 0 else if g = 1 then c.getD f 0 else 0
set_option maxHeartbeats 1000000 in
theorem lookImmediate_plain (f g : Nat) (w : World) (hT : Tabs w) (hf : f ∈ [0, 2, 3, 4, 6, 7]) : Calls Tryz.prog 61 #[.int .u32 f, .int .u32 g] w fun e w' => e = .returned (.tuple #[.int .i64 (T11.getD f 0), .func (.func 58) #[] #[]]) ∧ w = w' := by
  have hc : w.cell? ⟨13, f, none⟩ = some (.int .i64 (T11.getD f 0)) := hT.t11 f (by simp at hf; rcases hf with h | h | h | h | h | h <;> simp [h])
  simp only [List.mem_cons, List.not_mem_nil, or_false] at hf
  clear hT
  rcases hf with rfl | rfl | rfl | rfl | rfl | rfl
  all_goals
    simp [T11] at hc
    go_enter Tryz.func61, Tryz.ntmps61
    go_wp2
    go_ret2
    exact ⟨rfl, rfl⟩

end Go.Proofs.YtionnhjldcpmjaaGreatDoor
