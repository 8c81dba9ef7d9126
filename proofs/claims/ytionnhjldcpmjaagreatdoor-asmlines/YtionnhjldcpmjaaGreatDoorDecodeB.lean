/-
  What a word is, in plain numbers: the contracts of look and Decode for every word.
-/
import Derived.Test.YtionnhjldcpmjaaGreatDoorDecodeA
set_option linter.unusedVariables false
set_option linter.unusedSimpArgs false
namespace Go.Proofs.YtionnhjldcpmjaaGreatDoor
set_option maxRecDepth 100000
open Go.RowKit
def Z8 : List Int := [0, 0, 0, 0, 0, 0, 0, 0]
/-- The operator by the fields; 0: none. -/
def opC (c f g s : Nat) : Int :=
  if c = 55 then 1 else if c = 23 then 2 else if c = 111 then 3 else if c = 103 then T0.getD f 0 else if c = 99 then T1.getD f 0 else if c = 3 then T2.getD f 0 else if c = 35 then T3.getD f 0
  else if c = 19 then (if f = 1 ∨ f = 5 then pick3 (g / 2 * 2) T12 T13 Z8 f else T11.getD f 0)
  else if c = 51 then pick3 g T4 T5 T6 f
  else if c = 27 then (if f = 0 then 41 else pick3 g T15 T16 Z8 f)
  else if c = 59 then pick3 g T7 T8 T9 f
  else if c = 47 then opA s f else if c = 15 then T10.getD f 0
  else if c = 115 then (if s = 115 then 87 else if s = 1048691 then 88 else 0) else 0
/-- The form by the fields. -/
def fmC (c f : Nat) : Fm :=
  if c = 55 then .up else if c = 23 then .up else if c = 111 then .jp else if c = 103 then .im else if c = 99 then .br else if c = 3 then .im else if c = 35 then .st
  else if c = 19 then (if f = 1 ∨ f = 5 then .sh 6 else .im) else if c = 51 then .rg else if c = 27 then (if f = 0 then .im else .sh 5) else if c = 59 then .rg
  else if c = 47 then .am else if c = 15 then .ba else if c = 115 then .ba else .no
def opW (s : Nat) : Int := opC (pc s 0 7) (pc s 12 3) (pc s 25 7) s
def fmW (s : Nat) : Fm := fmC (pc s 0 7) (pc s 12 3)
/-- What Decode answers. -/
def dec (s : Nat) : Ins := if opW s = 0 then zeroI else parts (opW s) s (fmW s)

theorem z8 : ∀ f : Nat, f < 8 → Z8.getD f 0 = 0 := by decide
theorem pick_a {g f : Nat} {a b c : List Int} (h : g = 0) : pick3 g a b c f = a.getD f 0 := by unfold pick3; rw [if_pos h]
theorem pick_b {g f : Nat} {a b c : List Int} (h : g = 32) : pick3 g a b c f = b.getD f 0 := by unfold pick3; rw [if_neg (by omega), if_pos h]
theorem pick_p {g f : Nat} {a b c : List Int} (h : g = 1) : pick3 g a b c f = c.getD f 0 := by unfold pick3; rw [if_neg (by omega), if_neg (by omega), if_pos h]
theorem pick_c {g f : Nat} {a b c : List Int} (h0 : g ≠ 0) (h1 : g ≠ 32) (h2 : g ≠ 1) (hf : f < 8) : pick3 g a b c f = Z8.getD f 0 := by unfold pick3; rw [if_neg h0, if_neg h1, if_neg h2, z8 f hf]
theorem nb {a b : Nat} (h : a ≠ b) : ((a : Int) == (b : Int)) = false := by simp; omega

set_option maxHeartbeats 1000000 in
theorem look_any (s : Nat) (w : World) (hs : s < 4294967296) (hT : Tabs w) : Calls Tryz.prog 41 #[.int .u32 s] w (LookPost s w (opW s) (fmW s)) := by
  have hf := pc_lt s 12 3
  have hg := pc_lt s 25 7
  unfold opW fmW
  by_cases h55 : pc s 0 7 = 55
  · rw [h55]
    exact look_lui s w hs hT h55
  by_cases h23 : pc s 0 7 = 23
  · rw [h23]
    exact look_auipc s w hs hT h23
  by_cases h111 : pc s 0 7 = 111
  · rw [h111]
    exact look_jal s w hs hT h111
  by_cases h103 : pc s 0 7 = 103
  · rw [h103]
    exact look_jalr s w hs hT h103
  by_cases h99 : pc s 0 7 = 99
  · rw [h99]
    exact look_branch s w hs hT h99
  by_cases h3 : pc s 0 7 = 3
  · rw [h3]
    exact look_load s w hs hT h3
  by_cases h35 : pc s 0 7 = 35
  · rw [h35]
    exact look_store s w hs hT h35
  by_cases h47 : pc s 0 7 = 47
  · rw [h47]
    exact look_atomic s w hs hT h47
  by_cases h15 : pc s 0 7 = 15
  · rw [h15]
    exact look_fence s w hs hT h15
  by_cases h115 : pc s 0 7 = 115
  · rw [h115]
    exact look_system s w hs hT h115
  by_cases h51 : pc s 0 7 = 51
  · rw [h51]
    show Calls Tryz.prog 41 #[.int .u32 s] w (LookPost s w (pick3 (pc s 25 7) T4 T5 T6 (pc s 12 3)) .rg)
    by_cases ha : pc s 25 7 = 0
    · rw [pick_a ha]; exact look_plain_a s w hs hT h51 ha
    by_cases hb : pc s 25 7 = 32
    · rw [pick_b hb]; exact look_plain_b s w hs hT h51 hb
    by_cases hp : pc s 25 7 = 1
    · rw [pick_p hp]; exact look_plain_p s w hs hT h51 hp
    rw [pick_c ha hb hp hf]; exact look_plain_c s w hs hT h51 (nb ha) (nb hb) (nb hp)
  by_cases h59 : pc s 0 7 = 59
  · rw [h59]
    show Calls Tryz.prog 41 #[.int .u32 s] w (LookPost s w (pick3 (pc s 25 7) T7 T8 T9 (pc s 12 3)) .rg)
    by_cases ha : pc s 25 7 = 0
    · rw [pick_a ha]; exact look_narrow_a s w hs hT h59 ha
    by_cases hb : pc s 25 7 = 32
    · rw [pick_b hb]; exact look_narrow_b s w hs hT h59 hb
    by_cases hp : pc s 25 7 = 1
    · rw [pick_p hp]; exact look_narrow_p s w hs hT h59 hp
    rw [pick_c ha hb hp hf]; exact look_narrow_c s w hs hT h59 (nb ha) (nb hb) (nb hp)
  by_cases h19 : pc s 0 7 = 19
  · rw [h19]
    by_cases h5 : pc s 12 3 = 1 ∨ pc s 12 3 = 5
    · have e1 : opC 19 (pc s 12 3) (pc s 25 7) s = pick3 (pc s 25 7 / 2 * 2) T12 T13 Z8 (pc s 12 3) := if_pos h5
      have e2 : fmC 19 (pc s 12 3) = .sh 6 := if_pos h5
      rw [e1, e2]
      by_cases ha : pc s 25 7 / 2 * 2 = 0
      · rw [pick_a ha]; exact look_imm_a s w hs hT h19 h5 ha
      by_cases hb : pc s 25 7 / 2 * 2 = 32
      · rw [pick_b hb]; exact look_imm_b s w hs hT h19 h5 hb
      have hp : pc s 25 7 / 2 * 2 ≠ 1 := by omega
      rw [pick_c ha hb hp hf]; exact look_imm_c s w hs hT h19 h5 (nb ha) (nb hb) (nb hp)

    · have e1 : opC 19 (pc s 12 3) (pc s 25 7) s = T11.getD (pc s 12 3) 0 := if_neg h5
      have e2 : fmC 19 (pc s 12 3) = .im := if_neg h5
      rw [e1, e2]
      exact look_imm s w hs hT h19 (by simp; omega)
  by_cases h27 : pc s 0 7 = 27
  · rw [h27]
    by_cases hz : pc s 12 3 = 0
    · have e1 : opC 27 (pc s 12 3) (pc s 25 7) s = 41 := if_pos hz
      have e2 : fmC 27 (pc s 12 3) = .im := if_pos hz
      rw [e1, e2]
      exact look_immW s w hs hT h27 hz
    · have e1 : opC 27 (pc s 12 3) (pc s 25 7) s = pick3 (pc s 25 7) T15 T16 Z8 (pc s 12 3) := if_neg hz
      have e2 : fmC 27 (pc s 12 3) = .sh 5 := if_neg hz
      rw [e1, e2]
      by_cases ha : pc s 25 7 = 0
      · rw [pick_a ha]; exact look_immW_a s w hs hT h27 hz ha
      by_cases hb : pc s 25 7 = 32
      · rw [pick_b hb]; exact look_immW_b s w hs hT h27 hz hb
      by_cases hp : pc s 25 7 = 1
      · rw [pick_p hp]; exact look_immW_p s w hs hT h27 hz hp
      rw [pick_c ha hb hp hf]; exact look_immW_c s w hs hT h27 hz (nb ha) (nb hb) (nb hp)

  have e1 : opC (pc s 0 7) (pc s 12 3) (pc s 25 7) s = 0 := by unfold opC; rw [if_neg h55, if_neg h23, if_neg h111, if_neg h103, if_neg h99, if_neg h3, if_neg h35, if_neg h19, if_neg h51, if_neg h27, if_neg h59, if_neg h47, if_neg h15, if_neg h115]
  have e2 : fmC (pc s 0 7) (pc s 12 3) = .no := by unfold fmC; rw [if_neg h55, if_neg h23, if_neg h111, if_neg h103, if_neg h99, if_neg h3, if_neg h35, if_neg h19, if_neg h51, if_neg h27, if_neg h59, if_neg h47, if_neg h15, if_neg h115]
  rw [e1, e2]
  exact look_none s w hs (nb h55) (nb h23) (nb h111) (nb h103) (nb h99) (nb h3) (nb h35) (nb h19) (nb h51) (nb h27) (nb h59) (nb h47) (nb h15) (nb h115)

theorem fm_sh (c f m : Nat) (h : fmC c f = .sh m) : m ≤ 6 := by
  by_cases h55 : c = 55
  · subst h55; cases h
  by_cases h23 : c = 23
  · subst h23; cases h
  by_cases h111 : c = 111
  · subst h111; cases h
  by_cases h103 : c = 103
  · subst h103; cases h
  by_cases h99 : c = 99
  · subst h99; cases h
  by_cases h3 : c = 3
  · subst h3; cases h
  by_cases h35 : c = 35
  · subst h35; cases h
  by_cases h19 : c = 19
  · subst h19
    by_cases h5 : f = 1 ∨ f = 5
    · have e : fmC 19 f = .sh 6 := if_pos h5
      rw [e] at h; (injection h with h; omega)
    · have e : fmC 19 f = .im := if_neg h5
      rw [e] at h; cases h
  by_cases h51 : c = 51
  · subst h51; cases h
  by_cases h27 : c = 27
  · subst h27
    by_cases h5 : f = 0
    · have e : fmC 27 f = .im := if_pos h5
      rw [e] at h; cases h
    · have e : fmC 27 f = .sh 5 := if_neg h5
      rw [e] at h; (injection h with h; omega)
  by_cases h59 : c = 59
  · subst h59; cases h
  by_cases h47 : c = 47
  · subst h47; cases h
  by_cases h15 : c = 15
  · subst h15; cases h
  by_cases h115 : c = 115
  · subst h115; cases h
  have e2 : fmC c f = .no := by unfold fmC; rw [if_neg h55, if_neg h23, if_neg h111, if_neg h103, if_neg h99, if_neg h3, if_neg h35, if_neg h19, if_neg h51, if_neg h27, if_neg h59, if_neg h47, if_neg h15, if_neg h115]
  rw [e2] at h; cases h
theorem no_zero (c f g s : Nat) (h : fmC c f = .no) : opC c f g s = 0 := by
  by_cases h55 : c = 55
  · subst h55; cases h
  by_cases h23 : c = 23
  · subst h23; cases h
  by_cases h111 : c = 111
  · subst h111; cases h
  by_cases h103 : c = 103
  · subst h103; cases h
  by_cases h99 : c = 99
  · subst h99; cases h
  by_cases h3 : c = 3
  · subst h3; cases h
  by_cases h35 : c = 35
  · subst h35; cases h
  by_cases h19 : c = 19
  · subst h19
    by_cases h5 : f = 1 ∨ f = 5
    · have e : fmC 19 f = .sh 6 := if_pos h5
      rw [e] at h; cases h
    · have e : fmC 19 f = .im := if_neg h5
      rw [e] at h; cases h
  by_cases h51 : c = 51
  · subst h51; cases h
  by_cases h27 : c = 27
  · subst h27
    by_cases h5 : f = 0
    · have e : fmC 27 f = .im := if_pos h5
      rw [e] at h; cases h
    · have e : fmC 27 f = .sh 5 := if_neg h5
      rw [e] at h; cases h
  by_cases h59 : c = 59
  · subst h59; cases h
  by_cases h47 : c = 47
  · subst h47; cases h
  by_cases h15 : c = 15
  · subst h15; cases h
  by_cases h115 : c = 115
  · subst h115; cases h
  unfold opC
  rw [if_neg h55, if_neg h23, if_neg h111, if_neg h103, if_neg h99, if_neg h3, if_neg h35, if_neg h19, if_neg h51, if_neg h27, if_neg h59, if_neg h47, if_neg h15, if_neg h115]
/-- Decode, for every word. -/
theorem decode_any (s : Nat) (w : World) (hs : s < 4294967296) (hT : Tabs w) :
    Calls Tryz.prog 43 #[.int .u32 s] w fun e w' => e = .returned (.tuple #[.agg (dec s).cells, .bool (decide (opW s ≠ 0))]) ∧ Kp none w w' := by
  have hl := fun w hT => look_any s w hs hT
  by_cases h0 : opW s = 0
  · have e : dec s = zeroI := if_pos h0
    rw [e]
    have e2 : decide (opW s ≠ 0) = false := by simp [h0]
    rw [e2]
    rw [h0] at hl
    exact decode_zero s w _ hT hl
  · have e : dec s = parts (opW s) s (fmW s) := if_neg h0
    rw [e]
    have e2 : decide (opW s ≠ 0) = true := by simp [h0]
    have ho : (opW s == 0) = false := by simp [h0]
    rw [e2]
    have hm := fm_sh (pc s 0 7) (pc s 12 3)
    have ef : fmC (pc s 0 7) (pc s 12 3) = fmW s := rfl
    rw [ef] at hm
    have hno : fmW s = .no → opW s = 0 := fun h => no_zero _ _ _ _ h
    generalize fmW s = fm at *
    cases fm with
    | up => exact decode_up s w _ hs ho hT hl
    | jp => exact decode_jp s w _ hs ho hT hl
    | im => exact decode_im s w _ hs ho hT hl
    | br => exact decode_br s w _ hs ho hT hl
    | st => exact decode_st s w _ hs ho hT hl
    | rg => exact decode_rg s w _ hs ho hT hl
    | am => exact decode_am s w _ hs ho hT hl
    | ba => exact decode_ba s w _ hs ho hT hl
    | sh m => exact decode_sh s w _ m (hm m rfl) hs ho hT hl
    | no => exact absurd (hno rfl) h0
end Go.Proofs.YtionnhjldcpmjaaGreatDoor
