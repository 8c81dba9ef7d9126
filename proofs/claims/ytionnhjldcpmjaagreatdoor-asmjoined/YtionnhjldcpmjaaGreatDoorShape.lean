/-
  What sound instructions are like.
-/
import Derived.Test.YtionnhjldcpmjaaGreatDoorFacts
import Derived.Test.YtionnhjldcpmjaaGreatDoorInstM
import Derived.Test.YtionnhjldcpmjaaGreatDoorAsmB
set_option linter.unusedVariables false
set_option linter.unusedSimpArgs false
namespace Go.Proofs.YtionnhjldcpmjaaGreatDoor
open Go.RowKit

/-- Which operators have a form. -/
def FitsF (op : Int) : Fm → Prop
  | .up => op = 1 ∨ op = 2
  | .jp => op = 3
  | .im => op = 4 ∨ (11 ≤ op ∧ op ≤ 17) ∨ (22 ≤ op ∧ op ≤ 27) ∨ op = 41
  | .br => 5 ≤ op ∧ op ≤ 10
  | .st => 18 ≤ op ∧ op ≤ 21
  | .rg => (31 ≤ op ∧ op ≤ 40) ∨ (45 ≤ op ∧ op ≤ 62)
  | .am => 63 ≤ op ∧ op ≤ 84
  | .ba => 85 ≤ op ∧ op ≤ 88
  | .sh m => m ≤ 6 ∧ ((28 ≤ op ∧ op ≤ 30) ∨ (42 ≤ op ∧ op ≤ 44))
  | .no => False
theorem tb1 : ∀ f : Nat, f < 8 → (T0.getD f 0 = 0 ∨ T0.getD f 0 = 4) ∧ (T1.getD f 0 = 0 ∨ (5 ≤ T1.getD f 0 ∧ T1.getD f 0 ≤ 10)) ∧ (T2.getD f 0 = 0 ∨ (11 ≤ T2.getD f 0 ∧ T2.getD f 0 ≤ 17)) ∧
    (T3.getD f 0 = 0 ∨ (18 ≤ T3.getD f 0 ∧ T3.getD f 0 ≤ 21)) ∧ (T11.getD f 0 = 0 ∨ (22 ≤ T11.getD f 0 ∧ T11.getD f 0 ≤ 27)) ∧ (T10.getD f 0 = 0 ∨ T10.getD f 0 = 85 ∨ T10.getD f 0 = 86) := by decide
def inR (x : Int) : Prop := x = 0 ∨ (31 ≤ x ∧ x ≤ 40) ∨ (45 ≤ x ∧ x ≤ 62)
def inS (x : Int) : Prop := x = 0 ∨ (28 ≤ x ∧ x ≤ 30) ∨ (42 ≤ x ∧ x ≤ 44)
instance (x : Int) : Decidable (inR x) := by unfold inR; infer_instance
instance (x : Int) : Decidable (inS x) := by unfold inS; infer_instance
theorem tb2 : ∀ f : Nat, f < 8 → inR (T4.getD f 0) ∧ inR (T5.getD f 0) ∧ inR (T6.getD f 0) ∧ inR (T7.getD f 0) ∧ inR (T8.getD f 0) ∧ inR (T9.getD f 0) := by decide
theorem tb3 : ∀ f : Nat, f < 8 → inS (T12.getD f 0) ∧ inS (T13.getD f 0) ∧ inS (T15.getD f 0) ∧ inS (T16.getD f 0) ∧ inS (Z8.getD f 0) := by decide
theorem tb4 : ∀ q : Nat, q < 32 → (T17.getD q 0 = 0 ∨ (63 ≤ T17.getD q 0 ∧ T17.getD q 0 ≤ 84)) ∧ (T18.getD q 0 = 0 ∨ (63 ≤ T18.getD q 0 ∧ T18.getD q 0 ≤ 84)) := by decide
theorem pick_inR {g f : Nat} {a b c : List Int} (ha : inR (a.getD f 0)) (hb : inR (b.getD f 0)) (hc : inR (c.getD f 0)) : inR (pick3 g a b c f) := by
  unfold pick3; repeat' split
  all_goals first | assumption | (exact Or.inl rfl)
theorem pick_inS {g f : Nat} {a b c : List Int} (ha : inS (a.getD f 0)) (hb : inS (b.getD f 0)) (hc : inS (c.getD f 0)) : inS (pick3 g a b c f) := by
  unfold pick3; repeat' split
  all_goals first | assumption | (exact Or.inl rfl)
theorem lrOf_cases (o : Int) (p : Nat) : lrOf o p = 0 ∨ (lrOf o p = o ∧ ((o = 63 ∨ o = 74) → p = 0)) := by
  unfold lrOf
  split
  · exact Or.inl rfl
  · rename_i h
    refine Or.inr ⟨rfl, fun h1 => ?_⟩
    rcases Nat.eq_zero_or_pos p with h2 | h2
    · exact h2
    · exact absurd ⟨h1, by omega⟩ h
set_option maxHeartbeats 1000000 in
theorem fits_form (s : Nat) (h : opW s ≠ 0) : FitsF (opW s) (fmW s) ∧ (fmW s = .am → (opW s = 63 ∨ opW s = 74) → pc s 20 5 = 0) := by
  have hf : pc s 12 3 < 8 := pc_lt s 12 3
  obtain ⟨t0, t1, t2, t3, t11, t10⟩ := tb1 _ hf
  obtain ⟨t4, t5, t6, t7, t8, t9⟩ := tb2 _ hf
  obtain ⟨t12, t13, t15, t16, tz⟩ := tb3 _ hf
  by_cases h55 : pc s 0 7 = 55
  · have hop : opW s = (1 : Int) := by unfold opW; rw [h55]; rfl
    have hfm : fmW s = .up := by unfold fmW; rw [h55]; rfl
    rw [hfm]
    refine ⟨?_, fun h => by cases h⟩
    unfold FitsF
    have q := t0
    clear t0 t1 t2 t3 t11 t10 t4 t5 t6 t7 t8 t9 t12 t13 t15 t16 tz hfm
    omega
  by_cases h23 : pc s 0 7 = 23
  · have hop : opW s = (2 : Int) := by unfold opW; rw [h23]; rfl
    have hfm : fmW s = .up := by unfold fmW; rw [h23]; rfl
    rw [hfm]
    refine ⟨?_, fun h => by cases h⟩
    unfold FitsF
    have q := t0
    clear t0 t1 t2 t3 t11 t10 t4 t5 t6 t7 t8 t9 t12 t13 t15 t16 tz hfm
    omega
  by_cases h111 : pc s 0 7 = 111
  · have hop : opW s = (3 : Int) := by unfold opW; rw [h111]; rfl
    have hfm : fmW s = .jp := by unfold fmW; rw [h111]; rfl
    rw [hfm]
    refine ⟨?_, fun h => by cases h⟩
    unfold FitsF
    have q := t0
    clear t0 t1 t2 t3 t11 t10 t4 t5 t6 t7 t8 t9 t12 t13 t15 t16 tz hfm
    omega
  by_cases h103 : pc s 0 7 = 103
  · have hop : opW s = T0.getD (pc s 12 3) 0 := by unfold opW; rw [h103]; rfl
    have hfm : fmW s = .im := by unfold fmW; rw [h103]; rfl
    rw [hfm]
    refine ⟨?_, fun h => by cases h⟩
    unfold FitsF
    have q := t0
    clear t0 t1 t2 t3 t11 t10 t4 t5 t6 t7 t8 t9 t12 t13 t15 t16 tz hfm
    omega
  by_cases h99 : pc s 0 7 = 99
  · have hop : opW s = T1.getD (pc s 12 3) 0 := by unfold opW; rw [h99]; rfl
    have hfm : fmW s = .br := by unfold fmW; rw [h99]; rfl
    rw [hfm]
    refine ⟨?_, fun h => by cases h⟩
    unfold FitsF
    have q := t1
    clear t0 t1 t2 t3 t11 t10 t4 t5 t6 t7 t8 t9 t12 t13 t15 t16 tz hfm
    omega
  by_cases h3 : pc s 0 7 = 3
  · have hop : opW s = T2.getD (pc s 12 3) 0 := by unfold opW; rw [h3]; rfl
    have hfm : fmW s = .im := by unfold fmW; rw [h3]; rfl
    rw [hfm]
    refine ⟨?_, fun h => by cases h⟩
    unfold FitsF
    have q := t2
    clear t0 t1 t2 t3 t11 t10 t4 t5 t6 t7 t8 t9 t12 t13 t15 t16 tz hfm
    omega
  by_cases h35 : pc s 0 7 = 35
  · have hop : opW s = T3.getD (pc s 12 3) 0 := by unfold opW; rw [h35]; rfl
    have hfm : fmW s = .st := by unfold fmW; rw [h35]; rfl
    rw [hfm]
    refine ⟨?_, fun h => by cases h⟩
    unfold FitsF
    have q := t3
    clear t0 t1 t2 t3 t11 t10 t4 t5 t6 t7 t8 t9 t12 t13 t15 t16 tz hfm
    omega
  by_cases h15 : pc s 0 7 = 15
  · have hop : opW s = T10.getD (pc s 12 3) 0 := by unfold opW; rw [h15]; rfl
    have hfm : fmW s = .ba := by unfold fmW; rw [h15]; rfl
    rw [hfm]
    refine ⟨?_, fun h => by cases h⟩
    unfold FitsF
    have q := t10
    clear t0 t1 t2 t3 t11 t10 t4 t5 t6 t7 t8 t9 t12 t13 t15 t16 tz hfm
    omega
  by_cases h115 : pc s 0 7 = 115
  · have hop : opW s = if s = 115 then 87 else if s = 1048691 then 88 else 0 := by unfold opW; rw [h115]; rfl
    have hfm : fmW s = .ba := by unfold fmW; rw [h115]; rfl
    rw [hfm]
    refine ⟨?_, fun h => by cases h⟩
    unfold FitsF
    clear t0 t1 t2 t3 t11 t10 t4 t5 t6 t7 t8 t9 t12 t13 t15 t16 tz
    split at hop
    · omega
    · split at hop <;> omega
  by_cases h19 : pc s 0 7 = 19
  · have hop : opW s = opC 19 (pc s 12 3) (pc s 25 7) s := by unfold opW; rw [h19]
    have hfm : fmW s = fmC 19 (pc s 12 3) := by unfold fmW; rw [h19]
    by_cases h5 : pc s 12 3 = 1 ∨ pc s 12 3 = 5
    · have e : opW s = pick3 (pc s 25 7 / 2 * 2) T12 T13 Z8 (pc s 12 3) := hop.trans (if_pos h5)
      have g : fmW s = .sh 6 := hfm.trans (if_pos h5)
      have := pick_inS (g := pc s 25 7 / 2 * 2) t12 t13 tz
      rw [g]
      refine ⟨?_, fun h => by cases h⟩
      unfold FitsF
      unfold inS at this
      clear t0 t1 t2 t3 t11 t10 t4 t5 t6 t7 t8 t9 t12 t13 t15 t16 tz
      omega
    · have e : opW s = T11.getD (pc s 12 3) 0 := hop.trans (if_neg h5)
      have g : fmW s = .im := hfm.trans (if_neg h5)
      rw [g]
      refine ⟨?_, fun h => by cases h⟩
      unfold FitsF
      have q := t11
      clear t0 t1 t2 t3 t11 t10 t4 t5 t6 t7 t8 t9 t12 t13 t15 t16 tz
      omega
  by_cases h51 : pc s 0 7 = 51
  · have e : opW s = pick3 (pc s 25 7) T4 T5 T6 (pc s 12 3) := by unfold opW; rw [h51]; rfl
    have g : fmW s = .rg := by unfold fmW; rw [h51]; rfl
    have := pick_inR (g := pc s 25 7) t4 t5 t6
    rw [g]
    refine ⟨?_, fun h => by cases h⟩
    unfold FitsF
    unfold inR at this
    clear t0 t1 t2 t3 t11 t10 t4 t5 t6 t7 t8 t9 t12 t13 t15 t16 tz
    omega
  by_cases h59 : pc s 0 7 = 59
  · have e : opW s = pick3 (pc s 25 7) T7 T8 T9 (pc s 12 3) := by unfold opW; rw [h59]; rfl
    have g : fmW s = .rg := by unfold fmW; rw [h59]; rfl
    have := pick_inR (g := pc s 25 7) t7 t8 t9
    rw [g]
    refine ⟨?_, fun h => by cases h⟩
    unfold FitsF
    unfold inR at this
    clear t0 t1 t2 t3 t11 t10 t4 t5 t6 t7 t8 t9 t12 t13 t15 t16 tz
    omega
  by_cases h27 : pc s 0 7 = 27
  · have hop : opW s = opC 27 (pc s 12 3) (pc s 25 7) s := by unfold opW; rw [h27]
    have hfm : fmW s = fmC 27 (pc s 12 3) := by unfold fmW; rw [h27]
    by_cases h0 : pc s 12 3 = 0
    · have e : opW s = 41 := hop.trans (if_pos h0)
      have g : fmW s = .im := hfm.trans (if_pos h0)
      rw [g]
      refine ⟨?_, fun h => by cases h⟩
      unfold FitsF
      clear t0 t1 t2 t3 t11 t10 t4 t5 t6 t7 t8 t9 t12 t13 t15 t16 tz
      omega
    · have e : opW s = pick3 (pc s 25 7) T15 T16 Z8 (pc s 12 3) := hop.trans (if_neg h0)
      have g : fmW s = .sh 5 := hfm.trans (if_neg h0)
      have := pick_inS (g := pc s 25 7) t15 t16 tz
      rw [g]
      refine ⟨?_, fun h => by cases h⟩
      unfold FitsF
      unfold inS at this
      clear t0 t1 t2 t3 t11 t10 t4 t5 t6 t7 t8 t9 t12 t13 t15 t16 tz
      omega
  by_cases h47 : pc s 0 7 = 47
  · have e : opW s = lrOf (if pc s 12 3 = 2 then T17.getD (pc s 27 5) 0 else if pc s 12 3 = 3 then T18.getD (pc s 27 5) 0 else 0) (pc s 20 5) := by unfold opW; rw [h47]; rfl
    have g : fmW s = .am := by unfold fmW; rw [h47]; rfl
    obtain ⟨l1, l2⟩ := tb4 _ (pc_lt s 27 5)
    clear t0 t1 t2 t3 t11 t10 t4 t5 t6 t7 t8 t9 t12 t13 t15 t16 tz
    have l3 : ∀ o : Int, o = (if pc s 12 3 = 2 then T17.getD (pc s 27 5) 0 else if pc s 12 3 = 3 then T18.getD (pc s 27 5) 0 else 0) → o = 0 ∨ (63 ≤ o ∧ o ≤ 84) := by
      intro o ho
      rw [ho]
      repeat' split
      all_goals first | exact l1 | exact l2 | exact Or.inl rfl
    generalize (if pc s 12 3 = 2 then T17.getD (pc s 27 5) 0 else if pc s 12 3 = 3 then T18.getD (pc s 27 5) 0 else 0) = o at *
    have l4 := l3 o rfl
    clear l1 l2 l3
    rw [g]
    rcases lrOf_cases o (pc s 20 5) with h1 | ⟨h1, h2⟩
    · exact absurd (e.trans h1) h
    · rw [h1] at e
      refine ⟨?_, fun _ h3 => h2 (by omega)⟩
      unfold FitsF
      omega
  have e : opW s = 0 := by unfold opW opC; rw [if_neg h55, if_neg h23, if_neg h111, if_neg h103, if_neg h99, if_neg h3, if_neg h35, if_neg h19, if_neg h51, if_neg h27, if_neg h59, if_neg h47, if_neg h15, if_neg h115]
  exact absurd e h
/-- What a sound instruction is like. -/
structure Good (i : Ins) : Prop where
  op : 1 ≤ i.op ∧ i.op ≤ 88
  regs : i.In
  im : -2147483648 ≤ i.im ∧ i.im < 2147483648
  od : ¬ (63 ≤ i.op ∧ i.op ≤ 84) → i.od = 0
  rd : frm i.op = 0 ∨ frm i.op = 4 ∨ frm i.op = 5 → i.rd = 0
  r1 : frm i.op = 0 ∨ frm i.op = 1 ∨ frm i.op = 2 → i.r1 = 0
  r2 : frm i.op = 0 ∨ frm i.op = 1 ∨ frm i.op = 2 ∨ frm i.op = 3 ∨ frm i.op = 6 ∨ frm i.op = 8 → i.r2 = 0
  im0 : frm i.op = 0 ∨ frm i.op = 7 ∨ frm i.op = 8 ∨ frm i.op = 9 → i.im = 0
  up : frm i.op = 1 → i.im % 4096 = 0
theorem frm_up {op : Int} (h : FitsF op .up) : frm op = 1 := by unfold FitsF at h; unfold frm; repeat' split
                                                                all_goals omega
theorem frm_jp {op : Int} (h : FitsF op .jp) : frm op = 2 := by unfold FitsF at h; unfold frm; repeat' split
                                                                all_goals omega
theorem frm_im {op : Int} (h : FitsF op .im) : frm op = 3 ∨ frm op = 6 := by unfold FitsF at h; unfold frm; repeat' split
                                                                             all_goals omega
theorem frm_br {op : Int} (h : FitsF op .br) : frm op = 4 := by unfold FitsF at h; unfold frm; repeat' split
                                                                all_goals omega
theorem frm_st {op : Int} (h : FitsF op .st) : frm op = 5 := by unfold FitsF at h; unfold frm; repeat' split
                                                                all_goals omega
theorem frm_rg {op : Int} (h : FitsF op .rg) : frm op = 7 := by unfold FitsF at h; unfold frm; repeat' split
                                                                all_goals omega
theorem frm_am {op : Int} (h : FitsF op .am) : (frm op = 8 ∧ (op = 63 ∨ op = 74)) ∨ frm op = 9 := by unfold FitsF at h; unfold frm; repeat' split
                                                                                                     all_goals omega
theorem frm_ba {op : Int} (h : FitsF op .ba) : frm op = 0 := by unfold FitsF at h; unfold frm; repeat' split
                                                                all_goals omega
theorem frm_sh {op : Int} {m : Nat} (h : FitsF op (.sh m)) : frm op = 6 := by unfold FitsF at h; unfold frm; repeat' split
                                                                              all_goals omega
theorem low_32 (x : Int) (b : Nat) (h1 : 1 ≤ b) (h2 : b ≤ 32) : -2147483648 ≤ low x b ∧ low x b < 2147483648 := by
  have a := low_lo x b
  have c := low_hi x b h1
  have d : (2 : Int) ^ (b - 1) ≤ 2147483648 := by
    have : (2 : Nat) ^ (b - 1) ≤ 2 ^ 31 := Nat.pow_le_pow_right (by decide) (by omega)
    have h3 : ((2 ^ (b - 1) : Nat) : Int) ≤ ((2 ^ 31 : Nat) : Int) := by exact_mod_cast this
    simpa using h3
  omega
theorem good_dec (s : Nat) (h : opW s ≠ 0) : Good (dec s) := by
  obtain ⟨hF, hL⟩ := fits_form s h
  have hI := dec_in h
  have hop := dec_op h
  have e : dec s = parts (opW s) s (fmW s) := if_neg h
  rw [e] at hI hop ⊢
  generalize hfm : fmW s = fm at *
  generalize opW s = o at *
  cases fm with
  | no => exact hF.elim
  | up =>
    have g := frm_up hF
    unfold FitsF at hF
    refine ⟨by rw [hop]; omega, hI, low_32 _ 32 (by omega) (by omega), fun _ => rfl, ?_, fun _ => rfl, fun _ => rfl, ?_, ?_⟩
    · rw [hop, g]; intro h; omega
    · rw [hop, g]; intro h; omega
    · intro _
      show (low (tk s 12 20 12) 32) % 4096 = 0
      rw [imU]; omega
  | jp =>
    have g := frm_jp hF
    unfold FitsF at hF
    refine ⟨by rw [hop]; omega, hI, low_32 _ 21 (by omega) (by omega), fun _ => rfl, ?_, fun _ => rfl, fun _ => rfl, ?_, ?_⟩
    all_goals (rw [hop, g]; intro h; omega)
  | im =>
    have g := frm_im hF
    unfold FitsF at hF
    refine ⟨by rw [hop]; omega, hI, low_32 _ 12 (by omega) (by omega), fun _ => rfl, ?_, ?_, fun _ => rfl, ?_, ?_⟩
    all_goals (rw [hop]; intro h; omega)
  | br =>
    have g := frm_br hF
    unfold FitsF at hF
    refine ⟨by rw [hop]; omega, hI, low_32 _ 13 (by omega) (by omega), fun _ => rfl, fun _ => rfl, ?_, ?_, ?_, ?_⟩
    all_goals (rw [hop, g]; intro h; omega)
  | st =>
    have g := frm_st hF
    unfold FitsF at hF
    refine ⟨by rw [hop]; omega, hI, low_32 _ 12 (by omega) (by omega), fun _ => rfl, fun _ => rfl, ?_, ?_, ?_, ?_⟩
    all_goals (rw [hop, g]; intro h; omega)
  | rg =>
    have g := frm_rg hF
    unfold FitsF at hF
    refine ⟨by rw [hop]; omega, hI, ?_, fun _ => rfl, ?_, ?_, ?_, fun _ => rfl, ?_⟩
    · show (-2147483648 : Int) ≤ 0 ∧ (0 : Int) < 2147483648
      decide
    all_goals (rw [hop, g]; intro h; omega)
  | am =>
    have g := frm_am hF
    have hL := hL rfl
    unfold FitsF at hF
    refine ⟨by rw [hop]; omega, hI, ?_, ?_, ?_, ?_, ?_, fun _ => rfl, ?_⟩
    · show (-2147483648 : Int) ≤ 0 ∧ (0 : Int) < 2147483648
      decide
    · rw [hop]; intro h; omega
    · rw [hop]; intro h; omega
    · rw [hop]; intro h; omega
    · rw [hop]; intro h
      show tk s 20 5 0 = 0
      rw [tk_zero, hL (by omega)]; rfl
    · rw [hop]; intro h; omega
  | ba =>
    have g := frm_ba hF
    unfold FitsF at hF
    refine ⟨by rw [hop]; omega, hI, ?_, fun _ => rfl, fun _ => rfl, fun _ => rfl, fun _ => rfl, fun _ => rfl, ?_⟩
    · show (-2147483648 : Int) ≤ 0 ∧ (0 : Int) < 2147483648
      decide
    · rw [hop, g]; intro h; omega
  | sh m =>
    have g := frm_sh hF
    unfold FitsF at hF
    refine ⟨by rw [hop]; omega, hI, ?_, fun _ => rfl, ?_, ?_, fun _ => rfl, ?_, ?_⟩
    · show -2147483648 ≤ tk s 20 m 0 ∧ tk s 20 m 0 < 2147483648
      rw [tk_zero]
      have h1 : pc s 20 m < 2 ^ m := pc_lt s 20 m
      have h2 : (2 : Nat) ^ m ≤ 2 ^ 6 := Nat.pow_le_pow_right (by decide) (by omega)
      omega
    all_goals (rw [hop, g]; intro h; omega)
theorem good_of {i : Ins} (h : encB i = true) : Good i := by
  obtain ⟨h1, h2⟩ := enc_true h
  rw [← h2]
  exact good_dec _ h1

end Go.Proofs.YtionnhjldcpmjaaGreatDoor
