/-
  Each word that is an instruction's, but of fences: the instruction's word is the same one.
-/
import Derived.Test.YtionnhjldcpmjaaGreatDoorInstO
import Derived.Test.YtionnhjldcpmjaaGreatDoorRefJ
set_option linter.unusedVariables false
set_option linter.unusedSimpArgs false
namespace Go.Proofs.YtionnhjldcpmjaaGreatDoor
open Go.RowKit
theorem enc_of {s : Nat} {X : Int} {K : Nat} {fm : Fm} (hop : opW s = X) (hfm : fmW s = fm) (h : opW s ≠ 0) (hK : keyW X = K) (hfK : fmW K = fm) (hl : layF (parts X s fm) K fm = s) : encS (dec s) = s := by
  have hn : fm ≠ .no := fun hn => h (no_zero _ _ _ _ (hfm.trans hn))
  have e : dec s = parts X s fm := by unfold dec; rw [if_neg h, hop, hfm]
  have e2 : (parts X s fm).op = X := by cases fm with
    | no => exact absurd rfl hn
    | _ => rfl
  unfold encS
  rw [e, e2, hK, hfK]
  exact hl
theorem key_T0 : ∀ f : Nat, f < 8 → T0.getD f 0 ≠ 0 → keyW (T0.getD f 0) = 103 + f * 4096 ∧ fmW (103 + f * 4096) = .im := by decide +kernel
theorem key_T1 : ∀ f : Nat, f < 8 → T1.getD f 0 ≠ 0 → keyW (T1.getD f 0) = 99 + f * 4096 ∧ fmW (99 + f * 4096) = .br := by decide +kernel
theorem key_T2 : ∀ f : Nat, f < 8 → T2.getD f 0 ≠ 0 → keyW (T2.getD f 0) = 3 + f * 4096 ∧ fmW (3 + f * 4096) = .im := by decide +kernel
theorem key_T3 : ∀ f : Nat, f < 8 → T3.getD f 0 ≠ 0 → keyW (T3.getD f 0) = 35 + f * 4096 ∧ fmW (35 + f * 4096) = .st := by decide +kernel
theorem key_T11 : ∀ f : Nat, f < 8 → T11.getD f 0 ≠ 0 → keyW (T11.getD f 0) = 19 + f * 4096 ∧ fmW (19 + f * 4096) = .im := by decide +kernel
theorem key_T4 : ∀ f : Nat, f < 8 → T4.getD f 0 ≠ 0 → keyW (T4.getD f 0) = 51 + f * 4096 + 0 * 33554432 ∧ fmW (51 + f * 4096 + 0 * 33554432) = .rg := by decide +kernel
theorem key_T5 : ∀ f : Nat, f < 8 → T5.getD f 0 ≠ 0 → keyW (T5.getD f 0) = 51 + f * 4096 + 32 * 33554432 ∧ fmW (51 + f * 4096 + 32 * 33554432) = .rg := by decide +kernel
theorem key_T6 : ∀ f : Nat, f < 8 → T6.getD f 0 ≠ 0 → keyW (T6.getD f 0) = 51 + f * 4096 + 1 * 33554432 ∧ fmW (51 + f * 4096 + 1 * 33554432) = .rg := by decide +kernel
theorem key_T7 : ∀ f : Nat, f < 8 → T7.getD f 0 ≠ 0 → keyW (T7.getD f 0) = 59 + f * 4096 + 0 * 33554432 ∧ fmW (59 + f * 4096 + 0 * 33554432) = .rg := by decide +kernel
theorem key_T8 : ∀ f : Nat, f < 8 → T8.getD f 0 ≠ 0 → keyW (T8.getD f 0) = 59 + f * 4096 + 32 * 33554432 ∧ fmW (59 + f * 4096 + 32 * 33554432) = .rg := by decide +kernel
theorem key_T9 : ∀ f : Nat, f < 8 → T9.getD f 0 ≠ 0 → keyW (T9.getD f 0) = 59 + f * 4096 + 1 * 33554432 ∧ fmW (59 + f * 4096 + 1 * 33554432) = .rg := by decide +kernel
theorem key_T12 : ∀ f : Nat, f < 8 → T12.getD f 0 ≠ 0 → keyW (T12.getD f 0) = 19 + f * 4096 + 0 * 67108864 ∧ fmW (19 + f * 4096 + 0 * 67108864) = (.sh 6) := by decide +kernel
theorem key_T13 : ∀ f : Nat, f < 8 → T13.getD f 0 ≠ 0 → keyW (T13.getD f 0) = 19 + f * 4096 + 16 * 67108864 ∧ fmW (19 + f * 4096 + 16 * 67108864) = (.sh 6) := by decide +kernel
theorem key_T15 : ∀ f : Nat, f < 8 → T15.getD f 0 ≠ 0 → keyW (T15.getD f 0) = 27 + f * 4096 + 0 * 33554432 ∧ fmW (27 + f * 4096 + 0 * 33554432) = (.sh 5) := by decide +kernel
theorem key_T16 : ∀ f : Nat, f < 8 → T16.getD f 0 ≠ 0 → keyW (T16.getD f 0) = 27 + f * 4096 + 32 * 33554432 ∧ fmW (27 + f * 4096 + 32 * 33554432) = (.sh 5) := by decide +kernel
theorem key_41 : keyW 41 = 27 + 0 * 4096 ∧ fmW (27 + 0 * 4096) = .im := by decide +kernel
theorem key_T17 : ∀ q : Nat, q < 32 → T17.getD q 0 ≠ 0 → keyW (T17.getD q 0) = 47 + 2 * 4096 + q * 134217728 ∧ fmW (47 + 2 * 4096 + q * 134217728) = .am := by decide +kernel
theorem key_T18 : ∀ q : Nat, q < 32 → T18.getD q 0 ≠ 0 → keyW (T18.getD q 0) = 47 + 3 * 4096 + q * 134217728 ∧ fmW (47 + 3 * 4096 + q * 134217728) = .am := by decide +kernel
theorem key_1 : keyW 1 = 55 ∧ fmW 55 = .up := by decide +kernel
theorem key_2 : keyW 2 = 23 ∧ fmW 23 = .up := by decide +kernel
theorem key_3 : keyW 3 = 111 ∧ fmW 111 = .jp := by decide +kernel
theorem key_87 : keyW 87 = 115 ∧ fmW 115 = .ba := by decide +kernel
theorem key_88 : keyW 88 = 1048691 ∧ fmW 1048691 = .ba := by decide +kernel
theorem fence_of : ∀ f : Nat, f < 8 → T10.getD f 0 = 0 ∨ T10.getD f 0 = 85 ∨ T10.getD f 0 = 86 := by decide
theorem lr_nz {o : Int} {p : Nat} (h : lrOf o p ≠ 0) : lrOf o p = o := by
  unfold lrOf at h ⊢
  split
  · rename_i hc; rw [if_pos hc] at h; exact absurd rfl h
  · rfl
set_option maxHeartbeats 1000000 in
theorem back_eq (s : Nat) (hs : s < 4294967296) (h : opW s ≠ 0) (h85 : opW s ≠ 85) (h86 : opW s ≠ 86) : encS (dec s) = s := by
  have hf : pc s 12 3 < 8 := pc_lt s 12 3
  have hg : pc s 25 7 < 128 := pc_lt s 25 7
  by_cases h55 : pc s 0 7 = 55
  · have hop : opW s = opC 55 (pc s 12 3) (pc s 25 7) s := by unfold opW; rw [h55]
    have hfm : fmW s = fmC 55 (pc s 12 3) := by unfold fmW; rw [h55]
    exact enc_of (X := 1) hop hfm h key_1.1 key_1.2 (by have e := back_up 1 s hs; rw [h55] at e; exact e)
  by_cases h23 : pc s 0 7 = 23
  · have hop : opW s = opC 23 (pc s 12 3) (pc s 25 7) s := by unfold opW; rw [h23]
    have hfm : fmW s = fmC 23 (pc s 12 3) := by unfold fmW; rw [h23]
    exact enc_of (X := 2) hop hfm h key_2.1 key_2.2 (by have e := back_up 2 s hs; rw [h23] at e; exact e)
  by_cases h111 : pc s 0 7 = 111
  · have hop : opW s = opC 111 (pc s 12 3) (pc s 25 7) s := by unfold opW; rw [h111]
    have hfm : fmW s = fmC 111 (pc s 12 3) := by unfold fmW; rw [h111]
    exact enc_of (X := 3) hop hfm h key_3.1 key_3.2 (by have e := back_jp 3 s hs; rw [h111] at e; exact e)
  by_cases h103 : pc s 0 7 = 103
  · have hop : opW s = opC 103 (pc s 12 3) (pc s 25 7) s := by unfold opW; rw [h103]
    have hfm : fmW s = fmC 103 (pc s 12 3) := by unfold fmW; rw [h103]
    have hop2 : opW s = T0.getD (pc s 12 3) 0 := hop
    have hz := h; rw [hop2] at hz
    obtain ⟨k1, k2⟩ := key_T0 _ hf hz
    exact enc_of hop2 hfm h k1 k2 (by have e := back_im (T0.getD (pc s 12 3) 0) s hs; rw [h103] at e; exact e)
  by_cases h99 : pc s 0 7 = 99
  · have hop : opW s = opC 99 (pc s 12 3) (pc s 25 7) s := by unfold opW; rw [h99]
    have hfm : fmW s = fmC 99 (pc s 12 3) := by unfold fmW; rw [h99]
    have hop2 : opW s = T1.getD (pc s 12 3) 0 := hop
    have hz := h; rw [hop2] at hz
    obtain ⟨k1, k2⟩ := key_T1 _ hf hz
    exact enc_of hop2 hfm h k1 k2 (by have e := back_br (T1.getD (pc s 12 3) 0) s hs; rw [h99] at e; exact e)
  by_cases h3 : pc s 0 7 = 3
  · have hop : opW s = opC 3 (pc s 12 3) (pc s 25 7) s := by unfold opW; rw [h3]
    have hfm : fmW s = fmC 3 (pc s 12 3) := by unfold fmW; rw [h3]
    have hop2 : opW s = T2.getD (pc s 12 3) 0 := hop
    have hz := h; rw [hop2] at hz
    obtain ⟨k1, k2⟩ := key_T2 _ hf hz
    exact enc_of hop2 hfm h k1 k2 (by have e := back_im (T2.getD (pc s 12 3) 0) s hs; rw [h3] at e; exact e)
  by_cases h35 : pc s 0 7 = 35
  · have hop : opW s = opC 35 (pc s 12 3) (pc s 25 7) s := by unfold opW; rw [h35]
    have hfm : fmW s = fmC 35 (pc s 12 3) := by unfold fmW; rw [h35]
    have hop2 : opW s = T3.getD (pc s 12 3) 0 := hop
    have hz := h; rw [hop2] at hz
    obtain ⟨k1, k2⟩ := key_T3 _ hf hz
    exact enc_of hop2 hfm h k1 k2 (by have e := back_st (T3.getD (pc s 12 3) 0) s hs; rw [h35] at e; exact e)
  by_cases h15 : pc s 0 7 = 15
  · have hop : opW s = opC 15 (pc s 12 3) (pc s 25 7) s := by unfold opW; rw [h15]
    have hfm : fmW s = fmC 15 (pc s 12 3) := by unfold fmW; rw [h15]
    have hop2 : opW s = T10.getD (pc s 12 3) 0 := hop
    rcases fence_of _ hf with e | e | e
    · exact absurd (hop2.trans e) h
    · exact absurd (hop2.trans e) h85
    · exact absurd (hop2.trans e) h86
  by_cases h115 : pc s 0 7 = 115
  · have hop : opW s = opC 115 (pc s 12 3) (pc s 25 7) s := by unfold opW; rw [h115]
    have hfm : fmW s = fmC 115 (pc s 12 3) := by unfold fmW; rw [h115]
    by_cases h1 : s = 115
    · have hop2 : opW s = 87 := hop.trans (if_pos h1)
      exact enc_of hop2 hfm h key_87.1 key_87.2 h1.symm
    · by_cases h2 : s = 1048691
      · have hop2 : opW s = 88 := hop.trans ((if_neg h1).trans (if_pos h2))
        exact enc_of hop2 hfm h key_88.1 key_88.2 h2.symm
      · exact absurd (hop.trans ((if_neg h1).trans (if_neg h2))) h
  by_cases h51 : pc s 0 7 = 51
  · have hop : opW s = opC 51 (pc s 12 3) (pc s 25 7) s := by unfold opW; rw [h51]
    have hfm : fmW s = fmC 51 (pc s 12 3) := by unfold fmW; rw [h51]
    by_cases h7_0 : pc s 25 7 = 0
    · have hop2 : opW s = T4.getD (pc s 12 3) 0 := hop.trans (pick_a h7_0)
      have hz := h; rw [hop2] at hz
      obtain ⟨k1, k2⟩ := key_T4 _ hf hz
      exact enc_of hop2 hfm h k1 k2 (by have e := back_rg (T4.getD (pc s 12 3) 0) s hs; rw [h51, h7_0] at e; exact e)
    by_cases h7_32 : pc s 25 7 = 32
    · have hop2 : opW s = T5.getD (pc s 12 3) 0 := hop.trans (pick_b h7_32)
      have hz := h; rw [hop2] at hz
      obtain ⟨k1, k2⟩ := key_T5 _ hf hz
      exact enc_of hop2 hfm h k1 k2 (by have e := back_rg (T5.getD (pc s 12 3) 0) s hs; rw [h51, h7_32] at e; exact e)
    by_cases h7_1 : pc s 25 7 = 1
    · have hop2 : opW s = T6.getD (pc s 12 3) 0 := hop.trans (pick_p h7_1)
      have hz := h; rw [hop2] at hz
      obtain ⟨k1, k2⟩ := key_T6 _ hf hz
      exact enc_of hop2 hfm h k1 k2 (by have e := back_rg (T6.getD (pc s 12 3) 0) s hs; rw [h51, h7_1] at e; exact e)
    exact absurd (hop.trans ((pick_c h7_0 h7_32 h7_1 hf).trans (z8 _ hf))) h
  by_cases h59 : pc s 0 7 = 59
  · have hop : opW s = opC 59 (pc s 12 3) (pc s 25 7) s := by unfold opW; rw [h59]
    have hfm : fmW s = fmC 59 (pc s 12 3) := by unfold fmW; rw [h59]
    by_cases h7_0 : pc s 25 7 = 0
    · have hop2 : opW s = T7.getD (pc s 12 3) 0 := hop.trans (pick_a h7_0)
      have hz := h; rw [hop2] at hz
      obtain ⟨k1, k2⟩ := key_T7 _ hf hz
      exact enc_of hop2 hfm h k1 k2 (by have e := back_rg (T7.getD (pc s 12 3) 0) s hs; rw [h59, h7_0] at e; exact e)
    by_cases h7_32 : pc s 25 7 = 32
    · have hop2 : opW s = T8.getD (pc s 12 3) 0 := hop.trans (pick_b h7_32)
      have hz := h; rw [hop2] at hz
      obtain ⟨k1, k2⟩ := key_T8 _ hf hz
      exact enc_of hop2 hfm h k1 k2 (by have e := back_rg (T8.getD (pc s 12 3) 0) s hs; rw [h59, h7_32] at e; exact e)
    by_cases h7_1 : pc s 25 7 = 1
    · have hop2 : opW s = T9.getD (pc s 12 3) 0 := hop.trans (pick_p h7_1)
      have hz := h; rw [hop2] at hz
      obtain ⟨k1, k2⟩ := key_T9 _ hf hz
      exact enc_of hop2 hfm h k1 k2 (by have e := back_rg (T9.getD (pc s 12 3) 0) s hs; rw [h59, h7_1] at e; exact e)
    exact absurd (hop.trans ((pick_c h7_0 h7_32 h7_1 hf).trans (z8 _ hf))) h
  by_cases h19 : pc s 0 7 = 19
  · have hop : opW s = opC 19 (pc s 12 3) (pc s 25 7) s := by unfold opW; rw [h19]
    have hfm : fmW s = fmC 19 (pc s 12 3) := by unfold fmW; rw [h19]
    by_cases h5 : pc s 12 3 = 1 ∨ pc s 12 3 = 5
    · have hop1 : opW s = pick3 (pc s 25 7 / 2 * 2) T12 T13 Z8 (pc s 12 3) := hop.trans (if_pos h5)
      have hfm1 : fmW s = .sh 6 := hfm.trans (if_pos h5)
      have hu := up_half s
      by_cases ha : pc s 26 6 = 0
      · have hop2 : opW s = T12.getD (pc s 12 3) 0 := hop1.trans (pick_a (by omega))
        have hz := h; rw [hop2] at hz
        obtain ⟨k1, k2⟩ := key_T12 _ hf hz
        exact enc_of hop2 hfm1 h k1 k2 (by have e := back_sh6 (T12.getD (pc s 12 3) 0) s hs; rw [h19, ha] at e; exact e)
      · by_cases hb : pc s 26 6 = 16
        · have hop2 : opW s = T13.getD (pc s 12 3) 0 := hop1.trans (pick_b (by omega))
          have hz := h; rw [hop2] at hz
          obtain ⟨k1, k2⟩ := key_T13 _ hf hz
          exact enc_of hop2 hfm1 h k1 k2 (by have e := back_sh6 (T13.getD (pc s 12 3) 0) s hs; rw [h19, hb] at e; exact e)
        · exact absurd (hop1.trans ((pick_c (by omega) (by omega) (by omega) hf).trans (z8 _ hf))) h
    · have hop2 : opW s = T11.getD (pc s 12 3) 0 := hop.trans (if_neg h5)
      have hfm1 : fmW s = .im := hfm.trans (if_neg h5)
      have hz := h; rw [hop2] at hz
      obtain ⟨k1, k2⟩ := key_T11 _ hf hz
      exact enc_of hop2 hfm1 h k1 k2 (by have e := back_im (T11.getD (pc s 12 3) 0) s hs; rw [h19] at e; exact e)
  by_cases h27 : pc s 0 7 = 27
  · have hop : opW s = opC 27 (pc s 12 3) (pc s 25 7) s := by unfold opW; rw [h27]
    have hfm : fmW s = fmC 27 (pc s 12 3) := by unfold fmW; rw [h27]
    by_cases h0 : pc s 12 3 = 0
    · have hop2 : opW s = 41 := hop.trans (if_pos h0)
      have hfm1 : fmW s = .im := hfm.trans (if_pos h0)
      exact enc_of hop2 hfm1 h key_41.1 key_41.2 (by have e := back_im 41 s hs; rw [h27, h0] at e; exact e)
    · have hop1 : opW s = pick3 (pc s 25 7) T15 T16 Z8 (pc s 12 3) := hop.trans (if_neg h0)
      have hfm1 : fmW s = .sh 5 := hfm.trans (if_neg h0)
      by_cases ha : pc s 25 7 = 0
      · have hop2 : opW s = T15.getD (pc s 12 3) 0 := hop1.trans (pick_a ha)
        have hz := h; rw [hop2] at hz
        obtain ⟨k1, k2⟩ := key_T15 _ hf hz
        exact enc_of hop2 hfm1 h k1 k2 (by have e := back_sh5 (T15.getD (pc s 12 3) 0) s hs; rw [h27, ha] at e; exact e)
      · by_cases hb : pc s 25 7 = 32
        · have hop2 : opW s = T16.getD (pc s 12 3) 0 := hop1.trans (pick_b hb)
          have hz := h; rw [hop2] at hz
          obtain ⟨k1, k2⟩ := key_T16 _ hf hz
          exact enc_of hop2 hfm1 h k1 k2 (by have e := back_sh5 (T16.getD (pc s 12 3) 0) s hs; rw [h27, hb] at e; exact e)
        · have e : opW s = 0 := by
            by_cases hp : pc s 25 7 = 1
            · exact hop1.trans ((pick_p hp).trans (z8 _ hf))
            · exact hop1.trans ((pick_c ha hb hp hf).trans (z8 _ hf))
          exact absurd e h
  by_cases h47 : pc s 0 7 = 47
  · have hop : opW s = opC 47 (pc s 12 3) (pc s 25 7) s := by unfold opW; rw [h47]
    have hfm : fmW s = fmC 47 (pc s 12 3) := by unfold fmW; rw [h47]
    have hop1 : opW s = lrOf (if pc s 12 3 = 2 then T17.getD (pc s 27 5) 0 else if pc s 12 3 = 3 then T18.getD (pc s 27 5) 0 else 0) (pc s 20 5) := hop
    have hz := h; rw [hop1] at hz
    have hop2 := hop1.trans (lr_nz hz)
    by_cases h2 : pc s 12 3 = 2
    · rw [if_pos h2] at hop2
      have hz2 := h; rw [hop2] at hz2
      obtain ⟨k1, k2⟩ := key_T17 _ (pc_lt s 27 5) hz2
      exact enc_of hop2 hfm h k1 k2 (by have e := back_am (T17.getD (pc s 27 5) 0) s hs; rw [h47, h2] at e; exact e)
    · rw [if_neg h2] at hop2
      by_cases h3 : pc s 12 3 = 3
      · rw [if_pos h3] at hop2
        have hz2 := h; rw [hop2] at hz2
        obtain ⟨k1, k2⟩ := key_T18 _ (pc_lt s 27 5) hz2
        exact enc_of hop2 hfm h k1 k2 (by have e := back_am (T18.getD (pc s 27 5) 0) s hs; rw [h47, h3] at e; exact e)
      · rw [if_neg h3] at hop2
        exact absurd hop2 h
  exact absurd (by unfold opW opC; rw [if_neg h55, if_neg h23, if_neg h111, if_neg h103, if_neg h99, if_neg h3, if_neg h35, if_neg h19, if_neg h51, if_neg h27, if_neg h59, if_neg h47, if_neg h15, if_neg h115]) h

theorem lt_tabs : ∀ f : Nat, f < 8 → (T0.getD f 0 < 85) ∧ (T1.getD f 0 < 85) ∧ (T2.getD f 0 < 85) ∧ (T3.getD f 0 < 85) ∧ (T4.getD f 0 < 85) ∧ (T5.getD f 0 < 85) ∧ (T6.getD f 0 < 85) ∧ (T7.getD f 0 < 85) ∧ (T8.getD f 0 < 85) ∧ (T9.getD f 0 < 85) ∧ (T11.getD f 0 < 85) ∧ (T12.getD f 0 < 85) ∧ (T13.getD f 0 < 85) ∧ (T15.getD f 0 < 85) ∧ (T16.getD f 0 < 85) := by decide
theorem lt_at : ∀ q : Nat, q < 32 → T17.getD q 0 < 85 ∧ T18.getD q 0 < 85 := by decide
theorem pick_lt {g f : Nat} {a b c : List Int} (ha : a.getD f 0 < 85) (hb : b.getD f 0 < 85) (hc : c.getD f 0 < 85) : pick3 g a b c f < 85 := by
  unfold pick3; repeat' split
  all_goals first | assumption | decide
theorem lr_lt {o : Int} {p : Nat} (h : o < 85) : lrOf o p < 85 := by unfold lrOf; split <;> omega
set_option maxHeartbeats 1000000 in
theorem fence_form (s : Nat) (h : opW s = 85 ∨ opW s = 86) : fmW s = .ba := by
  have hf : pc s 12 3 < 8 := pc_lt s 12 3
  obtain ⟨t0, t1, t2, t3, t4, t5, t6, t7, t8, t9, t11, t12, t13, t15, t16⟩ := lt_tabs _ hf
  have tz : Z8.getD (pc s 12 3) 0 < 85 := by rw [z8 _ hf]; decide
  have hge : 85 ≤ opW s := by omega
  by_cases h15 : pc s 0 7 = 15
  · unfold fmW; rw [h15]; rfl
  by_cases h115 : pc s 0 7 = 115
  · unfold fmW; rw [h115]; rfl
  exfalso
  by_cases h55 : pc s 0 7 = 55
  · have hop : opW s = opC 55 (pc s 12 3) (pc s 25 7) s := by unfold opW; rw [h55]
    have e : opW s = (1 : Int) := hop
    omega
  by_cases h23 : pc s 0 7 = 23
  · have hop : opW s = opC 23 (pc s 12 3) (pc s 25 7) s := by unfold opW; rw [h23]
    have e : opW s = (2 : Int) := hop
    omega
  by_cases h111 : pc s 0 7 = 111
  · have hop : opW s = opC 111 (pc s 12 3) (pc s 25 7) s := by unfold opW; rw [h111]
    have e : opW s = (3 : Int) := hop
    omega
  by_cases h103 : pc s 0 7 = 103
  · have hop : opW s = opC 103 (pc s 12 3) (pc s 25 7) s := by unfold opW; rw [h103]
    have e : opW s = T0.getD (pc s 12 3) 0 := hop
    omega
  by_cases h99 : pc s 0 7 = 99
  · have hop : opW s = opC 99 (pc s 12 3) (pc s 25 7) s := by unfold opW; rw [h99]
    have e : opW s = T1.getD (pc s 12 3) 0 := hop
    omega
  by_cases h3 : pc s 0 7 = 3
  · have hop : opW s = opC 3 (pc s 12 3) (pc s 25 7) s := by unfold opW; rw [h3]
    have e : opW s = T2.getD (pc s 12 3) 0 := hop
    omega
  by_cases h35 : pc s 0 7 = 35
  · have hop : opW s = opC 35 (pc s 12 3) (pc s 25 7) s := by unfold opW; rw [h35]
    have e : opW s = T3.getD (pc s 12 3) 0 := hop
    omega
  by_cases h19 : pc s 0 7 = 19
  · have hop : opW s = opC 19 (pc s 12 3) (pc s 25 7) s := by unfold opW; rw [h19]
    by_cases h5 : pc s 12 3 = 1 ∨ pc s 12 3 = 5
    · have e : opW s = pick3 (pc s 25 7 / 2 * 2) T12 T13 Z8 (pc s 12 3) := hop.trans (if_pos h5)
      have := pick_lt (g := pc s 25 7 / 2 * 2) t12 t13 tz
      omega
    · have e : opW s = T11.getD (pc s 12 3) 0 := hop.trans (if_neg h5)
      omega
  by_cases h51 : pc s 0 7 = 51
  · have hop : opW s = opC 51 (pc s 12 3) (pc s 25 7) s := by unfold opW; rw [h51]
    have e : opW s = pick3 (pc s 25 7) T4 T5 T6 (pc s 12 3) := hop
    have := pick_lt (g := pc s 25 7) t4 t5 t6
    omega
  by_cases h59 : pc s 0 7 = 59
  · have hop : opW s = opC 59 (pc s 12 3) (pc s 25 7) s := by unfold opW; rw [h59]
    have e : opW s = pick3 (pc s 25 7) T7 T8 T9 (pc s 12 3) := hop
    have := pick_lt (g := pc s 25 7) t7 t8 t9
    omega
  by_cases h27 : pc s 0 7 = 27
  · have hop : opW s = opC 27 (pc s 12 3) (pc s 25 7) s := by unfold opW; rw [h27]
    by_cases h0 : pc s 12 3 = 0
    · have e : opW s = 41 := hop.trans (if_pos h0)
      omega
    · have e : opW s = pick3 (pc s 25 7) T15 T16 Z8 (pc s 12 3) := hop.trans (if_neg h0)
      have := pick_lt (g := pc s 25 7) t15 t16 tz
      omega
  by_cases h47 : pc s 0 7 = 47
  · have hop : opW s = opC 47 (pc s 12 3) (pc s 25 7) s := by unfold opW; rw [h47]
    have e : opW s = lrOf (if pc s 12 3 = 2 then T17.getD (pc s 27 5) 0 else if pc s 12 3 = 3 then T18.getD (pc s 27 5) 0 else 0) (pc s 20 5) := hop
    obtain ⟨l1, l2⟩ := lt_at _ (pc_lt s 27 5)
    have l3 : (if pc s 12 3 = 2 then T17.getD (pc s 27 5) 0 else if pc s 12 3 = 3 then T18.getD (pc s 27 5) 0 else 0) < 85 := by
      repeat' split
      all_goals first | exact l1 | exact l2 | decide
    have := lr_lt (p := pc s 20 5) l3
    omega
  have e : opW s = 0 := by unfold opW opC; rw [if_neg h55, if_neg h23, if_neg h111, if_neg h103, if_neg h99, if_neg h3, if_neg h35, if_neg h19, if_neg h51, if_neg h27, if_neg h59, if_neg h47, if_neg h15, if_neg h115]
  omega
/-- Fences. -/
theorem dec_fence (s : Nat) (o : Int) (ho : opW s = o) (h : o = 85 ∨ o = 86) (hs : s < 4294967296) : dec s = ⟨o, 0, 0, 0, 0, 0, 4⟩ := by
  have h0 : opW s ≠ 0 := by rw [ho]; rcases h with rfl | rfl <;> decide
  have e : dec s = parts (opW s) s (fmW s) := if_neg h0
  have hb : fmW s = .ba := fence_form s (by rw [ho]; exact h)
  rw [e, hb, ho]; rfl
end Go.Proofs.YtionnhjldcpmjaaGreatDoor
