/-
  Which instructions of 32 bits are sound, an operator each: registers in their range, immediates not too far.
-/
import Derived.Test.YtfkecgidjicidaaDoorInstO
set_option linter.unusedVariables false
set_option linter.unusedSimpArgs false
namespace Go.Proofs.YtfkecgidjicidaaDoor
open Go.RowKit
theorem gv_int (n : Int) (m k : Nat) : ((gv n m k : Nat) : Int) = n / 2 ^ k % 2 ^ m := by
  unfold gv
  exact Int.toNat_of_nonneg (Int.emod_nonneg _ (Int.ne_of_gt (pow_pos' m)))
theorem gv_reg (d : Int) (h : 0 ≤ d ∧ d < 32) : ((gv d 5 0 : Nat) : Int) = d := by
  rw [gv_int]; simp only [Int.reducePow]; omega
theorem enc_dec {i : Ins} {s : Nat} (hS : encS i = s) (ho : opW s ≠ 0) : encB i = decide (dec s = i) := by
  unfold encB; rw [hS]
  simp [ho]
theorem dec_parts {s : Nat} {o : Int} {fm : Fm} (hop : opW s = o) (hfm : fmW s = fm) (ho : o ≠ 0) : dec s = parts o s fm := by
  unfold dec; rw [hop, hfm, if_neg ho]
theorem decJ (m : Int) : ((m / 524288 % 2 * 256 + m / 2048 % 256) * 2 + m / 1024 % 2) * 1024 + m % 1024 = m % 1048576 := by omega
theorem decB (m : Int) : ((m / 2048 % 2 * 2 + m / 1024 % 2) * 64 + m / 16 % 64) * 16 + m % 16 = m % 4096 := by omega
theorem decS (n : Int) : n / 32 % 128 * 32 + n % 32 = n % 4096 := by omega
theorem sumJ (n : Int) : ((n / 1048576 % 2 * 256 + n / 4096 % 256) * 2 + n / 2048 % 2) * 1024 + n / 2 % 1024 = n / 2 % 1048576 := by
  have h1 : n / 1048576 = n / 2 / 524288 := by omega
  have h2 : n / 4096 = n / 2 / 2048 := by omega
  have h3 : n / 2048 = n / 2 / 1024 := by omega
  rw [h1, h2, h3]; exact decJ (n / 2)
theorem sumB (n : Int) : ((n / 4096 % 2 * 2 + n / 2048 % 2) * 64 + n / 32 % 64) * 16 + n / 2 % 16 = n / 2 % 4096 := by
  have h1 : n / 4096 = n / 2 / 2048 := by omega
  have h2 : n / 2048 = n / 2 / 1024 := by omega
  have h3 : n / 32 = n / 2 / 16 := by omega
  rw [h1, h2, h3]; exact decB (n / 2)
theorem iffJ (n : Int) : low (n / 2 % 1048576) 20 * 2 = n ↔ n % 2 = 0 ∧ -1048576 ≤ n ∧ n < 1048576 := by rw [low20']; omega
theorem iffB (n : Int) : low (n / 2 % 4096) 12 * 2 = n ↔ n % 2 = 0 ∧ -4096 ≤ n ∧ n < 4096 := by rw [low12']; omega
theorem iffI (n : Int) : low (n % 4096) 12 = n ↔ -2048 ≤ n ∧ n ≤ 2047 := by rw [low12']; omega
theorem iffU (n : Int) : low (n / 4096 % 1048576) 20 * 4096 = n ↔ n % 4096 = 0 ∧ -2147483648 ≤ n ∧ n < 2147483648 := by rw [low20']; omega
theorem iff6 (n : Int) : n % 64 = n ↔ 0 ≤ n ∧ n < 64 := by omega
theorem iff5 (n : Int) : n % 32 = n ↔ 0 ≤ n ∧ n < 32 := by omega
theorem ins_im {o d e f x n : Int} {q : Prop} [Decidable q] (h : x = n ↔ q) : decide ((⟨o, d, e, f, x, 0, 4⟩ : Ins) = ⟨o, d, e, f, n, 0, 4⟩) = decide q := by
  apply decide_eq_decide.2
  rw [← h]
  constructor
  · intro h; injection h
  · intro h; rw [h]

theorem so22 (n d e : Int) (dd : 0 ≤ d ∧ d < 32) (ee : 0 ≤ e ∧ e < 32) : encB ⟨22, d, e, 0, n, 0, 4⟩ = decide (-2048 ≤ n ∧ n ≤ 2047) := by
  have hk : keyW 22 = 19 + 0 * 4096 ∧ fmW (19 + 0 * 4096) = .im := by decide +kernel
  have hS : encS ⟨22, d, e, 0, n, 0, 4⟩ = 19 + 0 * 4096 + gv d 5 0 * 128 + gv e 5 0 * 32768 + gv n 12 0 * 1048576 := by
    unfold encS; rw [hk.1, hk.2]; exact lay_im _ 19 0 (by decide) (by decide)
  have g0 : gv d 5 0 < 32 := gv_lt d 5 0
  have g9 : gv e 5 0 < 32 := gv_lt e 5 0
  have g1 : gv n 12 0 < 4096 := gv_lt n 12 0
  generalize hs : 19 + 0 * 4096 + gv d 5 0 * 128 + gv e 5 0 * 32768 + gv n 12 0 * 1048576 = s at hS
  have c0 : pc s 0 7 = 19 := by unfold pc; simp only [Nat.reducePow]; omega
  have cf : pc s 12 3 = 0 := by unfold pc; simp only [Nat.reducePow]; omega
  have c1 : pc s 7 5 = gv d 5 0 := by unfold pc; simp only [Nat.reducePow]; omega
  have c9 : pc s 15 5 = gv e 5 0 := by unfold pc; simp only [Nat.reducePow]; omega
  have c2 : pc s 20 12 = gv n 12 0 := by unfold pc; simp only [Nat.reducePow]; omega
  have v0 := gv_reg d dd
  have v9 := gv_reg e ee
  have v1 := gv_int n 12 0
  simp only [Int.reducePow, Int.ediv_one] at v1
  have hop : opW s = 22 := by unfold opW; rw [c0, cf]; rfl
  have hfm : fmW s = .im := by unfold fmW; rw [c0, cf]; rfl
  rw [enc_dec hS (by rw [hop]; decide), dec_parts hop hfm (by decide)]
  have e : parts 22 s .im = ⟨22, d, e, 0, low (n % 4096) 12, 0, 4⟩ := by
    show (⟨22, tk s 7 5 0, tk s 15 5 0, 0, low (tk s 20 12 0) 12, 0, 4⟩ : Ins) = _
    rw [tk_zero, tk_zero, tk_zero, c1, c9, c2, v0, v9, v1]
  rw [e]
  exact ins_im (iffI n)

theorem so27 (n d e : Int) (dd : 0 ≤ d ∧ d < 32) (ee : 0 ≤ e ∧ e < 32) : encB ⟨27, d, e, 0, n, 0, 4⟩ = decide (-2048 ≤ n ∧ n ≤ 2047) := by
  have hk : keyW 27 = 19 + 7 * 4096 ∧ fmW (19 + 7 * 4096) = .im := by decide +kernel
  have hS : encS ⟨27, d, e, 0, n, 0, 4⟩ = 19 + 7 * 4096 + gv d 5 0 * 128 + gv e 5 0 * 32768 + gv n 12 0 * 1048576 := by
    unfold encS; rw [hk.1, hk.2]; exact lay_im _ 19 7 (by decide) (by decide)
  have g0 : gv d 5 0 < 32 := gv_lt d 5 0
  have g9 : gv e 5 0 < 32 := gv_lt e 5 0
  have g1 : gv n 12 0 < 4096 := gv_lt n 12 0
  generalize hs : 19 + 7 * 4096 + gv d 5 0 * 128 + gv e 5 0 * 32768 + gv n 12 0 * 1048576 = s at hS
  have c0 : pc s 0 7 = 19 := by unfold pc; simp only [Nat.reducePow]; omega
  have cf : pc s 12 3 = 7 := by unfold pc; simp only [Nat.reducePow]; omega
  have c1 : pc s 7 5 = gv d 5 0 := by unfold pc; simp only [Nat.reducePow]; omega
  have c9 : pc s 15 5 = gv e 5 0 := by unfold pc; simp only [Nat.reducePow]; omega
  have c2 : pc s 20 12 = gv n 12 0 := by unfold pc; simp only [Nat.reducePow]; omega
  have v0 := gv_reg d dd
  have v9 := gv_reg e ee
  have v1 := gv_int n 12 0
  simp only [Int.reducePow, Int.ediv_one] at v1
  have hop : opW s = 27 := by unfold opW; rw [c0, cf]; rfl
  have hfm : fmW s = .im := by unfold fmW; rw [c0, cf]; rfl
  rw [enc_dec hS (by rw [hop]; decide), dec_parts hop hfm (by decide)]
  have e : parts 27 s .im = ⟨27, d, e, 0, low (n % 4096) 12, 0, 4⟩ := by
    show (⟨27, tk s 7 5 0, tk s 15 5 0, 0, low (tk s 20 12 0) 12, 0, 4⟩ : Ins) = _
    rw [tk_zero, tk_zero, tk_zero, c1, c9, c2, v0, v9, v1]
  rw [e]
  exact ins_im (iffI n)

theorem so13 (n d e : Int) (dd : 0 ≤ d ∧ d < 32) (ee : 0 ≤ e ∧ e < 32) : encB ⟨13, d, e, 0, n, 0, 4⟩ = decide (-2048 ≤ n ∧ n ≤ 2047) := by
  have hk : keyW 13 = 3 + 2 * 4096 ∧ fmW (3 + 2 * 4096) = .im := by decide +kernel
  have hS : encS ⟨13, d, e, 0, n, 0, 4⟩ = 3 + 2 * 4096 + gv d 5 0 * 128 + gv e 5 0 * 32768 + gv n 12 0 * 1048576 := by
    unfold encS; rw [hk.1, hk.2]; exact lay_im _ 3 2 (by decide) (by decide)
  have g0 : gv d 5 0 < 32 := gv_lt d 5 0
  have g9 : gv e 5 0 < 32 := gv_lt e 5 0
  have g1 : gv n 12 0 < 4096 := gv_lt n 12 0
  generalize hs : 3 + 2 * 4096 + gv d 5 0 * 128 + gv e 5 0 * 32768 + gv n 12 0 * 1048576 = s at hS
  have c0 : pc s 0 7 = 3 := by unfold pc; simp only [Nat.reducePow]; omega
  have cf : pc s 12 3 = 2 := by unfold pc; simp only [Nat.reducePow]; omega
  have c1 : pc s 7 5 = gv d 5 0 := by unfold pc; simp only [Nat.reducePow]; omega
  have c9 : pc s 15 5 = gv e 5 0 := by unfold pc; simp only [Nat.reducePow]; omega
  have c2 : pc s 20 12 = gv n 12 0 := by unfold pc; simp only [Nat.reducePow]; omega
  have v0 := gv_reg d dd
  have v9 := gv_reg e ee
  have v1 := gv_int n 12 0
  simp only [Int.reducePow, Int.ediv_one] at v1
  have hop : opW s = 13 := by unfold opW; rw [c0, cf]; rfl
  have hfm : fmW s = .im := by unfold fmW; rw [c0, cf]; rfl
  rw [enc_dec hS (by rw [hop]; decide), dec_parts hop hfm (by decide)]
  have e : parts 13 s .im = ⟨13, d, e, 0, low (n % 4096) 12, 0, 4⟩ := by
    show (⟨13, tk s 7 5 0, tk s 15 5 0, 0, low (tk s 20 12 0) 12, 0, 4⟩ : Ins) = _
    rw [tk_zero, tk_zero, tk_zero, c1, c9, c2, v0, v9, v1]
  rw [e]
  exact ins_im (iffI n)

theorem so14 (n d e : Int) (dd : 0 ≤ d ∧ d < 32) (ee : 0 ≤ e ∧ e < 32) : encB ⟨14, d, e, 0, n, 0, 4⟩ = decide (-2048 ≤ n ∧ n ≤ 2047) := by
  have hk : keyW 14 = 3 + 3 * 4096 ∧ fmW (3 + 3 * 4096) = .im := by decide +kernel
  have hS : encS ⟨14, d, e, 0, n, 0, 4⟩ = 3 + 3 * 4096 + gv d 5 0 * 128 + gv e 5 0 * 32768 + gv n 12 0 * 1048576 := by
    unfold encS; rw [hk.1, hk.2]; exact lay_im _ 3 3 (by decide) (by decide)
  have g0 : gv d 5 0 < 32 := gv_lt d 5 0
  have g9 : gv e 5 0 < 32 := gv_lt e 5 0
  have g1 : gv n 12 0 < 4096 := gv_lt n 12 0
  generalize hs : 3 + 3 * 4096 + gv d 5 0 * 128 + gv e 5 0 * 32768 + gv n 12 0 * 1048576 = s at hS
  have c0 : pc s 0 7 = 3 := by unfold pc; simp only [Nat.reducePow]; omega
  have cf : pc s 12 3 = 3 := by unfold pc; simp only [Nat.reducePow]; omega
  have c1 : pc s 7 5 = gv d 5 0 := by unfold pc; simp only [Nat.reducePow]; omega
  have c9 : pc s 15 5 = gv e 5 0 := by unfold pc; simp only [Nat.reducePow]; omega
  have c2 : pc s 20 12 = gv n 12 0 := by unfold pc; simp only [Nat.reducePow]; omega
  have v0 := gv_reg d dd
  have v9 := gv_reg e ee
  have v1 := gv_int n 12 0
  simp only [Int.reducePow, Int.ediv_one] at v1
  have hop : opW s = 14 := by unfold opW; rw [c0, cf]; rfl
  have hfm : fmW s = .im := by unfold fmW; rw [c0, cf]; rfl
  rw [enc_dec hS (by rw [hop]; decide), dec_parts hop hfm (by decide)]
  have e : parts 14 s .im = ⟨14, d, e, 0, low (n % 4096) 12, 0, 4⟩ := by
    show (⟨14, tk s 7 5 0, tk s 15 5 0, 0, low (tk s 20 12 0) 12, 0, 4⟩ : Ins) = _
    rw [tk_zero, tk_zero, tk_zero, c1, c9, c2, v0, v9, v1]
  rw [e]
  exact ins_im (iffI n)

theorem so4 (n d e : Int) (dd : 0 ≤ d ∧ d < 32) (ee : 0 ≤ e ∧ e < 32) : encB ⟨4, d, e, 0, n, 0, 4⟩ = decide (-2048 ≤ n ∧ n ≤ 2047) := by
  have hk : keyW 4 = 103 + 0 * 4096 ∧ fmW (103 + 0 * 4096) = .im := by decide +kernel
  have hS : encS ⟨4, d, e, 0, n, 0, 4⟩ = 103 + 0 * 4096 + gv d 5 0 * 128 + gv e 5 0 * 32768 + gv n 12 0 * 1048576 := by
    unfold encS; rw [hk.1, hk.2]; exact lay_im _ 103 0 (by decide) (by decide)
  have g0 : gv d 5 0 < 32 := gv_lt d 5 0
  have g9 : gv e 5 0 < 32 := gv_lt e 5 0
  have g1 : gv n 12 0 < 4096 := gv_lt n 12 0
  generalize hs : 103 + 0 * 4096 + gv d 5 0 * 128 + gv e 5 0 * 32768 + gv n 12 0 * 1048576 = s at hS
  have c0 : pc s 0 7 = 103 := by unfold pc; simp only [Nat.reducePow]; omega
  have cf : pc s 12 3 = 0 := by unfold pc; simp only [Nat.reducePow]; omega
  have c1 : pc s 7 5 = gv d 5 0 := by unfold pc; simp only [Nat.reducePow]; omega
  have c9 : pc s 15 5 = gv e 5 0 := by unfold pc; simp only [Nat.reducePow]; omega
  have c2 : pc s 20 12 = gv n 12 0 := by unfold pc; simp only [Nat.reducePow]; omega
  have v0 := gv_reg d dd
  have v9 := gv_reg e ee
  have v1 := gv_int n 12 0
  simp only [Int.reducePow, Int.ediv_one] at v1
  have hop : opW s = 4 := by unfold opW; rw [c0, cf]; rfl
  have hfm : fmW s = .im := by unfold fmW; rw [c0, cf]; rfl
  rw [enc_dec hS (by rw [hop]; decide), dec_parts hop hfm (by decide)]
  have e : parts 4 s .im = ⟨4, d, e, 0, low (n % 4096) 12, 0, 4⟩ := by
    show (⟨4, tk s 7 5 0, tk s 15 5 0, 0, low (tk s 20 12 0) 12, 0, 4⟩ : Ins) = _
    rw [tk_zero, tk_zero, tk_zero, c1, c9, c2, v0, v9, v1]
  rw [e]
  exact ins_im (iffI n)

theorem so41 (n d e : Int) (dd : 0 ≤ d ∧ d < 32) (ee : 0 ≤ e ∧ e < 32) : encB ⟨41, d, e, 0, n, 0, 4⟩ = decide (-2048 ≤ n ∧ n ≤ 2047) := by
  have hk : keyW 41 = 27 + 0 * 4096 ∧ fmW (27 + 0 * 4096) = .im := by decide +kernel
  have hS : encS ⟨41, d, e, 0, n, 0, 4⟩ = 27 + 0 * 4096 + gv d 5 0 * 128 + gv e 5 0 * 32768 + gv n 12 0 * 1048576 := by
    unfold encS; rw [hk.1, hk.2]; exact lay_im _ 27 0 (by decide) (by decide)
  have g0 : gv d 5 0 < 32 := gv_lt d 5 0
  have g9 : gv e 5 0 < 32 := gv_lt e 5 0
  have g1 : gv n 12 0 < 4096 := gv_lt n 12 0
  generalize hs : 27 + 0 * 4096 + gv d 5 0 * 128 + gv e 5 0 * 32768 + gv n 12 0 * 1048576 = s at hS
  have c0 : pc s 0 7 = 27 := by unfold pc; simp only [Nat.reducePow]; omega
  have cf : pc s 12 3 = 0 := by unfold pc; simp only [Nat.reducePow]; omega
  have c1 : pc s 7 5 = gv d 5 0 := by unfold pc; simp only [Nat.reducePow]; omega
  have c9 : pc s 15 5 = gv e 5 0 := by unfold pc; simp only [Nat.reducePow]; omega
  have c2 : pc s 20 12 = gv n 12 0 := by unfold pc; simp only [Nat.reducePow]; omega
  have v0 := gv_reg d dd
  have v9 := gv_reg e ee
  have v1 := gv_int n 12 0
  simp only [Int.reducePow, Int.ediv_one] at v1
  have hop : opW s = 41 := by unfold opW; rw [c0, cf]; rfl
  have hfm : fmW s = .im := by unfold fmW; rw [c0, cf]; rfl
  rw [enc_dec hS (by rw [hop]; decide), dec_parts hop hfm (by decide)]
  have e : parts 41 s .im = ⟨41, d, e, 0, low (n % 4096) 12, 0, 4⟩ := by
    show (⟨41, tk s 7 5 0, tk s 15 5 0, 0, low (tk s 20 12 0) 12, 0, 4⟩ : Ins) = _
    rw [tk_zero, tk_zero, tk_zero, c1, c9, c2, v0, v9, v1]
  rw [e]
  exact ins_im (iffI n)

theorem so20 (n d e : Int) (dd : 0 ≤ d ∧ d < 32) (ee : 0 ≤ e ∧ e < 32) : encB ⟨20, 0, d, e, n, 0, 4⟩ = decide (-2048 ≤ n ∧ n ≤ 2047) := by
  have hk : keyW 20 = 35 + 2 * 4096 ∧ fmW (35 + 2 * 4096) = .st := by decide +kernel
  have hS : encS ⟨20, 0, d, e, n, 0, 4⟩ = 35 + 2 * 4096 + gv d 5 0 * 32768 + gv e 5 0 * 1048576 + gv n 7 5 * 33554432 + gv n 5 0 * 128 := by
    unfold encS; rw [hk.1, hk.2]; exact lay_st _ 35 2 (by decide) (by decide)
  have g0 : gv d 5 0 < 32 := gv_lt d 5 0
  have g9 : gv e 5 0 < 32 := gv_lt e 5 0
  have g1 : gv n 7 5 < 128 := gv_lt n 7 5
  have g2 : gv n 5 0 < 32 := gv_lt n 5 0
  generalize hs : 35 + 2 * 4096 + gv d 5 0 * 32768 + gv e 5 0 * 1048576 + gv n 7 5 * 33554432 + gv n 5 0 * 128 = s at hS
  have c0 : pc s 0 7 = 35 := by unfold pc; simp only [Nat.reducePow]; omega
  have cf : pc s 12 3 = 2 := by unfold pc; simp only [Nat.reducePow]; omega
  have c1 : pc s 15 5 = gv d 5 0 := by unfold pc; simp only [Nat.reducePow]; omega
  have c9 : pc s 20 5 = gv e 5 0 := by unfold pc; simp only [Nat.reducePow]; omega
  have c2 : pc s 25 7 = gv n 7 5 := by unfold pc; simp only [Nat.reducePow]; omega
  have c3 : pc s 7 5 = gv n 5 0 := by unfold pc; simp only [Nat.reducePow]; omega
  have v0 := gv_reg d dd
  have v9 := gv_reg e ee
  have v1 := gv_int n 7 5
  have v2 := gv_int n 5 0
  simp only [Int.reducePow, Int.ediv_one] at v1 v2
  have hop : opW s = 20 := by unfold opW; rw [c0, cf]; rfl
  have hfm : fmW s = .st := by unfold fmW; rw [c0]; rfl
  rw [enc_dec hS (by rw [hop]; decide), dec_parts hop hfm (by decide)]
  have e : parts 20 s .st = ⟨20, 0, d, e, low (n / 32 % 128 * 32 + n % 32) 12, 0, 4⟩ := by
    show (⟨20, 0, tk s 15 5 0, tk s 20 5 0, low _ 12, 0, 4⟩ : Ins) = _
    rw [imS, tk_zero, tk_zero, c1, c9, c2, c3, v0, v9, v1, v2]
  rw [e, decS]
  exact ins_im (iffI n)

theorem so21 (n d e : Int) (dd : 0 ≤ d ∧ d < 32) (ee : 0 ≤ e ∧ e < 32) : encB ⟨21, 0, d, e, n, 0, 4⟩ = decide (-2048 ≤ n ∧ n ≤ 2047) := by
  have hk : keyW 21 = 35 + 3 * 4096 ∧ fmW (35 + 3 * 4096) = .st := by decide +kernel
  have hS : encS ⟨21, 0, d, e, n, 0, 4⟩ = 35 + 3 * 4096 + gv d 5 0 * 32768 + gv e 5 0 * 1048576 + gv n 7 5 * 33554432 + gv n 5 0 * 128 := by
    unfold encS; rw [hk.1, hk.2]; exact lay_st _ 35 3 (by decide) (by decide)
  have g0 : gv d 5 0 < 32 := gv_lt d 5 0
  have g9 : gv e 5 0 < 32 := gv_lt e 5 0
  have g1 : gv n 7 5 < 128 := gv_lt n 7 5
  have g2 : gv n 5 0 < 32 := gv_lt n 5 0
  generalize hs : 35 + 3 * 4096 + gv d 5 0 * 32768 + gv e 5 0 * 1048576 + gv n 7 5 * 33554432 + gv n 5 0 * 128 = s at hS
  have c0 : pc s 0 7 = 35 := by unfold pc; simp only [Nat.reducePow]; omega
  have cf : pc s 12 3 = 3 := by unfold pc; simp only [Nat.reducePow]; omega
  have c1 : pc s 15 5 = gv d 5 0 := by unfold pc; simp only [Nat.reducePow]; omega
  have c9 : pc s 20 5 = gv e 5 0 := by unfold pc; simp only [Nat.reducePow]; omega
  have c2 : pc s 25 7 = gv n 7 5 := by unfold pc; simp only [Nat.reducePow]; omega
  have c3 : pc s 7 5 = gv n 5 0 := by unfold pc; simp only [Nat.reducePow]; omega
  have v0 := gv_reg d dd
  have v9 := gv_reg e ee
  have v1 := gv_int n 7 5
  have v2 := gv_int n 5 0
  simp only [Int.reducePow, Int.ediv_one] at v1 v2
  have hop : opW s = 21 := by unfold opW; rw [c0, cf]; rfl
  have hfm : fmW s = .st := by unfold fmW; rw [c0]; rfl
  rw [enc_dec hS (by rw [hop]; decide), dec_parts hop hfm (by decide)]
  have e : parts 21 s .st = ⟨21, 0, d, e, low (n / 32 % 128 * 32 + n % 32) 12, 0, 4⟩ := by
    show (⟨21, 0, tk s 15 5 0, tk s 20 5 0, low _ 12, 0, 4⟩ : Ins) = _
    rw [imS, tk_zero, tk_zero, c1, c9, c2, c3, v0, v9, v1, v2]
  rw [e, decS]
  exact ins_im (iffI n)

theorem so5 (n d e : Int) (dd : 0 ≤ d ∧ d < 32) (ee : 0 ≤ e ∧ e < 32) : encB ⟨5, 0, d, e, n, 0, 4⟩ = decide (n % 2 = 0 ∧ -4096 ≤ n ∧ n < 4096) := by
  have hk : keyW 5 = 99 + 0 * 4096 ∧ fmW (99 + 0 * 4096) = .br := by decide +kernel
  have hS : encS ⟨5, 0, d, e, n, 0, 4⟩ = 99 + 0 * 4096 + gv d 5 0 * 32768 + gv e 5 0 * 1048576 + gv n 1 12 * 2147483648 + gv n 1 11 * 128 + gv n 6 5 * 33554432 + gv n 4 1 * 256 := by
    unfold encS; rw [hk.1, hk.2]; exact lay_br _ 99 0 (by decide) (by decide)
  have g0 : gv d 5 0 < 32 := gv_lt d 5 0
  have g9 : gv e 5 0 < 32 := gv_lt e 5 0
  have g1 : gv n 1 12 < 2 := gv_lt n 1 12
  have g2 : gv n 1 11 < 2 := gv_lt n 1 11
  have g3 : gv n 6 5 < 64 := gv_lt n 6 5
  have g4 : gv n 4 1 < 16 := gv_lt n 4 1
  generalize hs : 99 + 0 * 4096 + gv d 5 0 * 32768 + gv e 5 0 * 1048576 + gv n 1 12 * 2147483648 + gv n 1 11 * 128 + gv n 6 5 * 33554432 + gv n 4 1 * 256 = s at hS
  have c0 : pc s 0 7 = 99 := by unfold pc; simp only [Nat.reducePow]; omega
  have cf : pc s 12 3 = 0 := by unfold pc; simp only [Nat.reducePow]; omega
  have c1 : pc s 15 5 = gv d 5 0 := by unfold pc; simp only [Nat.reducePow]; omega
  have c9 : pc s 20 5 = gv e 5 0 := by unfold pc; simp only [Nat.reducePow]; omega
  have c2 : pc s 31 1 = gv n 1 12 := by unfold pc; simp only [Nat.reducePow]; omega
  have c3 : pc s 7 1 = gv n 1 11 := by unfold pc; simp only [Nat.reducePow]; omega
  have c4 : pc s 25 6 = gv n 6 5 := by unfold pc; simp only [Nat.reducePow]; omega
  have c5 : pc s 8 4 = gv n 4 1 := by unfold pc; simp only [Nat.reducePow]; omega
  have v0 := gv_reg d dd
  have v9 := gv_reg e ee
  have v1 := gv_int n 1 12
  have v2 := gv_int n 1 11
  have v3 := gv_int n 6 5
  have v4 := gv_int n 4 1
  simp only [Int.reducePow] at v1 v2 v3 v4
  have hop : opW s = 5 := by unfold opW; rw [c0, cf]; rfl
  have hfm : fmW s = .br := by unfold fmW; rw [c0]; rfl
  rw [enc_dec hS (by rw [hop]; decide), dec_parts hop hfm (by decide)]
  have e : parts 5 s .br = ⟨5, 0, d, e, low (((n / 4096 % 2 * 2 + n / 2048 % 2) * 64 + n / 32 % 64) * 16 + n / 2 % 16) 12 * 2, 0, 4⟩ := by
    show (⟨5, 0, tk s 15 5 0, tk s 20 5 0, low _ 13, 0, 4⟩ : Ins) = _
    rw [imB, tk_zero, tk_zero, c1, c9, c2, c3, c4, c5, v0, v9, v1, v2, v3, v4]
  rw [e, sumB]
  exact ins_im (iffB n)

theorem so6 (n d e : Int) (dd : 0 ≤ d ∧ d < 32) (ee : 0 ≤ e ∧ e < 32) : encB ⟨6, 0, d, e, n, 0, 4⟩ = decide (n % 2 = 0 ∧ -4096 ≤ n ∧ n < 4096) := by
  have hk : keyW 6 = 99 + 1 * 4096 ∧ fmW (99 + 1 * 4096) = .br := by decide +kernel
  have hS : encS ⟨6, 0, d, e, n, 0, 4⟩ = 99 + 1 * 4096 + gv d 5 0 * 32768 + gv e 5 0 * 1048576 + gv n 1 12 * 2147483648 + gv n 1 11 * 128 + gv n 6 5 * 33554432 + gv n 4 1 * 256 := by
    unfold encS; rw [hk.1, hk.2]; exact lay_br _ 99 1 (by decide) (by decide)
  have g0 : gv d 5 0 < 32 := gv_lt d 5 0
  have g9 : gv e 5 0 < 32 := gv_lt e 5 0
  have g1 : gv n 1 12 < 2 := gv_lt n 1 12
  have g2 : gv n 1 11 < 2 := gv_lt n 1 11
  have g3 : gv n 6 5 < 64 := gv_lt n 6 5
  have g4 : gv n 4 1 < 16 := gv_lt n 4 1
  generalize hs : 99 + 1 * 4096 + gv d 5 0 * 32768 + gv e 5 0 * 1048576 + gv n 1 12 * 2147483648 + gv n 1 11 * 128 + gv n 6 5 * 33554432 + gv n 4 1 * 256 = s at hS
  have c0 : pc s 0 7 = 99 := by unfold pc; simp only [Nat.reducePow]; omega
  have cf : pc s 12 3 = 1 := by unfold pc; simp only [Nat.reducePow]; omega
  have c1 : pc s 15 5 = gv d 5 0 := by unfold pc; simp only [Nat.reducePow]; omega
  have c9 : pc s 20 5 = gv e 5 0 := by unfold pc; simp only [Nat.reducePow]; omega
  have c2 : pc s 31 1 = gv n 1 12 := by unfold pc; simp only [Nat.reducePow]; omega
  have c3 : pc s 7 1 = gv n 1 11 := by unfold pc; simp only [Nat.reducePow]; omega
  have c4 : pc s 25 6 = gv n 6 5 := by unfold pc; simp only [Nat.reducePow]; omega
  have c5 : pc s 8 4 = gv n 4 1 := by unfold pc; simp only [Nat.reducePow]; omega
  have v0 := gv_reg d dd
  have v9 := gv_reg e ee
  have v1 := gv_int n 1 12
  have v2 := gv_int n 1 11
  have v3 := gv_int n 6 5
  have v4 := gv_int n 4 1
  simp only [Int.reducePow] at v1 v2 v3 v4
  have hop : opW s = 6 := by unfold opW; rw [c0, cf]; rfl
  have hfm : fmW s = .br := by unfold fmW; rw [c0]; rfl
  rw [enc_dec hS (by rw [hop]; decide), dec_parts hop hfm (by decide)]
  have e : parts 6 s .br = ⟨6, 0, d, e, low (((n / 4096 % 2 * 2 + n / 2048 % 2) * 64 + n / 32 % 64) * 16 + n / 2 % 16) 12 * 2, 0, 4⟩ := by
    show (⟨6, 0, tk s 15 5 0, tk s 20 5 0, low _ 13, 0, 4⟩ : Ins) = _
    rw [imB, tk_zero, tk_zero, c1, c9, c2, c3, c4, c5, v0, v9, v1, v2, v3, v4]
  rw [e, sumB]
  exact ins_im (iffB n)

theorem so3 (n d e : Int) (dd : 0 ≤ d ∧ d < 32) (ee : 0 ≤ e ∧ e < 32) : encB ⟨3, d, 0, 0, n, 0, 4⟩ = decide (n % 2 = 0 ∧ -1048576 ≤ n ∧ n < 1048576) := by
  have hk : keyW 3 = 111 ∧ fmW (111) = .jp := by decide +kernel
  have hS : encS ⟨3, d, 0, 0, n, 0, 4⟩ = 111 + gv d 5 0 * 128 + gv n 1 20 * 2147483648 + gv n 8 12 * 4096 + gv n 1 11 * 1048576 + gv n 10 1 * 2097152 := by
    unfold encS; rw [hk.1, hk.2]; exact lay_jp _ 111 (by decide)
  have g0 : gv d 5 0 < 32 := gv_lt d 5 0
  have g1 : gv n 1 20 < 2 := gv_lt n 1 20
  have g2 : gv n 8 12 < 256 := gv_lt n 8 12
  have g3 : gv n 1 11 < 2 := gv_lt n 1 11
  have g4 : gv n 10 1 < 1024 := gv_lt n 10 1
  generalize hs : 111 + gv d 5 0 * 128 + gv n 1 20 * 2147483648 + gv n 8 12 * 4096 + gv n 1 11 * 1048576 + gv n 10 1 * 2097152 = s at hS
  have c0 : pc s 0 7 = 111 := by unfold pc; simp only [Nat.reducePow]; omega
  have c1 : pc s 7 5 = gv d 5 0 := by unfold pc; simp only [Nat.reducePow]; omega
  have c2 : pc s 31 1 = gv n 1 20 := by unfold pc; simp only [Nat.reducePow]; omega
  have c3 : pc s 12 8 = gv n 8 12 := by unfold pc; simp only [Nat.reducePow]; omega
  have c4 : pc s 20 1 = gv n 1 11 := by unfold pc; simp only [Nat.reducePow]; omega
  have c5 : pc s 21 10 = gv n 10 1 := by unfold pc; simp only [Nat.reducePow]; omega
  have v0 := gv_reg d dd
  have v1 := gv_int n 1 20
  have v2 := gv_int n 8 12
  have v3 := gv_int n 1 11
  have v4 := gv_int n 10 1
  simp only [Int.reducePow] at v1 v2 v3 v4
  have hop : opW s = 3 := by unfold opW; rw [c0]; rfl
  have hfm : fmW s = .jp := by unfold fmW; rw [c0]; rfl
  rw [enc_dec hS (by rw [hop]; decide), dec_parts hop hfm (by decide)]
  have e : parts 3 s .jp = ⟨3, d, 0, 0, low (((n / 1048576 % 2 * 256 + n / 4096 % 256) * 2 + n / 2048 % 2) * 1024 + n / 2 % 1024) 20 * 2, 0, 4⟩ := by
    show (⟨3, tk s 7 5 0, 0, 0, low _ 21, 0, 4⟩ : Ins) = _
    rw [imJ, tk_zero, c1, c2, c3, c4, c5, v0, v1, v2, v3, v4]
  rw [e, sumJ]
  exact ins_im (iffJ n)

theorem so1 (n d e : Int) (dd : 0 ≤ d ∧ d < 32) (ee : 0 ≤ e ∧ e < 32) : encB ⟨1, d, 0, 0, n, 0, 4⟩ = decide (n % 4096 = 0 ∧ -2147483648 ≤ n ∧ n < 2147483648) := by
  have hk : keyW 1 = 55 ∧ fmW (55) = .up := by decide +kernel
  have hS : encS ⟨1, d, 0, 0, n, 0, 4⟩ = 55 + gv d 5 0 * 128 + gv n 20 12 * 4096 := by
    unfold encS; rw [hk.1, hk.2]; exact lay_up _ 55 (by decide)
  have g0 : gv d 5 0 < 32 := gv_lt d 5 0
  have g1 : gv n 20 12 < 1048576 := gv_lt n 20 12
  generalize hs : 55 + gv d 5 0 * 128 + gv n 20 12 * 4096 = s at hS
  have c0 : pc s 0 7 = 55 := by unfold pc; simp only [Nat.reducePow]; omega
  have c1 : pc s 7 5 = gv d 5 0 := by unfold pc; simp only [Nat.reducePow]; omega
  have c2 : pc s 12 20 = gv n 20 12 := by unfold pc; simp only [Nat.reducePow]; omega
  have v0 := gv_reg d dd
  have v1 := gv_int n 20 12
  simp only [Int.reducePow] at v1
  have hop : opW s = 1 := by unfold opW; rw [c0]; rfl
  have hfm : fmW s = .up := by unfold fmW; rw [c0]; rfl
  rw [enc_dec hS (by rw [hop]; decide), dec_parts hop hfm (by decide)]
  have e : parts 1 s .up = ⟨1, d, 0, 0, low (n / 4096 % 1048576) 20 * 4096, 0, 4⟩ := by
    show (⟨1, tk s 7 5 0, 0, 0, low (tk s 12 20 12) 32, 0, 4⟩ : Ins) = _
    rw [imU, tk_zero, c1, c2, v0, v1]
  rw [e]
  exact ins_im (iffU n)

theorem so28 (n d e : Int) (dd : 0 ≤ d ∧ d < 32) (ee : 0 ≤ e ∧ e < 32) : encB ⟨28, d, e, 0, n, 0, 4⟩ = decide (0 ≤ n ∧ n < 64) := by
  have hk : keyW 28 = 19 + 1 * 4096 + 0 * 67108864 ∧ fmW (19 + 1 * 4096 + 0 * 67108864) = .sh 6 := by decide +kernel
  have hS : encS ⟨28, d, e, 0, n, 0, 4⟩ = 19 + 1 * 4096 + 0 * 67108864 + gv d 5 0 * 128 + gv e 5 0 * 32768 + gv n 6 0 * 1048576 := by
    unfold encS; rw [hk.1, hk.2]; exact lay_sh6 _ 19 1 0 (by decide) (by decide) (by decide)
  have g0 : gv d 5 0 < 32 := gv_lt d 5 0
  have g9 : gv e 5 0 < 32 := gv_lt e 5 0
  have g1 : gv n 6 0 < 64 := gv_lt n 6 0
  generalize hs : 19 + 1 * 4096 + 0 * 67108864 + gv d 5 0 * 128 + gv e 5 0 * 32768 + gv n 6 0 * 1048576 = s at hS
  have c0 : pc s 0 7 = 19 := by unfold pc; simp only [Nat.reducePow]; omega
  have cf : pc s 12 3 = 1 := by unfold pc; simp only [Nat.reducePow]; omega
  have cg : pc s 25 7 / 2 * 2 = 0 := by unfold pc; simp only [Nat.reducePow]; omega
  have c1 : pc s 7 5 = gv d 5 0 := by unfold pc; simp only [Nat.reducePow]; omega
  have c9 : pc s 15 5 = gv e 5 0 := by unfold pc; simp only [Nat.reducePow]; omega
  have c2 : pc s 20 6 = gv n 6 0 := by unfold pc; simp only [Nat.reducePow]; omega
  have v0 := gv_reg d dd
  have v9 := gv_reg e ee
  have v1 := gv_int n 6 0
  simp only [Int.reducePow, Int.ediv_one] at v1
  have hop : opW s = 28 := by
    have e1 : opW s = pick3 (pc s 25 7 / 2 * 2) T12 T13 Z8 1 := by unfold opW; rw [c0, cf]; rfl
    rw [e1, cg]; rfl
  have hfm : fmW s = .sh 6 := by unfold fmW; rw [c0, cf]; rfl
  rw [enc_dec hS (by rw [hop]; decide), dec_parts hop hfm (by decide)]
  have e : parts 28 s (.sh 6) = ⟨28, d, e, 0, n % 64, 0, 4⟩ := by
    show (⟨28, tk s 7 5 0, tk s 15 5 0, 0, tk s 20 6 0, 0, 4⟩ : Ins) = _
    rw [tk_zero, tk_zero, tk_zero, c1, c9, c2, v0, v9, v1]
  rw [e]
  exact ins_im (iff6 n)

theorem so29 (n d e : Int) (dd : 0 ≤ d ∧ d < 32) (ee : 0 ≤ e ∧ e < 32) : encB ⟨29, d, e, 0, n, 0, 4⟩ = decide (0 ≤ n ∧ n < 64) := by
  have hk : keyW 29 = 19 + 5 * 4096 + 0 * 67108864 ∧ fmW (19 + 5 * 4096 + 0 * 67108864) = .sh 6 := by decide +kernel
  have hS : encS ⟨29, d, e, 0, n, 0, 4⟩ = 19 + 5 * 4096 + 0 * 67108864 + gv d 5 0 * 128 + gv e 5 0 * 32768 + gv n 6 0 * 1048576 := by
    unfold encS; rw [hk.1, hk.2]; exact lay_sh6 _ 19 5 0 (by decide) (by decide) (by decide)
  have g0 : gv d 5 0 < 32 := gv_lt d 5 0
  have g9 : gv e 5 0 < 32 := gv_lt e 5 0
  have g1 : gv n 6 0 < 64 := gv_lt n 6 0
  generalize hs : 19 + 5 * 4096 + 0 * 67108864 + gv d 5 0 * 128 + gv e 5 0 * 32768 + gv n 6 0 * 1048576 = s at hS
  have c0 : pc s 0 7 = 19 := by unfold pc; simp only [Nat.reducePow]; omega
  have cf : pc s 12 3 = 5 := by unfold pc; simp only [Nat.reducePow]; omega
  have cg : pc s 25 7 / 2 * 2 = 0 := by unfold pc; simp only [Nat.reducePow]; omega
  have c1 : pc s 7 5 = gv d 5 0 := by unfold pc; simp only [Nat.reducePow]; omega
  have c9 : pc s 15 5 = gv e 5 0 := by unfold pc; simp only [Nat.reducePow]; omega
  have c2 : pc s 20 6 = gv n 6 0 := by unfold pc; simp only [Nat.reducePow]; omega
  have v0 := gv_reg d dd
  have v9 := gv_reg e ee
  have v1 := gv_int n 6 0
  simp only [Int.reducePow, Int.ediv_one] at v1
  have hop : opW s = 29 := by
    have e1 : opW s = pick3 (pc s 25 7 / 2 * 2) T12 T13 Z8 5 := by unfold opW; rw [c0, cf]; rfl
    rw [e1, cg]; rfl
  have hfm : fmW s = .sh 6 := by unfold fmW; rw [c0, cf]; rfl
  rw [enc_dec hS (by rw [hop]; decide), dec_parts hop hfm (by decide)]
  have e : parts 29 s (.sh 6) = ⟨29, d, e, 0, n % 64, 0, 4⟩ := by
    show (⟨29, tk s 7 5 0, tk s 15 5 0, 0, tk s 20 6 0, 0, 4⟩ : Ins) = _
    rw [tk_zero, tk_zero, tk_zero, c1, c9, c2, v0, v9, v1]
  rw [e]
  exact ins_im (iff6 n)

theorem so30 (n d e : Int) (dd : 0 ≤ d ∧ d < 32) (ee : 0 ≤ e ∧ e < 32) : encB ⟨30, d, e, 0, n, 0, 4⟩ = decide (0 ≤ n ∧ n < 64) := by
  have hk : keyW 30 = 19 + 5 * 4096 + 16 * 67108864 ∧ fmW (19 + 5 * 4096 + 16 * 67108864) = .sh 6 := by decide +kernel
  have hS : encS ⟨30, d, e, 0, n, 0, 4⟩ = 19 + 5 * 4096 + 16 * 67108864 + gv d 5 0 * 128 + gv e 5 0 * 32768 + gv n 6 0 * 1048576 := by
    unfold encS; rw [hk.1, hk.2]; exact lay_sh6 _ 19 5 16 (by decide) (by decide) (by decide)
  have g0 : gv d 5 0 < 32 := gv_lt d 5 0
  have g9 : gv e 5 0 < 32 := gv_lt e 5 0
  have g1 : gv n 6 0 < 64 := gv_lt n 6 0
  generalize hs : 19 + 5 * 4096 + 16 * 67108864 + gv d 5 0 * 128 + gv e 5 0 * 32768 + gv n 6 0 * 1048576 = s at hS
  have c0 : pc s 0 7 = 19 := by unfold pc; simp only [Nat.reducePow]; omega
  have cf : pc s 12 3 = 5 := by unfold pc; simp only [Nat.reducePow]; omega
  have cg : pc s 25 7 / 2 * 2 = 32 := by unfold pc; simp only [Nat.reducePow]; omega
  have c1 : pc s 7 5 = gv d 5 0 := by unfold pc; simp only [Nat.reducePow]; omega
  have c9 : pc s 15 5 = gv e 5 0 := by unfold pc; simp only [Nat.reducePow]; omega
  have c2 : pc s 20 6 = gv n 6 0 := by unfold pc; simp only [Nat.reducePow]; omega
  have v0 := gv_reg d dd
  have v9 := gv_reg e ee
  have v1 := gv_int n 6 0
  simp only [Int.reducePow, Int.ediv_one] at v1
  have hop : opW s = 30 := by
    have e1 : opW s = pick3 (pc s 25 7 / 2 * 2) T12 T13 Z8 5 := by unfold opW; rw [c0, cf]; rfl
    rw [e1, cg]; rfl
  have hfm : fmW s = .sh 6 := by unfold fmW; rw [c0, cf]; rfl
  rw [enc_dec hS (by rw [hop]; decide), dec_parts hop hfm (by decide)]
  have e : parts 30 s (.sh 6) = ⟨30, d, e, 0, n % 64, 0, 4⟩ := by
    show (⟨30, tk s 7 5 0, tk s 15 5 0, 0, tk s 20 6 0, 0, 4⟩ : Ins) = _
    rw [tk_zero, tk_zero, tk_zero, c1, c9, c2, v0, v9, v1]
  rw [e]
  exact ins_im (iff6 n)

theorem so31 (n d e : Int) (dd : 0 ≤ d ∧ d < 32) (ee : 0 ≤ e ∧ e < 32) (nn : 0 ≤ n ∧ n < 32) : encB ⟨31, d, e, n, 0, 0, 4⟩ = true := by
  have hk : keyW 31 = 51 + 0 * 4096 + 0 * 33554432 ∧ fmW (51 + 0 * 4096 + 0 * 33554432) = .rg := by decide +kernel
  have hS : encS ⟨31, d, e, n, 0, 0, 4⟩ = 51 + 0 * 4096 + 0 * 33554432 + gv d 5 0 * 128 + gv e 5 0 * 32768 + gv n 5 0 * 1048576 := by
    unfold encS; rw [hk.1, hk.2]; exact lay_rg _ 51 0 0 (by decide) (by decide) (by decide)
  have g0 : gv d 5 0 < 32 := gv_lt d 5 0
  have g9 : gv e 5 0 < 32 := gv_lt e 5 0
  have g1 : gv n 5 0 < 32 := gv_lt n 5 0
  generalize hs : 51 + 0 * 4096 + 0 * 33554432 + gv d 5 0 * 128 + gv e 5 0 * 32768 + gv n 5 0 * 1048576 = s at hS
  have c0 : pc s 0 7 = 51 := by unfold pc; simp only [Nat.reducePow]; omega
  have cf : pc s 12 3 = 0 := by unfold pc; simp only [Nat.reducePow]; omega
  have cg : pc s 25 7 = 0 := by unfold pc; simp only [Nat.reducePow]; omega
  have c1 : pc s 7 5 = gv d 5 0 := by unfold pc; simp only [Nat.reducePow]; omega
  have c9 : pc s 15 5 = gv e 5 0 := by unfold pc; simp only [Nat.reducePow]; omega
  have c2 : pc s 20 5 = gv n 5 0 := by unfold pc; simp only [Nat.reducePow]; omega
  have v0 := gv_reg d dd
  have v9 := gv_reg e ee
  have v1 := gv_reg n nn
  have hop : opW s = 31 := by unfold opW; rw [c0, cf, cg]; rfl
  have hfm : fmW s = .rg := by unfold fmW; rw [c0]; rfl
  rw [enc_dec hS (by rw [hop]; decide), dec_parts hop hfm (by decide)]
  have e : parts 31 s .rg = ⟨31, d, e, n, 0, 0, 4⟩ := by
    show (⟨31, tk s 7 5 0, tk s 15 5 0, tk s 20 5 0, 0, 0, 4⟩ : Ins) = _
    rw [tk_zero, tk_zero, tk_zero, c1, c9, c2, v0, v9, v1]
  rw [e]
  exact decide_eq_true rfl

theorem so32 (n d e : Int) (dd : 0 ≤ d ∧ d < 32) (ee : 0 ≤ e ∧ e < 32) (nn : 0 ≤ n ∧ n < 32) : encB ⟨32, d, e, n, 0, 0, 4⟩ = true := by
  have hk : keyW 32 = 51 + 0 * 4096 + 32 * 33554432 ∧ fmW (51 + 0 * 4096 + 32 * 33554432) = .rg := by decide +kernel
  have hS : encS ⟨32, d, e, n, 0, 0, 4⟩ = 51 + 0 * 4096 + 32 * 33554432 + gv d 5 0 * 128 + gv e 5 0 * 32768 + gv n 5 0 * 1048576 := by
    unfold encS; rw [hk.1, hk.2]; exact lay_rg _ 51 0 32 (by decide) (by decide) (by decide)
  have g0 : gv d 5 0 < 32 := gv_lt d 5 0
  have g9 : gv e 5 0 < 32 := gv_lt e 5 0
  have g1 : gv n 5 0 < 32 := gv_lt n 5 0
  generalize hs : 51 + 0 * 4096 + 32 * 33554432 + gv d 5 0 * 128 + gv e 5 0 * 32768 + gv n 5 0 * 1048576 = s at hS
  have c0 : pc s 0 7 = 51 := by unfold pc; simp only [Nat.reducePow]; omega
  have cf : pc s 12 3 = 0 := by unfold pc; simp only [Nat.reducePow]; omega
  have cg : pc s 25 7 = 32 := by unfold pc; simp only [Nat.reducePow]; omega
  have c1 : pc s 7 5 = gv d 5 0 := by unfold pc; simp only [Nat.reducePow]; omega
  have c9 : pc s 15 5 = gv e 5 0 := by unfold pc; simp only [Nat.reducePow]; omega
  have c2 : pc s 20 5 = gv n 5 0 := by unfold pc; simp only [Nat.reducePow]; omega
  have v0 := gv_reg d dd
  have v9 := gv_reg e ee
  have v1 := gv_reg n nn
  have hop : opW s = 32 := by unfold opW; rw [c0, cf, cg]; rfl
  have hfm : fmW s = .rg := by unfold fmW; rw [c0]; rfl
  rw [enc_dec hS (by rw [hop]; decide), dec_parts hop hfm (by decide)]
  have e : parts 32 s .rg = ⟨32, d, e, n, 0, 0, 4⟩ := by
    show (⟨32, tk s 7 5 0, tk s 15 5 0, tk s 20 5 0, 0, 0, 4⟩ : Ins) = _
    rw [tk_zero, tk_zero, tk_zero, c1, c9, c2, v0, v9, v1]
  rw [e]
  exact decide_eq_true rfl

theorem so36 (n d e : Int) (dd : 0 ≤ d ∧ d < 32) (ee : 0 ≤ e ∧ e < 32) (nn : 0 ≤ n ∧ n < 32) : encB ⟨36, d, e, n, 0, 0, 4⟩ = true := by
  have hk : keyW 36 = 51 + 4 * 4096 + 0 * 33554432 ∧ fmW (51 + 4 * 4096 + 0 * 33554432) = .rg := by decide +kernel
  have hS : encS ⟨36, d, e, n, 0, 0, 4⟩ = 51 + 4 * 4096 + 0 * 33554432 + gv d 5 0 * 128 + gv e 5 0 * 32768 + gv n 5 0 * 1048576 := by
    unfold encS; rw [hk.1, hk.2]; exact lay_rg _ 51 4 0 (by decide) (by decide) (by decide)
  have g0 : gv d 5 0 < 32 := gv_lt d 5 0
  have g9 : gv e 5 0 < 32 := gv_lt e 5 0
  have g1 : gv n 5 0 < 32 := gv_lt n 5 0
  generalize hs : 51 + 4 * 4096 + 0 * 33554432 + gv d 5 0 * 128 + gv e 5 0 * 32768 + gv n 5 0 * 1048576 = s at hS
  have c0 : pc s 0 7 = 51 := by unfold pc; simp only [Nat.reducePow]; omega
  have cf : pc s 12 3 = 4 := by unfold pc; simp only [Nat.reducePow]; omega
  have cg : pc s 25 7 = 0 := by unfold pc; simp only [Nat.reducePow]; omega
  have c1 : pc s 7 5 = gv d 5 0 := by unfold pc; simp only [Nat.reducePow]; omega
  have c9 : pc s 15 5 = gv e 5 0 := by unfold pc; simp only [Nat.reducePow]; omega
  have c2 : pc s 20 5 = gv n 5 0 := by unfold pc; simp only [Nat.reducePow]; omega
  have v0 := gv_reg d dd
  have v9 := gv_reg e ee
  have v1 := gv_reg n nn
  have hop : opW s = 36 := by unfold opW; rw [c0, cf, cg]; rfl
  have hfm : fmW s = .rg := by unfold fmW; rw [c0]; rfl
  rw [enc_dec hS (by rw [hop]; decide), dec_parts hop hfm (by decide)]
  have e : parts 36 s .rg = ⟨36, d, e, n, 0, 0, 4⟩ := by
    show (⟨36, tk s 7 5 0, tk s 15 5 0, tk s 20 5 0, 0, 0, 4⟩ : Ins) = _
    rw [tk_zero, tk_zero, tk_zero, c1, c9, c2, v0, v9, v1]
  rw [e]
  exact decide_eq_true rfl

theorem so39 (n d e : Int) (dd : 0 ≤ d ∧ d < 32) (ee : 0 ≤ e ∧ e < 32) (nn : 0 ≤ n ∧ n < 32) : encB ⟨39, d, e, n, 0, 0, 4⟩ = true := by
  have hk : keyW 39 = 51 + 6 * 4096 + 0 * 33554432 ∧ fmW (51 + 6 * 4096 + 0 * 33554432) = .rg := by decide +kernel
  have hS : encS ⟨39, d, e, n, 0, 0, 4⟩ = 51 + 6 * 4096 + 0 * 33554432 + gv d 5 0 * 128 + gv e 5 0 * 32768 + gv n 5 0 * 1048576 := by
    unfold encS; rw [hk.1, hk.2]; exact lay_rg _ 51 6 0 (by decide) (by decide) (by decide)
  have g0 : gv d 5 0 < 32 := gv_lt d 5 0
  have g9 : gv e 5 0 < 32 := gv_lt e 5 0
  have g1 : gv n 5 0 < 32 := gv_lt n 5 0
  generalize hs : 51 + 6 * 4096 + 0 * 33554432 + gv d 5 0 * 128 + gv e 5 0 * 32768 + gv n 5 0 * 1048576 = s at hS
  have c0 : pc s 0 7 = 51 := by unfold pc; simp only [Nat.reducePow]; omega
  have cf : pc s 12 3 = 6 := by unfold pc; simp only [Nat.reducePow]; omega
  have cg : pc s 25 7 = 0 := by unfold pc; simp only [Nat.reducePow]; omega
  have c1 : pc s 7 5 = gv d 5 0 := by unfold pc; simp only [Nat.reducePow]; omega
  have c9 : pc s 15 5 = gv e 5 0 := by unfold pc; simp only [Nat.reducePow]; omega
  have c2 : pc s 20 5 = gv n 5 0 := by unfold pc; simp only [Nat.reducePow]; omega
  have v0 := gv_reg d dd
  have v9 := gv_reg e ee
  have v1 := gv_reg n nn
  have hop : opW s = 39 := by unfold opW; rw [c0, cf, cg]; rfl
  have hfm : fmW s = .rg := by unfold fmW; rw [c0]; rfl
  rw [enc_dec hS (by rw [hop]; decide), dec_parts hop hfm (by decide)]
  have e : parts 39 s .rg = ⟨39, d, e, n, 0, 0, 4⟩ := by
    show (⟨39, tk s 7 5 0, tk s 15 5 0, tk s 20 5 0, 0, 0, 4⟩ : Ins) = _
    rw [tk_zero, tk_zero, tk_zero, c1, c9, c2, v0, v9, v1]
  rw [e]
  exact decide_eq_true rfl

theorem so40 (n d e : Int) (dd : 0 ≤ d ∧ d < 32) (ee : 0 ≤ e ∧ e < 32) (nn : 0 ≤ n ∧ n < 32) : encB ⟨40, d, e, n, 0, 0, 4⟩ = true := by
  have hk : keyW 40 = 51 + 7 * 4096 + 0 * 33554432 ∧ fmW (51 + 7 * 4096 + 0 * 33554432) = .rg := by decide +kernel
  have hS : encS ⟨40, d, e, n, 0, 0, 4⟩ = 51 + 7 * 4096 + 0 * 33554432 + gv d 5 0 * 128 + gv e 5 0 * 32768 + gv n 5 0 * 1048576 := by
    unfold encS; rw [hk.1, hk.2]; exact lay_rg _ 51 7 0 (by decide) (by decide) (by decide)
  have g0 : gv d 5 0 < 32 := gv_lt d 5 0
  have g9 : gv e 5 0 < 32 := gv_lt e 5 0
  have g1 : gv n 5 0 < 32 := gv_lt n 5 0
  generalize hs : 51 + 7 * 4096 + 0 * 33554432 + gv d 5 0 * 128 + gv e 5 0 * 32768 + gv n 5 0 * 1048576 = s at hS
  have c0 : pc s 0 7 = 51 := by unfold pc; simp only [Nat.reducePow]; omega
  have cf : pc s 12 3 = 7 := by unfold pc; simp only [Nat.reducePow]; omega
  have cg : pc s 25 7 = 0 := by unfold pc; simp only [Nat.reducePow]; omega
  have c1 : pc s 7 5 = gv d 5 0 := by unfold pc; simp only [Nat.reducePow]; omega
  have c9 : pc s 15 5 = gv e 5 0 := by unfold pc; simp only [Nat.reducePow]; omega
  have c2 : pc s 20 5 = gv n 5 0 := by unfold pc; simp only [Nat.reducePow]; omega
  have v0 := gv_reg d dd
  have v9 := gv_reg e ee
  have v1 := gv_reg n nn
  have hop : opW s = 40 := by unfold opW; rw [c0, cf, cg]; rfl
  have hfm : fmW s = .rg := by unfold fmW; rw [c0]; rfl
  rw [enc_dec hS (by rw [hop]; decide), dec_parts hop hfm (by decide)]
  have e : parts 40 s .rg = ⟨40, d, e, n, 0, 0, 4⟩ := by
    show (⟨40, tk s 7 5 0, tk s 15 5 0, tk s 20 5 0, 0, 0, 4⟩ : Ins) = _
    rw [tk_zero, tk_zero, tk_zero, c1, c9, c2, v0, v9, v1]
  rw [e]
  exact decide_eq_true rfl

theorem so46 (n d e : Int) (dd : 0 ≤ d ∧ d < 32) (ee : 0 ≤ e ∧ e < 32) (nn : 0 ≤ n ∧ n < 32) : encB ⟨46, d, e, n, 0, 0, 4⟩ = true := by
  have hk : keyW 46 = 59 + 0 * 4096 + 32 * 33554432 ∧ fmW (59 + 0 * 4096 + 32 * 33554432) = .rg := by decide +kernel
  have hS : encS ⟨46, d, e, n, 0, 0, 4⟩ = 59 + 0 * 4096 + 32 * 33554432 + gv d 5 0 * 128 + gv e 5 0 * 32768 + gv n 5 0 * 1048576 := by
    unfold encS; rw [hk.1, hk.2]; exact lay_rg _ 59 0 32 (by decide) (by decide) (by decide)
  have g0 : gv d 5 0 < 32 := gv_lt d 5 0
  have g9 : gv e 5 0 < 32 := gv_lt e 5 0
  have g1 : gv n 5 0 < 32 := gv_lt n 5 0
  generalize hs : 59 + 0 * 4096 + 32 * 33554432 + gv d 5 0 * 128 + gv e 5 0 * 32768 + gv n 5 0 * 1048576 = s at hS
  have c0 : pc s 0 7 = 59 := by unfold pc; simp only [Nat.reducePow]; omega
  have cf : pc s 12 3 = 0 := by unfold pc; simp only [Nat.reducePow]; omega
  have cg : pc s 25 7 = 32 := by unfold pc; simp only [Nat.reducePow]; omega
  have c1 : pc s 7 5 = gv d 5 0 := by unfold pc; simp only [Nat.reducePow]; omega
  have c9 : pc s 15 5 = gv e 5 0 := by unfold pc; simp only [Nat.reducePow]; omega
  have c2 : pc s 20 5 = gv n 5 0 := by unfold pc; simp only [Nat.reducePow]; omega
  have v0 := gv_reg d dd
  have v9 := gv_reg e ee
  have v1 := gv_reg n nn
  have hop : opW s = 46 := by unfold opW; rw [c0, cf, cg]; rfl
  have hfm : fmW s = .rg := by unfold fmW; rw [c0]; rfl
  rw [enc_dec hS (by rw [hop]; decide), dec_parts hop hfm (by decide)]
  have e : parts 46 s .rg = ⟨46, d, e, n, 0, 0, 4⟩ := by
    show (⟨46, tk s 7 5 0, tk s 15 5 0, tk s 20 5 0, 0, 0, 4⟩ : Ins) = _
    rw [tk_zero, tk_zero, tk_zero, c1, c9, c2, v0, v9, v1]
  rw [e]
  exact decide_eq_true rfl

theorem so45 (n d e : Int) (dd : 0 ≤ d ∧ d < 32) (ee : 0 ≤ e ∧ e < 32) (nn : 0 ≤ n ∧ n < 32) : encB ⟨45, d, e, n, 0, 0, 4⟩ = true := by
  have hk : keyW 45 = 59 + 0 * 4096 + 0 * 33554432 ∧ fmW (59 + 0 * 4096 + 0 * 33554432) = .rg := by decide +kernel
  have hS : encS ⟨45, d, e, n, 0, 0, 4⟩ = 59 + 0 * 4096 + 0 * 33554432 + gv d 5 0 * 128 + gv e 5 0 * 32768 + gv n 5 0 * 1048576 := by
    unfold encS; rw [hk.1, hk.2]; exact lay_rg _ 59 0 0 (by decide) (by decide) (by decide)
  have g0 : gv d 5 0 < 32 := gv_lt d 5 0
  have g9 : gv e 5 0 < 32 := gv_lt e 5 0
  have g1 : gv n 5 0 < 32 := gv_lt n 5 0
  generalize hs : 59 + 0 * 4096 + 0 * 33554432 + gv d 5 0 * 128 + gv e 5 0 * 32768 + gv n 5 0 * 1048576 = s at hS
  have c0 : pc s 0 7 = 59 := by unfold pc; simp only [Nat.reducePow]; omega
  have cf : pc s 12 3 = 0 := by unfold pc; simp only [Nat.reducePow]; omega
  have cg : pc s 25 7 = 0 := by unfold pc; simp only [Nat.reducePow]; omega
  have c1 : pc s 7 5 = gv d 5 0 := by unfold pc; simp only [Nat.reducePow]; omega
  have c9 : pc s 15 5 = gv e 5 0 := by unfold pc; simp only [Nat.reducePow]; omega
  have c2 : pc s 20 5 = gv n 5 0 := by unfold pc; simp only [Nat.reducePow]; omega
  have v0 := gv_reg d dd
  have v9 := gv_reg e ee
  have v1 := gv_reg n nn
  have hop : opW s = 45 := by unfold opW; rw [c0, cf, cg]; rfl
  have hfm : fmW s = .rg := by unfold fmW; rw [c0]; rfl
  rw [enc_dec hS (by rw [hop]; decide), dec_parts hop hfm (by decide)]
  have e : parts 45 s .rg = ⟨45, d, e, n, 0, 0, 4⟩ := by
    show (⟨45, tk s 7 5 0, tk s 15 5 0, tk s 20 5 0, 0, 0, 4⟩ : Ins) = _
    rw [tk_zero, tk_zero, tk_zero, c1, c9, c2, v0, v9, v1]
  rw [e]
  exact decide_eq_true rfl

theorem so88 : encB ⟨88, 0, 0, 0, 0, 0, 4⟩ = true := by decide +kernel
end Go.Proofs.YtfkecgidjicidaaDoor
