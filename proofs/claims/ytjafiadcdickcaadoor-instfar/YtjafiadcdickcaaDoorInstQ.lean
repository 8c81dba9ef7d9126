/-
  How far jumps, branches, loads, stores, upper immediates and shifts may go: when an instruction of these is sound.
-/
import Derived.Test.YtjafiadcdickcaaDoorInstP
set_option linter.unusedVariables false
set_option linter.unusedSimpArgs false
namespace Go.Proofs.YtjafiadcdickcaaDoor
open Go.RowKit
theorem gv_int (n : Int) (m k : Nat) : ((gv n m k : Nat) : Int) = n / 2 ^ k % 2 ^ m := by
  unfold gv
  exact Int.toNat_of_nonneg (Int.emod_nonneg _ (Int.ne_of_gt (pow_pos' m)))
theorem gv_reg (d : Int) (h : 0 ≤ d ∧ d < 32) : ((gv d 5 0 : Nat) : Int) = d := by
  rw [gv_int]; simp only [Int.reducePow]; omega
theorem enc_dec {i : Ins} {s : Nat} (hS : encS i = s) (ho : opW s ≠ 0) : encB i = decide (dec s = i) := by
  unfold encB; rw [hS]
  simp [ho]
theorem dec_parts {s : Nat} {o : Int} {fm : Fm} (hop : opW s = o) (hfm : fmW s = fm) (ho : o ≠ 0) : dec s = parts o s fm := by
  unfold dec; rw [hop, hfm, if_neg ho]
theorem decJ (m : Int) : ((m / 524288 % 2 * 256 + m / 2048 % 256) * 2 + m / 1024 % 2) * 1024 + m % 1024 = m % 1048576 := by omega
theorem decB (m : Int) : ((m / 2048 % 2 * 2 + m / 1024 % 2) * 64 + m / 16 % 64) * 16 + m % 16 = m % 4096 := by omega
theorem decS (n : Int) : n / 32 % 128 * 32 + n % 32 = n % 4096 := by omega
theorem sumJ (n : Int) : ((n / 1048576 % 2 * 256 + n / 4096 % 256) * 2 + n / 2048 % 2) * 1024 + n / 2 % 1024 = n / 2 % 1048576 := by
  have h1 : n / 1048576 = n / 2 / 524288 := by omega
  have h2 : n / 4096 = n / 2 / 2048 := by omega
  have h3 : n / 2048 = n / 2 / 1024 := by omega
  rw [h1, h2, h3]; exact decJ (n / 2)
theorem sumB (n : Int) : ((n / 4096 % 2 * 2 + n / 2048 % 2) * 64 + n / 32 % 64) * 16 + n / 2 % 16 = n / 2 % 4096 := by
  have h1 : n / 4096 = n / 2 / 2048 := by omega
  have h2 : n / 2048 = n / 2 / 1024 := by omega
  have h3 : n / 32 = n / 2 / 16 := by omega
  rw [h1, h2, h3]; exact decB (n / 2)
theorem iffJ (n : Int) : low (n / 2 % 1048576) 20 * 2 = n ↔ n % 2 = 0 ∧ -1048576 ≤ n ∧ n < 1048576 := by rw [low20']; omega
theorem iffB (n : Int) : low (n / 2 % 4096) 12 * 2 = n ↔ n % 2 = 0 ∧ -4096 ≤ n ∧ n < 4096 := by rw [low12']; omega
theorem iffI (n : Int) : low (n % 4096) 12 = n ↔ -2048 ≤ n ∧ n ≤ 2047 := by rw [low12']; omega
theorem iffU (n : Int) : low (n / 4096 % 1048576) 20 * 4096 = n ↔ n % 4096 = 0 ∧ -2147483648 ≤ n ∧ n < 2147483648 := by rw [low20']; omega
theorem iff6 (n : Int) : n % 64 = n ↔ 0 ≤ n ∧ n < 64 := by omega
theorem iff5 (n : Int) : n % 32 = n ↔ 0 ≤ n ∧ n < 32 := by omega
theorem ins_im {o d e f x n : Int} {q : Prop} [Decidable q] (h : x = n ↔ q) : decide ((⟨o, d, e, f, x, 0, 4⟩ : Ins) = ⟨o, d, e, f, n, 0, 4⟩) = decide q := by
  apply decide_eq_decide.2
  rw [← h]
  constructor
  · intro h; injection h
  · intro h; rw [h]

theorem farA (n d e : Int) (dd : 0 ≤ d ∧ d < 32) (ee : 0 ≤ e ∧ e < 32) : encB ⟨3, d, 0, 0, n, 0, 4⟩ = decide (n % 2 = 0 ∧ -1048576 ≤ n ∧ n < 1048576) := by
  have hS : encS ⟨3, d, 0, 0, n, 0, 4⟩ = 111 + gv d 5 0 * 128 + gv n 1 20 * 2147483648 + gv n 8 12 * 4096 + gv n 1 11 * 1048576 + gv n 10 1 * 2097152 := by
    unfold encS; rw [key_3.1, key_3.2]; exact lay_jp _ 111 (by decide)
  have g0 : gv d 5 0 < 32 := gv_lt d 5 0
  have g1 : gv n 1 20 < 2 := gv_lt n 1 20
  have g2 : gv n 8 12 < 256 := gv_lt n 8 12
  have g3 : gv n 1 11 < 2 := gv_lt n 1 11
  have g4 : gv n 10 1 < 1024 := gv_lt n 10 1
  generalize hs : 111 + gv d 5 0 * 128 + gv n 1 20 * 2147483648 + gv n 8 12 * 4096 + gv n 1 11 * 1048576 + gv n 10 1 * 2097152 = s at hS
  have c0 : pc s 0 7 = 111 := by unfold pc; simp only [Nat.reducePow]; omega
  have c1 : pc s 7 5 = gv d 5 0 := by unfold pc; simp only [Nat.reducePow]; omega
  have c2 : pc s 31 1 = gv n 1 20 := by unfold pc; simp only [Nat.reducePow]; omega
  have c3 : pc s 12 8 = gv n 8 12 := by unfold pc; simp only [Nat.reducePow]; omega
  have c4 : pc s 20 1 = gv n 1 11 := by unfold pc; simp only [Nat.reducePow]; omega
  have c5 : pc s 21 10 = gv n 10 1 := by unfold pc; simp only [Nat.reducePow]; omega
  have v0 := gv_reg d dd
  have v1 := gv_int n 1 20
  have v2 := gv_int n 8 12
  have v3 := gv_int n 1 11
  have v4 := gv_int n 10 1
  simp only [Int.reducePow] at v1 v2 v3 v4
  have hop : opW s = 3 := by unfold opW; rw [c0]; rfl
  have hfm : fmW s = .jp := by unfold fmW; rw [c0]; rfl
  rw [enc_dec hS (by rw [hop]; decide), dec_parts hop hfm (by decide)]
  have e : parts 3 s .jp = ⟨3, d, 0, 0, low (((n / 1048576 % 2 * 256 + n / 4096 % 256) * 2 + n / 2048 % 2) * 1024 + n / 2 % 1024) 20 * 2, 0, 4⟩ := by
    show (⟨3, tk s 7 5 0, 0, 0, low _ 21, 0, 4⟩ : Ins) = _
    rw [imJ, tk_zero, c1, c2, c3, c4, c5, v0, v1, v2, v3, v4]
  rw [e, sumJ]
  exact ins_im (iffJ n)

theorem farB (n d e : Int) (dd : 0 ≤ d ∧ d < 32) (ee : 0 ≤ e ∧ e < 32) : encB ⟨6, 0, d, e, n, 0, 4⟩ = decide (n % 2 = 0 ∧ -4096 ≤ n ∧ n < 4096) := by
  have hk := key_T1 1 (by decide) (by decide)
  have hk1 : keyW 6 = 99 + 1 * 4096 := hk.1
  have hS : encS ⟨6, 0, d, e, n, 0, 4⟩ = 99 + 1 * 4096 + gv d 5 0 * 32768 + gv e 5 0 * 1048576 + gv n 1 12 * 2147483648 + gv n 1 11 * 128 + gv n 6 5 * 33554432 + gv n 4 1 * 256 := by
    unfold encS; rw [hk1, hk.2]; exact lay_br _ 99 1 (by decide) (by decide)
  have g0 : gv d 5 0 < 32 := gv_lt d 5 0
  have g9 : gv e 5 0 < 32 := gv_lt e 5 0
  have g1 : gv n 1 12 < 2 := gv_lt n 1 12
  have g2 : gv n 1 11 < 2 := gv_lt n 1 11
  have g3 : gv n 6 5 < 64 := gv_lt n 6 5
  have g4 : gv n 4 1 < 16 := gv_lt n 4 1
  generalize hs : 99 + 1 * 4096 + gv d 5 0 * 32768 + gv e 5 0 * 1048576 + gv n 1 12 * 2147483648 + gv n 1 11 * 128 + gv n 6 5 * 33554432 + gv n 4 1 * 256 = s at hS
  have c0 : pc s 0 7 = 99 := by unfold pc; simp only [Nat.reducePow]; omega
  have cf : pc s 12 3 = 1 := by unfold pc; simp only [Nat.reducePow]; omega
  have c1 : pc s 15 5 = gv d 5 0 := by unfold pc; simp only [Nat.reducePow]; omega
  have c9 : pc s 20 5 = gv e 5 0 := by unfold pc; simp only [Nat.reducePow]; omega
  have c2 : pc s 31 1 = gv n 1 12 := by unfold pc; simp only [Nat.reducePow]; omega
  have c3 : pc s 7 1 = gv n 1 11 := by unfold pc; simp only [Nat.reducePow]; omega
  have c4 : pc s 25 6 = gv n 6 5 := by unfold pc; simp only [Nat.reducePow]; omega
  have c5 : pc s 8 4 = gv n 4 1 := by unfold pc; simp only [Nat.reducePow]; omega
  have v0 := gv_reg d dd
  have v9 := gv_reg e ee
  have v1 := gv_int n 1 12
  have v2 := gv_int n 1 11
  have v3 := gv_int n 6 5
  have v4 := gv_int n 4 1
  simp only [Int.reducePow] at v1 v2 v3 v4
  have hop : opW s = 6 := by unfold opW; rw [c0, cf]; rfl
  have hfm : fmW s = .br := by unfold fmW; rw [c0]; rfl
  rw [enc_dec hS (by rw [hop]; decide), dec_parts hop hfm (by decide)]
  have e : parts 6 s .br = ⟨6, 0, d, e, low (((n / 4096 % 2 * 2 + n / 2048 % 2) * 64 + n / 32 % 64) * 16 + n / 2 % 16) 12 * 2, 0, 4⟩ := by
    show (⟨6, 0, tk s 15 5 0, tk s 20 5 0, low _ 13, 0, 4⟩ : Ins) = _
    rw [imB, tk_zero, tk_zero, c1, c9, c2, c3, c4, c5, v0, v9, v1, v2, v3, v4]
  rw [e, sumB]
  exact ins_im (iffB n)

theorem farC (n d e : Int) (dd : 0 ≤ d ∧ d < 32) (ee : 0 ≤ e ∧ e < 32) : encB ⟨14, d, e, 0, n, 0, 4⟩ = decide (-2048 ≤ n ∧ n ≤ 2047) := by
  have hk := key_T2 3 (by decide) (by decide)
  have hk1 : keyW 14 = 3 + 3 * 4096 := hk.1
  have hS : encS ⟨14, d, e, 0, n, 0, 4⟩ = 3 + 3 * 4096 + gv d 5 0 * 128 + gv e 5 0 * 32768 + gv n 12 0 * 1048576 := by
    unfold encS; rw [hk1, hk.2]; exact lay_im _ 3 3 (by decide) (by decide)
  have g0 : gv d 5 0 < 32 := gv_lt d 5 0
  have g9 : gv e 5 0 < 32 := gv_lt e 5 0
  have g1 : gv n 12 0 < 4096 := gv_lt n 12 0
  generalize hs : 3 + 3 * 4096 + gv d 5 0 * 128 + gv e 5 0 * 32768 + gv n 12 0 * 1048576 = s at hS
  have c0 : pc s 0 7 = 3 := by unfold pc; simp only [Nat.reducePow]; omega
  have cf : pc s 12 3 = 3 := by unfold pc; simp only [Nat.reducePow]; omega
  have c1 : pc s 7 5 = gv d 5 0 := by unfold pc; simp only [Nat.reducePow]; omega
  have c9 : pc s 15 5 = gv e 5 0 := by unfold pc; simp only [Nat.reducePow]; omega
  have c2 : pc s 20 12 = gv n 12 0 := by unfold pc; simp only [Nat.reducePow]; omega
  have v0 := gv_reg d dd
  have v9 := gv_reg e ee
  have v1 := gv_int n 12 0
  simp only [Int.reducePow, Int.ediv_one] at v1
  have hop : opW s = 14 := by unfold opW; rw [c0, cf]; rfl
  have hfm : fmW s = .im := by unfold fmW; rw [c0]; rfl
  rw [enc_dec hS (by rw [hop]; decide), dec_parts hop hfm (by decide)]
  have e : parts 14 s .im = ⟨14, d, e, 0, low (n % 4096) 12, 0, 4⟩ := by
    show (⟨14, tk s 7 5 0, tk s 15 5 0, 0, low (tk s 20 12 0) 12, 0, 4⟩ : Ins) = _
    rw [tk_zero, tk_zero, tk_zero, c1, c9, c2, v0, v9, v1]
  rw [e]
  exact ins_im (iffI n)

theorem farE (n d e : Int) (dd : 0 ≤ d ∧ d < 32) (ee : 0 ≤ e ∧ e < 32) : encB ⟨18, 0, d, e, n, 0, 4⟩ = decide (-2048 ≤ n ∧ n ≤ 2047) := by
  have hk := key_T3 0 (by decide) (by decide)
  have hk1 : keyW 18 = 35 + 0 * 4096 := hk.1
  have hS : encS ⟨18, 0, d, e, n, 0, 4⟩ = 35 + 0 * 4096 + gv d 5 0 * 32768 + gv e 5 0 * 1048576 + gv n 7 5 * 33554432 + gv n 5 0 * 128 := by
    unfold encS; rw [hk1, hk.2]; exact lay_st _ 35 0 (by decide) (by decide)
  have g0 : gv d 5 0 < 32 := gv_lt d 5 0
  have g9 : gv e 5 0 < 32 := gv_lt e 5 0
  have g1 : gv n 7 5 < 128 := gv_lt n 7 5
  have g2 : gv n 5 0 < 32 := gv_lt n 5 0
  generalize hs : 35 + 0 * 4096 + gv d 5 0 * 32768 + gv e 5 0 * 1048576 + gv n 7 5 * 33554432 + gv n 5 0 * 128 = s at hS
  have c0 : pc s 0 7 = 35 := by unfold pc; simp only [Nat.reducePow]; omega
  have cf : pc s 12 3 = 0 := by unfold pc; simp only [Nat.reducePow]; omega
  have c1 : pc s 15 5 = gv d 5 0 := by unfold pc; simp only [Nat.reducePow]; omega
  have c9 : pc s 20 5 = gv e 5 0 := by unfold pc; simp only [Nat.reducePow]; omega
  have c2 : pc s 25 7 = gv n 7 5 := by unfold pc; simp only [Nat.reducePow]; omega
  have c3 : pc s 7 5 = gv n 5 0 := by unfold pc; simp only [Nat.reducePow]; omega
  have v0 := gv_reg d dd
  have v9 := gv_reg e ee
  have v1 := gv_int n 7 5
  have v2 := gv_int n 5 0
  simp only [Int.reducePow, Int.ediv_one] at v1 v2
  have hop : opW s = 18 := by unfold opW; rw [c0, cf]; rfl
  have hfm : fmW s = .st := by unfold fmW; rw [c0]; rfl
  rw [enc_dec hS (by rw [hop]; decide), dec_parts hop hfm (by decide)]
  have e : parts 18 s .st = ⟨18, 0, d, e, low (n / 32 % 128 * 32 + n % 32) 12, 0, 4⟩ := by
    show (⟨18, 0, tk s 15 5 0, tk s 20 5 0, low _ 12, 0, 4⟩ : Ins) = _
    rw [imS, tk_zero, tk_zero, c1, c9, c2, c3, v0, v9, v1, v2]
  rw [e, decS]
  exact ins_im (iffI n)

theorem farF (n d e : Int) (dd : 0 ≤ d ∧ d < 32) (ee : 0 ≤ e ∧ e < 32) : encB ⟨1, d, 0, 0, n, 0, 4⟩ = decide (n % 4096 = 0 ∧ -2147483648 ≤ n ∧ n < 2147483648) := by
  have hS : encS ⟨1, d, 0, 0, n, 0, 4⟩ = 55 + gv d 5 0 * 128 + gv n 20 12 * 4096 := by
    unfold encS; rw [key_1.1, key_1.2]; exact lay_up _ 55 (by decide)
  have g0 : gv d 5 0 < 32 := gv_lt d 5 0
  have g1 : gv n 20 12 < 1048576 := gv_lt n 20 12
  generalize hs : 55 + gv d 5 0 * 128 + gv n 20 12 * 4096 = s at hS
  have c0 : pc s 0 7 = 55 := by unfold pc; simp only [Nat.reducePow]; omega
  have c1 : pc s 7 5 = gv d 5 0 := by unfold pc; simp only [Nat.reducePow]; omega
  have c2 : pc s 12 20 = gv n 20 12 := by unfold pc; simp only [Nat.reducePow]; omega
  have v0 := gv_reg d dd
  have v1 := gv_int n 20 12
  simp only [Int.reducePow] at v1
  have hop : opW s = 1 := by unfold opW; rw [c0]; rfl
  have hfm : fmW s = .up := by unfold fmW; rw [c0]; rfl
  rw [enc_dec hS (by rw [hop]; decide), dec_parts hop hfm (by decide)]
  have e : parts 1 s .up = ⟨1, d, 0, 0, low (n / 4096 % 1048576) 20 * 4096, 0, 4⟩ := by
    show (⟨1, tk s 7 5 0, 0, 0, low (tk s 12 20 12) 32, 0, 4⟩ : Ins) = _
    rw [imU, tk_zero, c1, c2, v0, v1]
  rw [e]
  exact ins_im (iffU n)

theorem farG (n d e : Int) (dd : 0 ≤ d ∧ d < 32) (ee : 0 ≤ e ∧ e < 32) : encB ⟨30, d, e, 0, n, 0, 4⟩ = decide (0 ≤ n ∧ n < 64) := by
  have hk := key_T13 5 (by decide) (by decide)
  have hk1 : keyW 30 = 19 + 5 * 4096 + 16 * 67108864 := hk.1
  have hS : encS ⟨30, d, e, 0, n, 0, 4⟩ = 19 + 5 * 4096 + 16 * 67108864 + gv d 5 0 * 128 + gv e 5 0 * 32768 + gv n 6 0 * 1048576 := by
    unfold encS; rw [hk1, hk.2]; exact lay_sh6 _ 19 5 16 (by decide) (by decide) (by decide)
  have g0 : gv d 5 0 < 32 := gv_lt d 5 0
  have g9 : gv e 5 0 < 32 := gv_lt e 5 0
  have g1 : gv n 6 0 < 64 := gv_lt n 6 0
  generalize hs : 19 + 5 * 4096 + 16 * 67108864 + gv d 5 0 * 128 + gv e 5 0 * 32768 + gv n 6 0 * 1048576 = s at hS
  have c0 : pc s 0 7 = 19 := by unfold pc; simp only [Nat.reducePow]; omega
  have cf : pc s 12 3 = 5 := by unfold pc; simp only [Nat.reducePow]; omega
  have cg : pc s 25 7 / 2 * 2 = 32 := by unfold pc; simp only [Nat.reducePow]; omega
  have c1 : pc s 7 5 = gv d 5 0 := by unfold pc; simp only [Nat.reducePow]; omega
  have c9 : pc s 15 5 = gv e 5 0 := by unfold pc; simp only [Nat.reducePow]; omega
  have c2 : pc s 20 6 = gv n 6 0 := by unfold pc; simp only [Nat.reducePow]; omega
  have v0 := gv_reg d dd
  have v9 := gv_reg e ee
  have v1 := gv_int n 6 0
  simp only [Int.reducePow, Int.ediv_one] at v1
  have hop : opW s = 30 := by
    have e1 : opW s = pick3 (pc s 25 7 / 2 * 2) T12 T13 Z8 5 := by unfold opW; rw [c0, cf]; rfl
    rw [e1, cg]; rfl
  have hfm : fmW s = .sh 6 := by unfold fmW; rw [c0, cf]; rfl
  rw [enc_dec hS (by rw [hop]; decide), dec_parts hop hfm (by decide)]
  have e : parts 30 s (.sh 6) = ⟨30, d, e, 0, n % 64, 0, 4⟩ := by
    show (⟨30, tk s 7 5 0, tk s 15 5 0, 0, tk s 20 6 0, 0, 4⟩ : Ins) = _
    rw [tk_zero, tk_zero, tk_zero, c1, c9, c2, v0, v9, v1]
  rw [e]
  exact ins_im (iff6 n)

theorem farH (n d e : Int) (dd : 0 ≤ d ∧ d < 32) (ee : 0 ≤ e ∧ e < 32) : encB ⟨44, d, e, 0, n, 0, 4⟩ = decide (0 ≤ n ∧ n < 32) := by
  have hk := key_T16 5 (by decide) (by decide)
  have hk1 : keyW 44 = 27 + 5 * 4096 + 32 * 33554432 := hk.1
  have hS : encS ⟨44, d, e, 0, n, 0, 4⟩ = 27 + 5 * 4096 + 32 * 33554432 + gv d 5 0 * 128 + gv e 5 0 * 32768 + gv n 5 0 * 1048576 := by
    unfold encS; rw [hk1, hk.2]; exact lay_sh5 _ 27 5 32 (by decide) (by decide) (by decide)
  have g0 : gv d 5 0 < 32 := gv_lt d 5 0
  have g9 : gv e 5 0 < 32 := gv_lt e 5 0
  have g1 : gv n 5 0 < 32 := gv_lt n 5 0
  generalize hs : 27 + 5 * 4096 + 32 * 33554432 + gv d 5 0 * 128 + gv e 5 0 * 32768 + gv n 5 0 * 1048576 = s at hS
  have c0 : pc s 0 7 = 27 := by unfold pc; simp only [Nat.reducePow]; omega
  have cf : pc s 12 3 = 5 := by unfold pc; simp only [Nat.reducePow]; omega
  have cg : pc s 25 7 = 32 := by unfold pc; simp only [Nat.reducePow]; omega
  have c1 : pc s 7 5 = gv d 5 0 := by unfold pc; simp only [Nat.reducePow]; omega
  have c9 : pc s 15 5 = gv e 5 0 := by unfold pc; simp only [Nat.reducePow]; omega
  have c2 : pc s 20 5 = gv n 5 0 := by unfold pc; simp only [Nat.reducePow]; omega
  have v0 := gv_reg d dd
  have v9 := gv_reg e ee
  have v1 := gv_int n 5 0
  simp only [Int.reducePow, Int.ediv_one] at v1
  have hop : opW s = 44 := by unfold opW; rw [c0, cf, cg]; rfl
  have hfm : fmW s = .sh 5 := by unfold fmW; rw [c0, cf]; rfl
  rw [enc_dec hS (by rw [hop]; decide), dec_parts hop hfm (by decide)]
  have e : parts 44 s (.sh 5) = ⟨44, d, e, 0, n % 32, 0, 4⟩ := by
    show (⟨44, tk s 7 5 0, tk s 15 5 0, 0, tk s 20 5 0, 0, 4⟩ : Ins) = _
    rw [tk_zero, tk_zero, tk_zero, c1, c9, c2, v0, v9, v1]
  rw [e]
  exact ins_im (iff5 n)
end Go.Proofs.YtjafiadcdickcaaDoor
