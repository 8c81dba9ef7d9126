/-
  A short instruction is a sound one of 32 bits, but for its size: plain facts.
-/
import Derived.Test.YtfkecgidjicidaaDoorSoundQ
import Derived.Test.YtfkecgidjicidaaDoorFarC
set_option linter.unusedVariables false
set_option linter.unusedSimpArgs false
namespace Go.Proofs.YtfkecgidjicidaaDoor
open Go.RowKit
def SoOk (i : Sh) : Prop := i.op ≠ 0 → encB ⟨i.op, i.rd, i.r1, i.r2, i.im, 0, 4⟩ = true
theorem so_of {op rd r1 r2 im : Int} (h : op ≠ 0 → encB ⟨op, rd, r1, r2, im, 0, 4⟩ = true) : SoOk ⟨op, rd, r1, r2, im⟩ := h
theorem so_zero (i : Sh) (h : i.op = 0) : SoOk i := fun h0 => absurd h h0
theorem low6c (n : Int) : low n 6 = (n + 32) % 64 - 32 := rfl
theorem low10c (n : Int) : low n 10 = (n + 512) % 1024 - 512 := rfl
theorem frame_in (s : Nat) : frameN s < 1024 := by
  have h1 : pc s 7 4 < 16 := pc_lt s 7 4
  have h2 : pc s 11 2 < 4 := pc_lt s 11 2
  have h3 : pc s 5 1 < 2 := pc_lt s 5 1
  have h4 : pc s 6 1 < 2 := pc_lt s 6 1
  unfold frameN; omega
theorem shift_in (s : Nat) : shiftN s < 64 := by
  have h1 : pc s 12 1 < 2 := pc_lt s 12 1
  have h2 : pc s 2 5 < 32 := pc_lt s 2 5
  unfold shiftN; omega
theorem so_rec (op d e n : Int) (ho : op = 32 ∨ op = 36 ∨ op = 39 ∨ op = 40 ∨ op = 46 ∨ op = 45) (dd : 0 ≤ d ∧ d < 32) (ee : 0 ≤ e ∧ e < 32) (nn : 0 ≤ n ∧ n < 32) : encB ⟨op, d, e, n, 0, 0, 4⟩ = true := by
  rcases ho with rfl | rfl | rfl | rfl | rfl | rfl
  · exact so32 n d e dd ee nn
  · exact so36 n d e dd ee nn
  · exact so39 n d e dd ee nn
  · exact so40 n d e dd ee nn
  · exact so46 n d e dd ee nn
  · exact so45 n d e dd ee nn
theorem rec_ops : ∀ n, n < 8 → recT.getD n 0 ≠ 0 → (recT.getD n 0 = 32 ∨ recT.getD n 0 = 36 ∨ recT.getD n 0 = 39 ∨ recT.getD n 0 = 40 ∨ recT.getD n 0 = 46 ∨ recT.getD n 0 = 45) := by decide
theorem sound_ok (s : Nat) : SoOk (ex s) := by
  have a1 : pc s 2 3 < 8 := pc_lt s 2 3
  have a2 : pc s 7 3 < 8 := pc_lt s 7 3
  have a3 : pc s 7 5 < 32 := pc_lt s 7 5
  have a4 : pc s 2 5 < 32 := pc_lt s 2 5
  have hf := frame_in s
  have hh := shift_in s
  have w1 := words_ok s
  have w2 := doubles_ok s
  have w3 := loadW_ok s
  have w4 := loadD_ok s
  have w5 := storeW_ok s
  have w6 := storeD_ok s
  have l6 := low6c (shiftN s : Nat)
  have l10 := low10c (stackN s : Nat)
  have l12 := low12c (jumpN s : Nat)
  have l9 := low9c (branchN s : Nat)
  have hj : jumpN s % 2 = 0 := by unfold jumpN; omega
  have hb : branchN s % 2 = 0 := by unfold branchN; omega
  unfold ex
  split
  · split
    · exact so_zero _ rfl
    · refine so_of fun _ => (so22 _ _ _ (by omega) (by omega)).trans (decide_eq_true (by omega))
  · refine so_of fun _ => (so13 _ _ _ (by omega) (by omega)).trans (decide_eq_true (by omega))
  · refine so_of fun _ => (so14 _ _ _ (by omega) (by omega)).trans (decide_eq_true (by omega))
  · refine so_of fun _ => (so20 _ _ _ (by omega) (by omega)).trans (decide_eq_true (by omega))
  · refine so_of fun _ => (so21 _ _ _ (by omega) (by omega)).trans (decide_eq_true (by omega))
  · refine so_of fun _ => (so22 _ _ _ (by omega) (by omega)).trans (decide_eq_true (by omega))
  · split
    · exact so_zero _ rfl
    · refine so_of fun _ => (so41 _ _ _ (by omega) (by omega)).trans (decide_eq_true (by omega))
  · refine so_of fun _ => (so22 _ _ _ (by omega) (by omega)).trans (decide_eq_true (by omega))
  · unfold exUpper
    split
    · exact so_zero _ rfl
    · split
      · refine so_of fun _ => (so22 _ _ _ (by omega) (by omega)).trans (decide_eq_true (by omega))
      · refine so_of fun _ => (so1 _ _ 0 (by omega) (by omega)).trans (decide_eq_true (by omega))
  · unfold exReckon
    split
    · refine so_of fun _ => (so29 _ _ _ (by omega) (by omega)).trans (decide_eq_true (by omega))
    split
    · refine so_of fun _ => (so30 _ _ _ (by omega) (by omega)).trans (decide_eq_true (by omega))
    split
    · refine so_of fun _ => (so27 _ _ _ (by omega) (by omega)).trans (decide_eq_true (by omega))
    refine so_of fun h0 => so_rec _ _ _ _ (rec_ops (reckN s) (reck_lt s) h0) (by omega) (by omega) (by omega)
  · refine so_of fun _ => (so3 _ _ 0 (by omega) (by omega)).trans (decide_eq_true (by omega))
  · refine so_of fun _ => (so5 _ _ _ (by omega) (by omega)).trans (decide_eq_true (by omega))
  · refine so_of fun _ => (so6 _ _ _ (by omega) (by omega)).trans (decide_eq_true (by omega))
  · refine so_of fun _ => (so28 _ _ _ (by omega) (by omega)).trans (decide_eq_true (by omega))
  · split
    · exact so_zero _ rfl
    · refine so_of fun _ => (so13 _ _ _ (by omega) (by omega)).trans (decide_eq_true (by omega))
  · split
    · exact so_zero _ rfl
    · refine so_of fun _ => (so14 _ _ _ (by omega) (by omega)).trans (decide_eq_true (by omega))
  · unfold exMove
    split
    · split
      · split
        · refine so_of fun _ => so88
        · exact so_zero _ rfl
      · split
        · refine so_of fun _ => (so4 _ _ _ (by omega) (by omega)).trans (decide_eq_true (by omega))
        · refine so_of fun _ => (so4 _ _ _ (by omega) (by omega)).trans (decide_eq_true (by omega))
    · split
      · refine so_of fun _ => so31 _ _ _ (by omega) (by omega) (by omega)
      · refine so_of fun _ => so31 _ _ _ (by omega) (by omega) (by omega)
  · refine so_of fun _ => (so20 _ _ _ (by omega) (by omega)).trans (decide_eq_true (by omega))
  · refine so_of fun _ => (so21 _ _ _ (by omega) (by omega)).trans (decide_eq_true (by omega))
  · exact so_zero _ rfl
end Go.Proofs.YtfkecgidjicidaaDoor
