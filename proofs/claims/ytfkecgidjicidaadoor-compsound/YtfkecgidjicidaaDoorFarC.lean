/-
  Plain facts: how far short jumps, branches, loads and stores go.
-/
import Derived.Test.YtfkecgidjicidaaDoorCompD
set_option linter.unusedVariables false
set_option linter.unusedSimpArgs false
namespace Go.Proofs.YtfkecgidjicidaaDoor
open Go.RowKit
def FarOk (i : Sh) : Prop := (i.op = 3 → i.im % 2 = 0 ∧ -2048 ≤ i.im ∧ i.im < 2048) ∧ ((i.op = 5 ∨ i.op = 6) → i.im % 2 = 0 ∧ -256 ≤ i.im ∧ i.im < 256 ∧ 8 ≤ i.r1 ∧ i.r1 < 16) ∧
  ((i.op = 13 ∨ i.op = 20) → i.im % 4 = 0 ∧ 0 ≤ i.im ∧ i.im < 256) ∧ ((i.op = 14 ∨ i.op = 21) → i.im % 8 = 0 ∧ 0 ≤ i.im ∧ i.im < 512) ∧ (0 ≤ i.rd ∧ i.rd < 32)
theorem low12c (n : Int) : low n 12 = (n + 2048) % 4096 - 2048 := rfl
theorem low9c (n : Int) : low n 9 = (n + 256) % 512 - 256 := rfl
theorem farP (op rd r1 r2 im : Int) (h : (op ≠ 3 ∧ op ≠ 5 ∧ op ≠ 6 ∧ op ≠ 13 ∧ op ≠ 20 ∧ op ≠ 14 ∧ op ≠ 21)) (h0 : 0 ≤ rd) (h1 : rd < 32) : FarOk ⟨op, rd, r1, r2, im⟩ := by
  unfold FarOk; dsimp only; omega
theorem rec_in : ∀ n, n < 8 → recT.getD n 0 = 0 ∨ 32 ≤ recT.getD n 0 := by decide
theorem far_jump (s : Nat) : FarOk ⟨3, 0, 0, 0, low (jumpN s : Nat) 12⟩ := by
  have h : jumpN s % 2 = 0 := by unfold jumpN; omega
  unfold FarOk; dsimp only; rw [low12c]; omega
theorem far_branch (s : Nat) (op : Int) (ho : op = 5 ∨ op = 6) : FarOk ⟨op, 0, (pc s 7 3 : Nat) + 8, 0, low (branchN s : Nat) 9⟩ := by
  have h : branchN s % 2 = 0 := by unfold branchN; omega
  have h1 : pc s 7 3 < 8 := pc_lt s 7 3
  unfold FarOk; dsimp only; rw [low9c]; omega
theorem far_w (op rd r1 r2 : Int) (n : Nat) (ho : op = 13 ∨ op = 20) (h0 : 0 ≤ rd) (h1 : rd < 32) (hn : n % 4 = 0) (hb : n < 256) : FarOk ⟨op, rd, r1, r2, (n : Nat)⟩ := by
  unfold FarOk; dsimp only; omega
theorem far_d (op rd r1 r2 : Int) (n : Nat) (ho : op = 14 ∨ op = 21) (h0 : 0 ≤ rd) (h1 : rd < 32) (hn : n % 8 = 0) (hb : n < 512) : FarOk ⟨op, rd, r1, r2, (n : Nat)⟩ := by
  unfold FarOk; dsimp only; omega
theorem words_ok (s : Nat) : wordsN s % 4 = 0 ∧ wordsN s < 256 := by
  have h1 : pc s 5 1 < 2 := pc_lt s 5 1
  have h2 : pc s 10 3 < 8 := pc_lt s 10 3
  have h3 : pc s 6 1 < 2 := pc_lt s 6 1
  unfold wordsN; omega
theorem doubles_ok (s : Nat) : doublesN s % 8 = 0 ∧ doublesN s < 512 := by
  have h1 : pc s 5 2 < 4 := pc_lt s 5 2
  have h2 : pc s 10 3 < 8 := pc_lt s 10 3
  unfold doublesN; omega
theorem loadW_ok (s : Nat) : loadW s % 4 = 0 ∧ loadW s < 256 := by
  have h1 : pc s 2 2 < 4 := pc_lt s 2 2
  have h2 : pc s 12 1 < 2 := pc_lt s 12 1
  have h3 : pc s 4 3 < 8 := pc_lt s 4 3
  unfold loadW; omega
theorem loadD_ok (s : Nat) : loadD s % 8 = 0 ∧ loadD s < 512 := by
  have h1 : pc s 2 3 < 8 := pc_lt s 2 3
  have h2 : pc s 12 1 < 2 := pc_lt s 12 1
  have h3 : pc s 5 2 < 4 := pc_lt s 5 2
  unfold loadD; omega
theorem storeW_ok (s : Nat) : storeW s % 4 = 0 ∧ storeW s < 256 := by
  have h1 : pc s 7 2 < 4 := pc_lt s 7 2
  have h2 : pc s 9 4 < 16 := pc_lt s 9 4
  unfold storeW; omega
theorem storeD_ok (s : Nat) : storeD s % 8 = 0 ∧ storeD s < 512 := by
  have h1 : pc s 7 3 < 8 := pc_lt s 7 3
  have h2 : pc s 10 3 < 8 := pc_lt s 10 3
  unfold storeD; omega
theorem reck_lt (s : Nat) : reckN s < 8 := by
  have h1 : pc s 12 1 < 2 := pc_lt s 12 1
  have h2 : pc s 5 2 < 4 := pc_lt s 5 2
  unfold reckN; omega
theorem far_ok (s : Nat) : FarOk (ex s) := by
  have a1 : pc s 2 3 < 8 := pc_lt s 2 3
  have a2 : pc s 7 3 < 8 := pc_lt s 7 3
  have a3 : pc s 7 5 < 32 := pc_lt s 7 5
  have hz : FarOk Sh.zero := farP 0 0 0 0 0 (by omega) (by omega) (by omega)
  unfold ex
  split
  · split
    · exact hz
    · exact farP _ _ _ _ _ (by omega) (by omega) (by omega)
  · exact far_w _ _ _ _ _ (by omega) (by omega) (by omega) (words_ok s).1 (words_ok s).2
  · exact far_d _ _ _ _ _ (by omega) (by omega) (by omega) (doubles_ok s).1 (doubles_ok s).2
  · exact far_w _ _ _ _ _ (by omega) (by omega) (by omega) (words_ok s).1 (words_ok s).2
  · exact far_d _ _ _ _ _ (by omega) (by omega) (by omega) (doubles_ok s).1 (doubles_ok s).2
  · exact farP _ _ _ _ _ (by omega) (by omega) (by omega)
  · split
    · exact hz
    · exact farP _ _ _ _ _ (by omega) (by omega) (by omega)
  · exact farP _ _ _ _ _ (by omega) (by omega) (by omega)
  · unfold exUpper
    split
    · exact hz
    · split
      · exact farP _ _ _ _ _ (by omega) (by omega) (by omega)
      · exact farP _ _ _ _ _ (by omega) (by omega) (by omega)
  · unfold exReckon
    split
    · exact farP _ _ _ _ _ (by omega) (by omega) (by omega)
    split
    · exact farP _ _ _ _ _ (by omega) (by omega) (by omega)
    split
    · exact farP _ _ _ _ _ (by omega) (by omega) (by omega)
    have := rec_in (reckN s) (reck_lt s)
    exact farP _ _ _ _ _ (by omega) (by omega) (by omega)
  · exact far_jump s
  · exact far_branch s 5 (by omega)
  · exact far_branch s 6 (by omega)
  · exact farP _ _ _ _ _ (by omega) (by omega) (by omega)
  · split
    · exact hz
    · exact far_w _ _ _ _ _ (by omega) (by omega) (by omega) (loadW_ok s).1 (loadW_ok s).2
  · split
    · exact hz
    · exact far_d _ _ _ _ _ (by omega) (by omega) (by omega) (loadD_ok s).1 (loadD_ok s).2
  · unfold exMove
    split
    · split
      · split
        · exact farP _ _ _ _ _ (by omega) (by omega) (by omega)
        · exact hz
      · split
        · exact farP _ _ _ _ _ (by omega) (by omega) (by omega)
        · exact farP _ _ _ _ _ (by omega) (by omega) (by omega)
    · split
      · exact farP _ _ _ _ _ (by omega) (by omega) (by omega)
      · exact farP _ _ _ _ _ (by omega) (by omega) (by omega)
  · exact far_w _ _ _ _ _ (by omega) (by omega) (by omega) (storeW_ok s).1 (storeW_ok s).2
  · exact far_d _ _ _ _ _ (by omega) (by omega) (by omega) (storeD_ok s).1 (storeD_ok s).2
  · exact hz
end Go.Proofs.YtfkecgidjicidaaDoor
