/-
  Plain facts: what the reference's lists of pieces give.
-/
import Derived.Test.YtfkecgidjicidaaDoorRefQ
import Derived.Deep.Cut
set_option linter.unusedVariables false
set_option linter.unusedSimpArgs false
namespace Go.Proofs.YtfkecgidjicidaaDoor
open Go.RowKit
theorem acc_six (s : Nat) : acc s [(12, 12), (6, 2)] 2 * 2 ^ 0 = shiftN s := by
  show ((0 * 2 ^ 1 + pc s 12 1) * 2 ^ 5 + pc s 2 5) * 2 ^ 0 = shiftN s
  unfold shiftN
  simp only [Nat.reducePow]
  omega
theorem six_lt (s : Nat) : shiftN s < 64 := by
  have h0 : pc s 12 1 < 2 := pc_lt s 12 1
  have h1 : pc s 2 5 < 32 := pc_lt s 2 5
  unfold shiftN
  omega
theorem pieces_six (s : Nat) (w0 w1 : World) (hw : w1 = w0.alloc (.cells #[.int .i64 12, .int .i64 12, .int .i64 6, .int .i64 2] 3)) (hs : s < 65536) :
    Calls Tryd.prog 14 #[.int .u16 s, .slice (some ⟨w0.heap.size, 0, none⟩) 4 4, .int .i64 0] w1 fun e w' => e = .returned (.int .i64 ((shiftN s : Nat) : Int)) ∧ w1 = w' :=
  pieces_new s [(12, 12), (6, 2)] 0 (shiftN s) 4 w0 w1 hw hs rfl (by decide) (by decide) (by decide) (by decide) (acc_six s)
theorem acc_words (s : Nat) : acc s [(5, 5), (12, 10), (6, 6)] 3 * 2 ^ 2 = wordsN s := by
  show (((0 * 2 ^ 1 + pc s 5 1) * 2 ^ 3 + pc s 10 3) * 2 ^ 1 + pc s 6 1) * 2 ^ 2 = wordsN s
  unfold wordsN
  simp only [Nat.reducePow]
  omega
theorem words_lt (s : Nat) : wordsN s < 128 := by
  have h0 : pc s 5 1 < 2 := pc_lt s 5 1
  have h1 : pc s 10 3 < 8 := pc_lt s 10 3
  have h2 : pc s 6 1 < 2 := pc_lt s 6 1
  unfold wordsN
  omega
theorem pieces_words (s : Nat) (w0 w1 : World) (hw : w1 = w0.alloc (.cells #[.int .i64 5, .int .i64 5, .int .i64 12, .int .i64 10, .int .i64 6, .int .i64 6] 3)) (hs : s < 65536) :
    Calls Tryd.prog 14 #[.int .u16 s, .slice (some ⟨w0.heap.size, 0, none⟩) 6 6, .int .i64 2] w1 fun e w' => e = .returned (.int .i64 ((wordsN s : Nat) : Int)) ∧ w1 = w' :=
  pieces_new s [(5, 5), (12, 10), (6, 6)] 2 (wordsN s) 6 w0 w1 hw hs rfl (by decide) (by decide) (by decide) (by decide) (acc_words s)
theorem acc_doubles (s : Nat) : acc s [(6, 5), (12, 10)] 2 * 2 ^ 3 = doublesN s := by
  show ((0 * 2 ^ 2 + pc s 5 2) * 2 ^ 3 + pc s 10 3) * 2 ^ 3 = doublesN s
  unfold doublesN
  simp only [Nat.reducePow]
  omega
theorem doubles_lt (s : Nat) : doublesN s < 256 := by
  have h0 : pc s 5 2 < 4 := pc_lt s 5 2
  have h1 : pc s 10 3 < 8 := pc_lt s 10 3
  unfold doublesN
  omega
theorem pieces_doubles (s : Nat) (w0 w1 : World) (hw : w1 = w0.alloc (.cells #[.int .i64 6, .int .i64 5, .int .i64 12, .int .i64 10] 3)) (hs : s < 65536) :
    Calls Tryd.prog 14 #[.int .u16 s, .slice (some ⟨w0.heap.size, 0, none⟩) 4 4, .int .i64 3] w1 fun e w' => e = .returned (.int .i64 ((doublesN s : Nat) : Int)) ∧ w1 = w' :=
  pieces_new s [(6, 5), (12, 10)] 3 (doublesN s) 4 w0 w1 hw hs rfl (by decide) (by decide) (by decide) (by decide) (acc_doubles s)
theorem acc_branch (s : Nat) : acc s [(12, 12), (6, 5), (2, 2), (11, 10), (4, 3)] 5 * 2 ^ 1 = branchN s := by
  show (((((0 * 2 ^ 1 + pc s 12 1) * 2 ^ 2 + pc s 5 2) * 2 ^ 1 + pc s 2 1) * 2 ^ 2 + pc s 10 2) * 2 ^ 2 + pc s 3 2) * 2 ^ 1 = branchN s
  unfold branchN
  simp only [Nat.reducePow]
  omega
theorem branch_lt (s : Nat) : branchN s < 512 := by
  have h0 : pc s 12 1 < 2 := pc_lt s 12 1
  have h1 : pc s 5 2 < 4 := pc_lt s 5 2
  have h2 : pc s 2 1 < 2 := pc_lt s 2 1
  have h3 : pc s 10 2 < 4 := pc_lt s 10 2
  have h4 : pc s 3 2 < 4 := pc_lt s 3 2
  unfold branchN
  omega
theorem pieces_branch (s : Nat) (w0 w1 : World) (hw : w1 = w0.alloc (.cells #[.int .i64 12, .int .i64 12, .int .i64 6, .int .i64 5, .int .i64 2, .int .i64 2, .int .i64 11, .int .i64 10, .int .i64 4, .int .i64 3] 3)) (hs : s < 65536) :
    Calls Tryd.prog 14 #[.int .u16 s, .slice (some ⟨w0.heap.size, 0, none⟩) 10 10, .int .i64 1] w1 fun e w' => e = .returned (.int .i64 ((branchN s : Nat) : Int)) ∧ w1 = w' :=
  pieces_new s [(12, 12), (6, 5), (2, 2), (11, 10), (4, 3)] 1 (branchN s) 10 w0 w1 hw hs rfl (by decide) (by decide) (by decide) (by decide) (acc_branch s)
theorem acc_frame (s : Nat) : acc s [(10, 7), (12, 11), (5, 5), (6, 6)] 4 * 2 ^ 2 = frameN s := by
  show ((((0 * 2 ^ 4 + pc s 7 4) * 2 ^ 2 + pc s 11 2) * 2 ^ 1 + pc s 5 1) * 2 ^ 1 + pc s 6 1) * 2 ^ 2 = frameN s
  unfold frameN
  simp only [Nat.reducePow]
  omega
theorem frame_lt (s : Nat) : frameN s < 1024 := by
  have h0 : pc s 7 4 < 16 := pc_lt s 7 4
  have h1 : pc s 11 2 < 4 := pc_lt s 11 2
  have h2 : pc s 5 1 < 2 := pc_lt s 5 1
  have h3 : pc s 6 1 < 2 := pc_lt s 6 1
  unfold frameN
  omega
theorem pieces_frame (s : Nat) (w0 w1 : World) (hw : w1 = w0.alloc (.cells #[.int .i64 10, .int .i64 7, .int .i64 12, .int .i64 11, .int .i64 5, .int .i64 5, .int .i64 6, .int .i64 6] 3)) (hs : s < 65536) :
    Calls Tryd.prog 14 #[.int .u16 s, .slice (some ⟨w0.heap.size, 0, none⟩) 8 8, .int .i64 2] w1 fun e w' => e = .returned (.int .i64 ((frameN s : Nat) : Int)) ∧ w1 = w' :=
  pieces_new s [(10, 7), (12, 11), (5, 5), (6, 6)] 2 (frameN s) 8 w0 w1 hw hs rfl (by decide) (by decide) (by decide) (by decide) (acc_frame s)
theorem acc_stack (s : Nat) : acc s [(12, 12), (4, 3), (5, 5), (2, 2), (6, 6)] 5 * 2 ^ 4 = stackN s := by
  show (((((0 * 2 ^ 1 + pc s 12 1) * 2 ^ 2 + pc s 3 2) * 2 ^ 1 + pc s 5 1) * 2 ^ 1 + pc s 2 1) * 2 ^ 1 + pc s 6 1) * 2 ^ 4 = stackN s
  unfold stackN
  simp only [Nat.reducePow]
  omega
theorem stack_lt (s : Nat) : stackN s < 1024 := by
  have h0 : pc s 12 1 < 2 := pc_lt s 12 1
  have h1 : pc s 3 2 < 4 := pc_lt s 3 2
  have h2 : pc s 5 1 < 2 := pc_lt s 5 1
  have h3 : pc s 2 1 < 2 := pc_lt s 2 1
  have h4 : pc s 6 1 < 2 := pc_lt s 6 1
  unfold stackN
  omega
theorem pieces_stack (s : Nat) (w0 w1 : World) (hw : w1 = w0.alloc (.cells #[.int .i64 12, .int .i64 12, .int .i64 4, .int .i64 3, .int .i64 5, .int .i64 5, .int .i64 2, .int .i64 2, .int .i64 6, .int .i64 6] 3)) (hs : s < 65536) :
    Calls Tryd.prog 14 #[.int .u16 s, .slice (some ⟨w0.heap.size, 0, none⟩) 10 10, .int .i64 4] w1 fun e w' => e = .returned (.int .i64 ((stackN s : Nat) : Int)) ∧ w1 = w' :=
  pieces_new s [(12, 12), (4, 3), (5, 5), (2, 2), (6, 6)] 4 (stackN s) 10 w0 w1 hw hs rfl (by decide) (by decide) (by decide) (by decide) (acc_stack s)
theorem acc_jump (s : Nat) : acc s [(12, 12), (8, 8), (10, 9), (6, 6), (7, 7), (2, 2), (11, 11), (5, 3)] 8 * 2 ^ 1 = jumpN s := by
  show ((((((((0 * 2 ^ 1 + pc s 12 1) * 2 ^ 1 + pc s 8 1) * 2 ^ 2 + pc s 9 2) * 2 ^ 1 + pc s 6 1) * 2 ^ 1 + pc s 7 1) * 2 ^ 1 + pc s 2 1) * 2 ^ 1 + pc s 11 1) * 2 ^ 3 + pc s 3 3) * 2 ^ 1 = jumpN s
  unfold jumpN
  simp only [Nat.reducePow]
  omega
theorem jump_lt (s : Nat) : jumpN s < 4096 := by
  have h0 : pc s 12 1 < 2 := pc_lt s 12 1
  have h1 : pc s 8 1 < 2 := pc_lt s 8 1
  have h2 : pc s 9 2 < 4 := pc_lt s 9 2
  have h3 : pc s 6 1 < 2 := pc_lt s 6 1
  have h4 : pc s 7 1 < 2 := pc_lt s 7 1
  have h5 : pc s 2 1 < 2 := pc_lt s 2 1
  have h6 : pc s 11 1 < 2 := pc_lt s 11 1
  have h7 : pc s 3 3 < 8 := pc_lt s 3 3
  unfold jumpN
  omega
theorem pieces_jump (s : Nat) (w0 w1 : World) (hw : w1 = w0.alloc (.cells #[.int .i64 12, .int .i64 12, .int .i64 8, .int .i64 8, .int .i64 10, .int .i64 9, .int .i64 6, .int .i64 6, .int .i64 7, .int .i64 7, .int .i64 2, .int .i64 2, .int .i64 11, .int .i64 11, .int .i64 5, .int .i64 3] 3)) (hs : s < 65536) :
    Calls Tryd.prog 14 #[.int .u16 s, .slice (some ⟨w0.heap.size, 0, none⟩) 16 16, .int .i64 1] w1 fun e w' => e = .returned (.int .i64 ((jumpN s : Nat) : Int)) ∧ w1 = w' :=
  pieces_new s [(12, 12), (8, 8), (10, 9), (6, 6), (7, 7), (2, 2), (11, 11), (5, 3)] 1 (jumpN s) 16 w0 w1 hw hs rfl (by decide) (by decide) (by decide) (by decide) (acc_jump s)
theorem acc_loadw (s : Nat) : acc s [(3, 2), (12, 12), (6, 4)] 3 * 2 ^ 2 = loadW s := by
  show (((0 * 2 ^ 2 + pc s 2 2) * 2 ^ 1 + pc s 12 1) * 2 ^ 3 + pc s 4 3) * 2 ^ 2 = loadW s
  unfold loadW
  simp only [Nat.reducePow]
  omega
theorem loadw_lt (s : Nat) : loadW s < 256 := by
  have h0 : pc s 2 2 < 4 := pc_lt s 2 2
  have h1 : pc s 12 1 < 2 := pc_lt s 12 1
  have h2 : pc s 4 3 < 8 := pc_lt s 4 3
  unfold loadW
  omega
theorem pieces_loadw (s : Nat) (w0 w1 : World) (hw : w1 = w0.alloc (.cells #[.int .i64 3, .int .i64 2, .int .i64 12, .int .i64 12, .int .i64 6, .int .i64 4] 3)) (hs : s < 65536) :
    Calls Tryd.prog 14 #[.int .u16 s, .slice (some ⟨w0.heap.size, 0, none⟩) 6 6, .int .i64 2] w1 fun e w' => e = .returned (.int .i64 ((loadW s : Nat) : Int)) ∧ w1 = w' :=
  pieces_new s [(3, 2), (12, 12), (6, 4)] 2 (loadW s) 6 w0 w1 hw hs rfl (by decide) (by decide) (by decide) (by decide) (acc_loadw s)
theorem acc_loadd (s : Nat) : acc s [(4, 2), (12, 12), (6, 5)] 3 * 2 ^ 3 = loadD s := by
  show (((0 * 2 ^ 3 + pc s 2 3) * 2 ^ 1 + pc s 12 1) * 2 ^ 2 + pc s 5 2) * 2 ^ 3 = loadD s
  unfold loadD
  simp only [Nat.reducePow]
  omega
theorem loadd_lt (s : Nat) : loadD s < 512 := by
  have h0 : pc s 2 3 < 8 := pc_lt s 2 3
  have h1 : pc s 12 1 < 2 := pc_lt s 12 1
  have h2 : pc s 5 2 < 4 := pc_lt s 5 2
  unfold loadD
  omega
theorem pieces_loadd (s : Nat) (w0 w1 : World) (hw : w1 = w0.alloc (.cells #[.int .i64 4, .int .i64 2, .int .i64 12, .int .i64 12, .int .i64 6, .int .i64 5] 3)) (hs : s < 65536) :
    Calls Tryd.prog 14 #[.int .u16 s, .slice (some ⟨w0.heap.size, 0, none⟩) 6 6, .int .i64 3] w1 fun e w' => e = .returned (.int .i64 ((loadD s : Nat) : Int)) ∧ w1 = w' :=
  pieces_new s [(4, 2), (12, 12), (6, 5)] 3 (loadD s) 6 w0 w1 hw hs rfl (by decide) (by decide) (by decide) (by decide) (acc_loadd s)
theorem acc_storew (s : Nat) : acc s [(8, 7), (12, 9)] 2 * 2 ^ 2 = storeW s := by
  show ((0 * 2 ^ 2 + pc s 7 2) * 2 ^ 4 + pc s 9 4) * 2 ^ 2 = storeW s
  unfold storeW
  simp only [Nat.reducePow]
  omega
theorem storew_lt (s : Nat) : storeW s < 256 := by
  have h0 : pc s 7 2 < 4 := pc_lt s 7 2
  have h1 : pc s 9 4 < 16 := pc_lt s 9 4
  unfold storeW
  omega
theorem pieces_storew (s : Nat) (w0 w1 : World) (hw : w1 = w0.alloc (.cells #[.int .i64 8, .int .i64 7, .int .i64 12, .int .i64 9] 3)) (hs : s < 65536) :
    Calls Tryd.prog 14 #[.int .u16 s, .slice (some ⟨w0.heap.size, 0, none⟩) 4 4, .int .i64 2] w1 fun e w' => e = .returned (.int .i64 ((storeW s : Nat) : Int)) ∧ w1 = w' :=
  pieces_new s [(8, 7), (12, 9)] 2 (storeW s) 4 w0 w1 hw hs rfl (by decide) (by decide) (by decide) (by decide) (acc_storew s)
theorem acc_stored (s : Nat) : acc s [(9, 7), (12, 10)] 2 * 2 ^ 3 = storeD s := by
  show ((0 * 2 ^ 3 + pc s 7 3) * 2 ^ 3 + pc s 10 3) * 2 ^ 3 = storeD s
  unfold storeD
  simp only [Nat.reducePow]
  omega
theorem stored_lt (s : Nat) : storeD s < 512 := by
  have h0 : pc s 7 3 < 8 := pc_lt s 7 3
  have h1 : pc s 10 3 < 8 := pc_lt s 10 3
  unfold storeD
  omega
theorem pieces_stored (s : Nat) (w0 w1 : World) (hw : w1 = w0.alloc (.cells #[.int .i64 9, .int .i64 7, .int .i64 12, .int .i64 10] 3)) (hs : s < 65536) :
    Calls Tryd.prog 14 #[.int .u16 s, .slice (some ⟨w0.heap.size, 0, none⟩) 4 4, .int .i64 3] w1 fun e w' => e = .returned (.int .i64 ((storeD s : Nat) : Int)) ∧ w1 = w' :=
  pieces_new s [(9, 7), (12, 10)] 3 (storeD s) 4 w0 w1 hw hs rfl (by decide) (by decide) (by decide) (by decide) (acc_stored s)
end Go.Proofs.YtfkecgidjicidaaDoor
