/-
  The names, as the reference lays them.
-/
import Derived.Test.YtionnhjldcpmjaaGreatDoorAsmD
set_option linter.unusedVariables false
set_option linter.unusedSimpArgs false
namespace Go.Proofs.YtionnhjldcpmjaaGreatDoor
open Go.RowKit

/-- All names, a blank between two. -/
def refS : List UInt8 := [108, 117, 105, 32, 97, 117, 105, 112, 99, 32, 106, 97, 108, 32, 106, 97, 108, 114, 32, 98, 101, 113, 32, 98, 110, 101, 32, 98, 108, 116, 32, 98, 103, 101, 32, 98, 108, 116, 117, 32, 98, 103, 101, 117, 32, 108, 98, 32, 108, 104, 32, 108, 119, 32, 108, 100, 32, 108, 98, 117, 32, 108, 104, 117, 32, 108, 119, 117, 32, 115, 98, 32, 115, 104, 32, 115, 119, 32, 115, 100, 32, 97, 100, 100, 105, 32, 115, 108, 116, 105, 32, 115, 108, 116, 105, 117, 32, 120, 111, 114, 105, 32, 111, 114, 105, 32, 97, 110, 100, 105, 32, 115, 108, 108, 105, 32, 115, 114, 108, 105, 32, 115, 114, 97, 105, 32, 97, 100, 100, 32, 115, 117, 98, 32, 115, 108, 108, 32, 115, 108, 116, 32, 115, 108, 116, 117, 32, 120, 111, 114, 32, 115, 114, 108, 32, 115, 114, 97, 32, 111, 114, 32, 97, 110, 100, 32, 97, 100, 100, 105, 119, 32, 115, 108, 108, 105, 119, 32, 115, 114, 108, 105, 119, 32, 115, 114, 97, 105, 119, 32, 97, 100, 100, 119, 32, 115, 117, 98, 119, 32, 115, 108, 108, 119, 32, 115, 114, 108, 119, 32, 115, 114, 97, 119, 32, 109, 117, 108, 32, 109, 117, 108, 104, 32, 109, 117, 108, 104, 115, 117, 32, 109, 117, 108, 104, 117, 32, 100, 105, 118, 32, 100, 105, 118, 117, 32, 114, 101, 109, 32, 114, 101, 109, 117, 32, 109, 117, 108, 119, 32, 100, 105, 118, 119, 32, 100, 105, 118, 117, 119, 32, 114, 101, 109, 119, 32, 114, 101, 109, 117, 119, 32, 108, 114, 46, 119, 32, 115, 99, 46, 119, 32, 97, 109, 111, 115, 119, 97, 112, 46, 119, 32, 97, 109, 111, 97, 100, 100, 46, 119, 32, 97, 109, 111, 120, 111, 114, 46, 119, 32, 97, 109, 111, 97, 110, 100, 46, 119, 32, 97, 109, 111, 111, 114, 46, 119, 32, 97, 109, 111, 109, 105, 110, 46, 119, 32, 97, 109, 111, 109, 97, 120, 46, 119, 32, 97, 109, 111, 109, 105, 110, 117, 46, 119, 32, 97, 109, 111, 109, 97, 120, 117, 46, 119, 32, 108, 114, 46, 100, 32, 115, 99, 46, 100, 32, 97, 109, 111, 115, 119, 97, 112, 46, 100, 32, 97, 109, 111, 97, 100, 100, 46, 100, 32, 97, 109, 111, 120, 111, 114, 46, 100, 32, 97, 109, 111, 97, 110, 100, 46, 100, 32, 97, 109, 111, 111, 114, 46, 100, 32, 97, 109, 111, 109, 105, 110, 46, 100, 32, 97, 109, 111, 109, 97, 120, 46, 100, 32, 97, 109, 111, 109, 105, 110, 117, 46, 100, 32, 97, 109, 111, 109, 97, 120, 117, 46, 100, 32, 102, 101, 110, 99, 101, 32, 102, 101, 110, 99, 101, 46, 105, 32, 101, 99, 97, 108, 108, 32, 101, 98, 114, 101, 97, 107]
theorem refS_len : refS.length = 494 := by decide +kernel
/-- How many names end ahead of a place, and where the one there begins. -/
def cntF : Nat → Nat × Nat
  | 0 => (0, 0)
  | k + 1 => if refS.getD k 0 = 32 then ((cntF k).1 + 1, k + 1) else cntF k
def chkF : Nat → List UInt8 → Nat → Nat → Bool
  | k, [], c, f => decide (c = 87) && decide ((refS.drop f).take (k - f) = nmT.getD (c + 1) []) && decide (f ≤ k)
  | k, b :: r, c, f => if b = 32 then decide (c < 87) && decide ((refS.drop f).take (k - f) = nmT.getD (c + 1) []) && decide (f ≤ k) && chkF (k + 1) r (c + 1) (k + 1) else chkF (k + 1) r c f
theorem chkF_all : chkF 0 refS 0 0 = true := by decide +kernel
theorem chkF_at : ∀ k, k ≤ 494 → chkF k (refS.drop k) (cntF k).1 (cntF k).2 = true
  | 0, _ => chkF_all
  | k + 1, h => by
    have ih := chkF_at k (by omega)
    have hk : k < refS.length := by rw [refS_len]; omega
    rw [List.drop_eq_getElem_cons hk] at ih
    unfold chkF at ih
    have hg : refS.getD k 0 = refS[k] := by simp [List.getD, List.getElem?_eq_getElem hk]
    unfold cntF
    rw [hg]
    split at ih
    · rename_i h1
      rw [if_pos h1]
      simp only [Bool.and_eq_true] at ih
      exact ih.2
    · rename_i h1
      rw [if_neg h1]
      exact ih
theorem at_end : (cntF 494).1 = 87 ∧ (refS.drop (cntF 494).2).take (494 - (cntF 494).2) = nmT.getD 88 [] ∧ (cntF 494).2 ≤ 494 := by
  have h := chkF_at 494 (by omega)
  rw [List.drop_eq_nil_of_le (by rw [refS_len]; omega)] at h
  unfold chkF at h
  simp only [Bool.and_eq_true, decide_eq_true_eq] at h
  obtain ⟨⟨h1, h2⟩, h3⟩ := h
  rw [h1] at h2
  exact ⟨h1, h2, h3⟩
theorem at_sp (k : Nat) (hk : k < 494) (h32 : refS.getD k 0 = 32) : (cntF k).1 < 87 ∧ (refS.drop (cntF k).2).take (k - (cntF k).2) = nmT.getD ((cntF k).1 + 1) [] ∧ (cntF k).2 ≤ k := by
  have h := chkF_at k (by omega)
  have hl : k < refS.length := by rw [refS_len]; omega
  rw [List.drop_eq_getElem_cons hl] at h
  have hg : refS.getD k 0 = refS[k] := by simp [List.getD, List.getElem?_eq_getElem hl]
  rw [hg] at h32
  unfold chkF at h
  rw [if_pos h32] at h
  simp only [Bool.and_eq_true, decide_eq_true_eq] at h
  obtain ⟨⟨⟨h1, h2⟩, h3⟩, _⟩ := h
  exact ⟨h1, h2, h3⟩
theorem refS_size : (⟨refS.toArray⟩ : ByteArray).size = 494 := by
  have := refS_len
  simpa [ByteArray.size] using this
theorem idx_run (k : Nat) (hk : k < 494) (w : World) : (Instr.index 9 (str refS) (.int .i64 (k : Int))).run Tryz.prog w = .ok (.int .u8 ((refS.getD k 0).toNat : Int)) w := by
  have hl : k < refS.length := by rw [refS_len]; omega
  rw [run_index_string w 9 _ .i64 (k : Int) Tryz.underlying9, dif_pos (by rw [refS_size]; omega)]
  simp only [List.getD, List.getElem?_eq_getElem hl]
  rfl
theorem slc_run (f k : Nat) (hf : f ≤ k) (hk : k ≤ 494) (w : World) : (Instr.slice 9 (str refS) (some (.int .i64 (f : Int))) (some (.int .i64 (k : Int))) none).run Tryz.prog w = .ok (str ((refS.drop f).take (k - f))) w := by
  rw [run_slice_string w 9 _ .i64 .i64 (f : Int) (k : Int) Tryz.underlying9 (by omega) (by omega) (by rw [refS_size]; omega), ByteArray.extract_mk]
  simp
theorem len_run (w : World) : (Builtin.len_ #[9] 3 #[str refS]).run Tryz.prog w = .ok (.int .i64 494) w := by
  rw [run_len_string w 9 3 _ Tryz.underlying9, refS_size]
  rfl
set_option maxRecDepth 100000 in
set_option maxHeartbeats 4000000 in
theorem refName_any (op : Nat) (h1 : 1 ≤ op) (h2 : op ≤ 88) (w : World) : Calls Tryz.prog 10 #[.int .i64 (op : Int)] w fun e w' => e = .returned (str (nmT.getD op [])) ∧ w = w' := by
  have hI := idx_run
  have hS := slc_run
  have HI := Lib.hid hI
  have HS := Lib.hid hS
  clear hI hS
  have hlen := len_run
  obtain ⟨R, hR⟩ : ∃ R, R = nmT.getD op [] := ⟨_, rfl⟩
  rw [← hR]
  have HR := Lib.hid hR
  clear hR
  go_enter Tryz.func10, Tryz.ntmps10
  go_wp2_with fail
  generalize hV : Value.string (ByteArray.mk (List.toArray (List.append (List.append _ _) (List.append _ _)))) = V
  obtain rfl : V = str refS := by rw [← hV]; rfl
  clear hV
  go_loop [0, 4, 5] (fun ov fv iv => ∃ k c f : Nat, k ≤ 494 ∧ ov = .int .i64 ((op : Int) - (c : Int)) ∧ fv = .int .i64 (f : Int) ∧ iv = .int .i64 (k : Int) ∧ c < op ∧ f ≤ 494 ∧ Hid (cntF k = (c, f))) (fun ov fv iv => 494 - (intOf iv).toNat)
  case atStart => exact ⟨0, 0, 0, by omega, by simp, rfl, rfl, by omega, by omega, Lib.hid rfl⟩
  case round =>
    obtain ⟨k, c, f, hk, rfl, rfl, rfl, hc, hfl, HC⟩ := hrel
    by_cases hlt : k < 494
    · have hx := HI.out k hlt
      by_cases h32 : refS.getD k 0 = 32
      · obtain ⟨a1, a2, a3⟩ := at_sp k hlt h32
        rw [HC.out] at a1 a2 a3
        dsimp only at a1 a2 a3
        have hs := HS.out f k a3 (by omega)
        have hb : ((refS.getD k 0).toNat : Int) = 32 := by rw [h32]; rfl
        have hn : cntF (k + 1) = (c + 1, k + 1) := by
          unfold cntF
          rw [if_pos h32, HC.out]
        rw [hb] at hx
        rw [a2] at hs
        have HN := Lib.hid hn
        clear hn h32 hb a2
        generalize refS = sl at *
        generalize hG : nmT.getD (c + 1) [] = nx at *
        have HG := Lib.hid hG
        clear hG
        by_cases hz : op = c + 1
        · have hq : (op : Int) - (c : Int) - 1 = 0 := by omega
          have HZ := Lib.hid hz
          clear hz
          go_wp2
          go_ret
          refine ⟨?_, rfl⟩
          rw [HR.out, HZ.out, HG.out]
          rfl
        · have hq : ((op : Int) - (c : Int) - 1 == 0) = false := by simp; omega
          go_wp2
          go_round
          case rel => exact ⟨k + 1, c + 1, k + 1, by omega, by go_num, by go_num, by go_num, by omega, by omega, HN⟩
          case measure => simp [intOf] <;> omega
      · have hb : (((refS.getD k 0).toNat : Int) == 32) = false := by
          have : (refS.getD k 0).toNat ≠ 32 := fun h => h32 (UInt8.toNat_inj.1 h)
          rw [beq_eq_false_iff_ne]
          omega
        have hn : cntF (k + 1) = (c, f) := by
          unfold cntF
          rw [if_neg h32, HC.out]
        have HN := Lib.hid hn
        clear hn h32
        generalize refS.getD k 0 = by1 at *
        generalize refS = sl at *
        go_wp2
        go_round
        case rel => exact ⟨k + 1, c, f, by omega, by go_num, by go_num, by go_num, by omega, by omega, HN⟩
        case measure => simp [intOf] <;> omega
    · obtain rfl : k = 494 := by omega
      obtain ⟨a1, a2, a3⟩ := at_end
      rw [HC.out] at a1 a2 a3
      dsimp only at a1 a2 a3
      subst a1
      have hz : op = 88 := by omega
      have hs := HS.out f 494 a3 (by omega)
      rw [a2] at hs
      have hq : (op : Int) - 87 - 1 = 0 := by omega
      have hG := HR.out
      rw [hz] at hG
      rw [← hG] at hs
      replace hs : ∀ w, (Instr.slice 9 (str refS) (some (.int .i64 (f : Int))) (some (.int .i64 494)) none).run Tryz.prog w = .ok (str R) w := hs
      have HZ := Lib.hid hz
      clear a2 hz hG
      generalize refS = sl at *
      go_wp2
      go_ret
      exact ⟨rfl, rfl⟩

end Go.Proofs.YtionnhjldcpmjaaGreatDoor
