/-
  Atomic operators: the reference's Do is the program's.
-/
import Derived.Test.YtpalhkfipnbcnaaAtomB
set_option linter.unusedVariables false
set_option linter.unusedSimpArgs false
namespace Go.Proofs.Ytpalhkfipnbcnaa
open Go.RowKit
set_option maxRecDepth 100000
theorem amoV_d (op a b : Int) (h : 74 ≤ op ∧ op ≤ 84) (a0 : 0 ≤ a) (a1 : a < 18446744073709551616) (b0 : 0 ≤ b) (b1 : b < 18446744073709551616) : amoV op a b = reckV op a b % 18446744073709551616 := by
  unfold amoV
  rw [awid8 h]
  rw [show ((8 * 8 : Nat) : Int) = 64 from rfl, sextI_64 a a0 a1, sextI_64 b b0 b1]
  rfl
theorem amoV_w (op a b : Int) (h : 63 ≤ op ∧ op ≤ 73) : amoV op a b = reckV op (sextI a 32) (sextI b 32) % 4294967296 := by
  unfold amoV
  rw [awid4 h]
  rfl
theorem amo_eq_d (op a b : Int) (hop : op ∈ ([76, 77, 78, 79, 80, 81, 82, 83, 84] : List Int)) (a0 : 0 ≤ a) (a1 : a < 18446744073709551616) (b0 : 0 ≤ b) (b1 : b < 18446744073709551616) :
    amoV op a b = refV op a b (decide (wrap64 a < wrap64 b)) (decide (a < b)) (decide (b < a)) % 18446744073709551616 := by
  rw [amoV_d op a b (by simp at hop; omega) a0 a1 b0 b1]
  simp only [List.mem_cons, List.not_mem_nil, or_false] at hop
  rcases hop with rfl | rfl | rfl | rfl | rfl | rfl | rfl | rfl | rfl
  · rfl
  · rfl
  · rfl
  · rfl
  · rfl
  · show IntKind.u64.wrap (if wrap64 b < wrap64 a then wrap64 b else wrap64 a) % 18446744073709551616 = (if decide (wrap64 a < wrap64 b) = true then a else b) % 18446744073709551616
    simp only [decide_eq_true_eq, IntKind.wrap_u64]; unfold wrap64; repeat' split
    all_goals omega
  · show IntKind.u64.wrap (if wrap64 a < wrap64 b then wrap64 b else wrap64 a) % 18446744073709551616 = (if decide (wrap64 a < wrap64 b) = true then b else a) % 18446744073709551616
    simp only [decide_eq_true_eq, IntKind.wrap_u64]; unfold wrap64; repeat' split
    all_goals omega
  · show (if b < a then b else a) % 18446744073709551616 = (if decide (a < b) = true then a else b) % 18446744073709551616
    simp only [decide_eq_true_eq]; repeat' split
    all_goals omega
  · show (if a < b then b else a) % 18446744073709551616 = (if decide (b < a) = true then a else b) % 18446744073709551616
    simp only [decide_eq_true_eq]; repeat' split
    all_goals omega
theorem amo_eq_w (op a b A B : Int) (hop : op ∈ ([65, 66, 67, 68, 69, 70, 71, 72, 73] : List Int)) (hA : A = a % 4294967296) (hB : B = b % 4294967296) (a0 : 0 ≤ a) (a1 : a < 18446744073709551616) (b0 : 0 ≤ b) (b1 : b < 18446744073709551616) :
    amoV op a b = refV op A B (decide (wrap64 (sextI A 32) < wrap64 (sextI B 32))) (decide (A < B)) (decide (B < A)) % 4294967296 := by
  rw [amoV_w op a b (by simp at hop; omega)]
  have sa : sextI A 32 = sextI a 32 := by rw [sextI_32, sextI_32]; omega
  have sb : sextI B 32 = sextI b 32 := by rw [sextI_32, sextI_32]; omega
  rw [sa, sb]
  have ea := sextI_32 a
  have eb := sextI_32 b
  have ba := sextI_bd a 32 a0 a1
  have bb := sextI_bd b 32 b0 b1
  generalize sextI a 32 = P at *
  generalize sextI b 32 = Q at *
  clear sa sb
  have hP : P % 4294967296 = A := by omega
  have hQ : Q % 4294967296 = B := by omega
  have gA : 0 ≤ A ∧ A < 4294967296 := by omega
  have gB : 0 ≤ B ∧ B < 4294967296 := by omega
  simp only [List.mem_cons, List.not_mem_nil, or_false] at hop
  rcases hop with rfl | rfl | rfl | rfl | rfl | rfl | rfl | rfl | rfl
  · show Q % 4294967296 = B % 4294967296
    omega
  · show IntKind.u64.wrap (P + Q) % 4294967296 = IntKind.u64.wrap (A + B) % 4294967296
    simp only [IntKind.wrap_u64]; omega
  · exact bits_mod32 .xor (by simp) P Q A B ba.1 ba.2 bb.1 bb.2 gA.1 (by omega) gB.1 (by omega) (by omega) (by omega)
  · exact bits_mod32 .and (by simp) P Q A B ba.1 ba.2 bb.1 bb.2 gA.1 (by omega) gB.1 (by omega) (by omega) (by omega)
  · exact bits_mod32 .or (by simp) P Q A B ba.1 ba.2 bb.1 bb.2 gA.1 (by omega) gB.1 (by omega) (by omega) (by omega)
  · show IntKind.u64.wrap (if wrap64 Q < wrap64 P then wrap64 Q else wrap64 P) % 4294967296 = (if decide (wrap64 P < wrap64 Q) = true then A else B) % 4294967296
    simp only [decide_eq_true_eq, IntKind.wrap_u64]; unfold wrap64; repeat' split
    all_goals omega
  · show IntKind.u64.wrap (if wrap64 P < wrap64 Q then wrap64 Q else wrap64 P) % 4294967296 = (if decide (wrap64 P < wrap64 Q) = true then B else A) % 4294967296
    simp only [decide_eq_true_eq, IntKind.wrap_u64]; unfold wrap64; repeat' split
    all_goals omega
  · show (if Q < P then Q else P) % 4294967296 = (if decide (A < B) = true then A else B) % 4294967296
    simp only [decide_eq_true_eq]; repeat' split
    all_goals omega
  · show (if P < Q then Q else P) % 4294967296 = (if decide (B < A) = true then A else B) % 4294967296
    simp only [decide_eq_true_eq]; repeat' split
    all_goals omega
theorem amo_any (op a b : Int) (w : World) (a0 : 0 ≤ a) (a1 : a < 18446744073709551616) (b0 : 0 ≤ b) (b1 : b < 18446744073709551616) :
    Calls Try.prog 8 #[.int .i64 op, .int .u64 a, .int .u64 b] w fun e w' => e = .returned (.tuple #[.int .u64 (amoV op a b), .bool (amoOk op)]) ∧ Bl w w' := by
  by_cases hz : op < 63 ∨ 84 < op
  · have hno : op ∉ amoOps := by simp only [amoOps, List.mem_cons, List.not_mem_nil, or_false]; omega
    unfold amoV amoOk
    rw [reckV_no hno, decide_eq_false hno, Int.zero_emod]
    exact amoZ op a b w hz
  · by_cases hN : op ∈ amoOps
    · unfold amoOk
      rw [decide_eq_true hN]
      have hv4 := halves_any 4 a b (by omega) (by omega) a0 a1 b0 b1
      have hv8 := halves_any 8 a b (by omega) (by omega) a0 a1 b0 b1
      rw [show (2 : Int) ^ (8 * 4) = 4294967296 from rfl, show ((8 * 4 : Nat) : Int) = 32 from rfl] at hv4
      rw [show (2 : Int) ^ (8 * 8) = 18446744073709551616 from rfl, show ((8 * 8 : Nat) : Int) = 64 from rfl, show a % 18446744073709551616 = a by omega, show b % 18446744073709551616 = b by omega, sextI_64 a a0 a1, sextI_64 b b0 b1] at hv8
      have e4 := fun h => amo_eq_w op a b _ _ h rfl rfl a0 a1 b0 b1
      have e8 := fun h => amo_eq_d op a b h a0 a1 b0 b1
      generalize a % 4294967296 = A at hv4 e4
      generalize b % 4294967296 = B at hv4 e4
      obtain ⟨l4, hl4⟩ : ∃ l4, l4 = decide (wrap64 (sextI A 32) < wrap64 (sextI B 32)) := ⟨_, rfl⟩
      obtain ⟨l8, hl8⟩ : ∃ l8, l8 = decide (wrap64 a < wrap64 b) := ⟨_, rfl⟩
      rw [← hl4] at hv4 e4
      rw [← hl8] at hv8 e8
      clear hl4 hl8
      by_cases h8 : 74 ≤ op
      · rw [e8 (by simp only [amoOps, List.mem_cons, List.not_mem_nil, or_false] at hN ⊢; omega)]
        by_cases g1 : op ≤ 80
        · exact amoP8 op a b a b _ _ _ _ _ w hv8 (by simp only [amoOps, List.mem_cons, List.not_mem_nil, or_false] at hN ⊢; omega)
        · by_cases g2 : op ≤ 82
          · rcases l8 with _ | _
            · exact amoS8f op a b a b _ _ _ _ _ w hv8 rfl (by simp only [amoOps, List.mem_cons, List.not_mem_nil, or_false] at hN ⊢; omega)
            · exact amoS8t op a b a b _ _ _ _ _ w hv8 rfl (by simp only [amoOps, List.mem_cons, List.not_mem_nil, or_false] at hN ⊢; omega)
          · by_cases g3 : op = 83
            · by_cases hl : a < b
              · exact amoU8t op a b a b _ _ _ _ _ w hv8 (decide_eq_true hl) hl (by simp [g3])
              · exact amoU8f op a b a b _ _ _ _ _ w hv8 (decide_eq_false hl) (by omega) (by simp [g3])
            · by_cases hl : b < a
              · exact amoV8t op a b a b _ _ _ _ _ w hv8 (decide_eq_true hl) hl (by simp only [amoOps, List.mem_cons, List.not_mem_nil, or_false] at hN ⊢; omega)
              · exact amoV8f op a b a b _ _ _ _ _ w hv8 (decide_eq_false hl) (by omega) (by simp only [amoOps, List.mem_cons, List.not_mem_nil, or_false] at hN ⊢; omega)
      · rw [e4 (by simp only [amoOps, List.mem_cons, List.not_mem_nil, or_false] at hN ⊢; omega)]
        by_cases g1 : op ≤ 69
        · exact amoP4 op a b A B _ _ _ _ _ w hv4 (by simp only [amoOps, List.mem_cons, List.not_mem_nil, or_false] at hN ⊢; omega)
        · by_cases g2 : op ≤ 71
          · rcases l4 with _ | _
            · exact amoS4f op a b A B _ _ _ _ _ w hv4 rfl (by simp only [amoOps, List.mem_cons, List.not_mem_nil, or_false] at hN ⊢; omega)
            · exact amoS4t op a b A B _ _ _ _ _ w hv4 rfl (by simp only [amoOps, List.mem_cons, List.not_mem_nil, or_false] at hN ⊢; omega)
          · by_cases g3 : op = 72
            · by_cases hl : A < B
              · exact amoU4t op a b A B _ _ _ _ _ w hv4 (decide_eq_true hl) hl (by simp [g3])
              · exact amoU4f op a b A B _ _ _ _ _ w hv4 (decide_eq_false hl) (by omega) (by simp [g3])
            · by_cases hl : B < A
              · exact amoV4t op a b A B _ _ _ _ _ w hv4 (decide_eq_true hl) hl (by simp only [amoOps, List.mem_cons, List.not_mem_nil, or_false] at hN ⊢; omega)
              · exact amoV4f op a b A B _ _ _ _ _ w hv4 (decide_eq_false hl) (by omega) (by simp only [amoOps, List.mem_cons, List.not_mem_nil, or_false] at hN ⊢; omega)
    · unfold amoOk
      rw [decide_eq_false hN]
      unfold amoV
      rw [reckV_no hN, Int.zero_emod]
      have hop : op = 63 ∨ op = 64 ∨ op = 74 ∨ op = 75 := by simp only [amoOps, List.mem_cons, List.not_mem_nil, or_false] at hN; omega
      have hv4 := halves_any 4 a b (by omega) (by omega) a0 a1 b0 b1
      have hv8 := halves_any 8 a b (by omega) (by omega) a0 a1 b0 b1
      by_cases h8 : 74 ≤ op
      · exact amoN8 op a b _ _ _ _ _ false false w hv8 (by simp only [List.mem_cons, List.not_mem_nil, or_false]; omega)
      · exact amoN4 op a b _ _ _ _ _ false false w hv4 (by simp only [List.mem_cons, List.not_mem_nil, or_false]; omega)
set_option maxHeartbeats 1000000 in
theorem aanswers_any (w : World) : Calls Try.prog 9 #[] w fun e w' => e = .returned (.bool true) ∧ w = w' := by
  have c1 : ∀ w, Calls Try.prog 7 #[.int .i64 66, .int .u64 3, .int .u64 4] w fun e w' => e = .returned (.tuple #[.int .u64 7, .bool true]) ∧ w = w' := fun w => do_any 66 3 4 w (by decide) (by decide) (by decide) (by decide)
  have c2 : ∀ w, Calls Try.prog 10 #[.int .i64 74] w fun e w' => e = .returned (.int .i64 8) ∧ w = w' := fun w => awidth_any 74 w
  go_enter Try.func9, Try.ntmps9
  go_wp2_with fail
  refine (c1 _).mono ?_
  rintro e w' ⟨rfl, rfl⟩
  go_wp2_with fail
  refine (c2 _).mono ?_
  rintro e w' ⟨rfl, rfl⟩
  go_wp2_with fail
  go_ret
  exact ⟨rfl, rfl⟩
end Go.Proofs.Ytpalhkfipnbcnaa
