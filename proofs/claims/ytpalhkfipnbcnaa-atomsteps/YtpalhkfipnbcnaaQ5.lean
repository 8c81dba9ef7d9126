/-
  Atomic operators: the reference's Do is the program's.
  Atomic operators: least and greatest, sums and back: plain facts.
  Regions behind regions: join.
-/
import Derived.Test.YtpalhkfipnbcnaaQ4
import Derived.Test.YtpalhkfipnbcnaaQ3
set_option linter.unusedVariables false
set_option linter.unusedSimpArgs false
namespace Go.Proofs.Ytpalhkfipnbcnaa
open Go.RowKit
set_option maxRecDepth 100000
theorem amoV_d (op a b : Int) (h : 74 ≤ op ∧ op ≤ 84) (a0 : 0 ≤ a) (a1 : a < 18446744073709551616) (b0 : 0 ≤ b) (b1 : b < 18446744073709551616) : amoV op a b = reckV op a b % 18446744073709551616 := by
  unfold amoV
  rw [awid8 h]
  rw [show ((8 * 8 : Nat) : Int) = 64 from rfl, sextI_64 a a0 a1, sextI_64 b b0 b1]
  rfl
theorem amoV_w (op a b : Int) (h : 63 ≤ op ∧ op ≤ 73) : amoV op a b = reckV op (sextI a 32) (sextI b 32) % 4294967296 := by
  unfold amoV
  rw [awid4 h]
  rfl
theorem amo_eq_d (op a b : Int) (hop : op ∈ ([76, 77, 78, 79, 80, 81, 82, 83, 84] : List Int)) (a0 : 0 ≤ a) (a1 : a < 18446744073709551616) (b0 : 0 ≤ b) (b1 : b < 18446744073709551616) :
    amoV op a b = refV op a b (decide (wrap64 a < wrap64 b)) (decide (a < b)) (decide (b < a)) % 18446744073709551616 := by
  rw [amoV_d op a b (by simp at hop; omega) a0 a1 b0 b1]
  simp only [List.mem_cons, List.not_mem_nil, or_false] at hop
  rcases hop with rfl | rfl | rfl | rfl | rfl | rfl | rfl | rfl | rfl
  · rfl
  · rfl
  · rfl
  · rfl
  · rfl
  · show IntKind.u64.wrap (if wrap64 b < wrap64 a then wrap64 b else wrap64 a) % 18446744073709551616 = (if decide (wrap64 a < wrap64 b) = true then a else b) % 18446744073709551616
    simp only [decide_eq_true_eq, IntKind.wrap_u64]; unfold wrap64; repeat' split
    all_goals omega
  · show IntKind.u64.wrap (if wrap64 a < wrap64 b then wrap64 b else wrap64 a) % 18446744073709551616 = (if decide (wrap64 a < wrap64 b) = true then b else a) % 18446744073709551616
    simp only [decide_eq_true_eq, IntKind.wrap_u64]; unfold wrap64; repeat' split
    all_goals omega
  · show (if b < a then b else a) % 18446744073709551616 = (if decide (a < b) = true then a else b) % 18446744073709551616
    simp only [decide_eq_true_eq]; repeat' split
    all_goals omega
  · show (if a < b then b else a) % 18446744073709551616 = (if decide (b < a) = true then a else b) % 18446744073709551616
    simp only [decide_eq_true_eq]; repeat' split
    all_goals omega
theorem amo_eq_w (op a b A B : Int) (hop : op ∈ ([65, 66, 67, 68, 69, 70, 71, 72, 73] : List Int)) (hA : A = a % 4294967296) (hB : B = b % 4294967296) (a0 : 0 ≤ a) (a1 : a < 18446744073709551616) (b0 : 0 ≤ b) (b1 : b < 18446744073709551616) :
    amoV op a b = refV op A B (decide (wrap64 (sextI A 32) < wrap64 (sextI B 32))) (decide (A < B)) (decide (B < A)) % 4294967296 := by
  rw [amoV_w op a b (by simp at hop; omega)]
  have sa : sextI A 32 = sextI a 32 := by rw [sextI_32, sextI_32]; omega
  have sb : sextI B 32 = sextI b 32 := by rw [sextI_32, sextI_32]; omega
  rw [sa, sb]
  have ea := sextI_32 a
  have eb := sextI_32 b
  have ba := sextI_bd a 32 a0 a1
  have bb := sextI_bd b 32 b0 b1
  generalize sextI a 32 = P at *
  generalize sextI b 32 = Q at *
  clear sa sb
  have hP : P % 4294967296 = A := by omega
  have hQ : Q % 4294967296 = B := by omega
  have gA : 0 ≤ A ∧ A < 4294967296 := by omega
  have gB : 0 ≤ B ∧ B < 4294967296 := by omega
  simp only [List.mem_cons, List.not_mem_nil, or_false] at hop
  rcases hop with rfl | rfl | rfl | rfl | rfl | rfl | rfl | rfl | rfl
  · show Q % 4294967296 = B % 4294967296
    omega
  · show IntKind.u64.wrap (P + Q) % 4294967296 = IntKind.u64.wrap (A + B) % 4294967296
    simp only [IntKind.wrap_u64]; omega
  · exact bits_mod32 .xor (by simp) P Q A B ba.1 ba.2 bb.1 bb.2 gA.1 (by omega) gB.1 (by omega) (by omega) (by omega)
  · exact bits_mod32 .and (by simp) P Q A B ba.1 ba.2 bb.1 bb.2 gA.1 (by omega) gB.1 (by omega) (by omega) (by omega)
  · exact bits_mod32 .or (by simp) P Q A B ba.1 ba.2 bb.1 bb.2 gA.1 (by omega) gB.1 (by omega) (by omega) (by omega)
  · show IntKind.u64.wrap (if wrap64 Q < wrap64 P then wrap64 Q else wrap64 P) % 4294967296 = (if decide (wrap64 P < wrap64 Q) = true then A else B) % 4294967296
    simp only [decide_eq_true_eq, IntKind.wrap_u64]; unfold wrap64; repeat' split
    all_goals omega
  · show IntKind.u64.wrap (if wrap64 P < wrap64 Q then wrap64 Q else wrap64 P) % 4294967296 = (if decide (wrap64 P < wrap64 Q) = true then B else A) % 4294967296
    simp only [decide_eq_true_eq, IntKind.wrap_u64]; unfold wrap64; repeat' split
    all_goals omega
  · show (if Q < P then Q else P) % 4294967296 = (if decide (A < B) = true then A else B) % 4294967296
    simp only [decide_eq_true_eq]; repeat' split
    all_goals omega
  · show (if P < Q then Q else P) % 4294967296 = (if decide (B < A) = true then A else B) % 4294967296
    simp only [decide_eq_true_eq]; repeat' split
    all_goals omega
theorem amo_any (op a b : Int) (w : World) (a0 : 0 ≤ a) (a1 : a < 18446744073709551616) (b0 : 0 ≤ b) (b1 : b < 18446744073709551616) :
    Calls Try.prog 8 #[.int .i64 op, .int .u64 a, .int .u64 b] w fun e w' => e = .returned (.tuple #[.int .u64 (amoV op a b), .bool (amoOk op)]) ∧ Bl w w' := by
  by_cases hz : op < 63 ∨ 84 < op
  · have hno : op ∉ amoOps := by simp only [amoOps, List.mem_cons, List.not_mem_nil, or_false]; omega
    unfold amoV amoOk
    rw [reckV_no hno, decide_eq_false hno, Int.zero_emod]
    exact amoZ op a b w hz
  · by_cases hN : op ∈ amoOps
    · unfold amoOk
      rw [decide_eq_true hN]
      have hv4 := halves_any 4 a b (by omega) (by omega) a0 a1 b0 b1
      have hv8 := halves_any 8 a b (by omega) (by omega) a0 a1 b0 b1
      rw [show (2 : Int) ^ (8 * 4) = 4294967296 from rfl, show ((8 * 4 : Nat) : Int) = 32 from rfl] at hv4
      rw [show (2 : Int) ^ (8 * 8) = 18446744073709551616 from rfl, show ((8 * 8 : Nat) : Int) = 64 from rfl, show a % 18446744073709551616 = a by omega, show b % 18446744073709551616 = b by omega, sextI_64 a a0 a1, sextI_64 b b0 b1] at hv8
      have e4 := fun h => amo_eq_w op a b _ _ h rfl rfl a0 a1 b0 b1
      have e8 := fun h => amo_eq_d op a b h a0 a1 b0 b1
      generalize a % 4294967296 = A at hv4 e4
      generalize b % 4294967296 = B at hv4 e4
      obtain ⟨l4, hl4⟩ : ∃ l4, l4 = decide (wrap64 (sextI A 32) < wrap64 (sextI B 32)) := ⟨_, rfl⟩
      obtain ⟨l8, hl8⟩ : ∃ l8, l8 = decide (wrap64 a < wrap64 b) := ⟨_, rfl⟩
      rw [← hl4] at hv4 e4
      rw [← hl8] at hv8 e8
      clear hl4 hl8
      by_cases h8 : 74 ≤ op
      · rw [e8 (by simp only [amoOps, List.mem_cons, List.not_mem_nil, or_false] at hN ⊢; omega)]
        by_cases g1 : op ≤ 80
        · exact amoP8 op a b a b _ _ _ _ _ w hv8 (by simp only [amoOps, List.mem_cons, List.not_mem_nil, or_false] at hN ⊢; omega)
        · by_cases g2 : op ≤ 82
          · rcases l8 with _ | _
            · exact amoS8f op a b a b _ _ _ _ _ w hv8 rfl (by simp only [amoOps, List.mem_cons, List.not_mem_nil, or_false] at hN ⊢; omega)
            · exact amoS8t op a b a b _ _ _ _ _ w hv8 rfl (by simp only [amoOps, List.mem_cons, List.not_mem_nil, or_false] at hN ⊢; omega)
          · by_cases g3 : op = 83
            · by_cases hl : a < b
              · exact amoU8t op a b a b _ _ _ _ _ w hv8 (decide_eq_true hl) hl (by simp [g3])
              · exact amoU8f op a b a b _ _ _ _ _ w hv8 (decide_eq_false hl) (by omega) (by simp [g3])
            · by_cases hl : b < a
              · exact amoV8t op a b a b _ _ _ _ _ w hv8 (decide_eq_true hl) hl (by simp only [amoOps, List.mem_cons, List.not_mem_nil, or_false] at hN ⊢; omega)
              · exact amoV8f op a b a b _ _ _ _ _ w hv8 (decide_eq_false hl) (by omega) (by simp only [amoOps, List.mem_cons, List.not_mem_nil, or_false] at hN ⊢; omega)
      · rw [e4 (by simp only [amoOps, List.mem_cons, List.not_mem_nil, or_false] at hN ⊢; omega)]
        by_cases g1 : op ≤ 69
        · exact amoP4 op a b A B _ _ _ _ _ w hv4 (by simp only [amoOps, List.mem_cons, List.not_mem_nil, or_false] at hN ⊢; omega)
        · by_cases g2 : op ≤ 71
          · rcases l4 with _ | _
            · exact amoS4f op a b A B _ _ _ _ _ w hv4 rfl (by simp only [amoOps, List.mem_cons, List.not_mem_nil, or_false] at hN ⊢; omega)
            · exact amoS4t op a b A B _ _ _ _ _ w hv4 rfl (by simp only [amoOps, List.mem_cons, List.not_mem_nil, or_false] at hN ⊢; omega)
          · by_cases g3 : op = 72
            · by_cases hl : A < B
              · exact amoU4t op a b A B _ _ _ _ _ w hv4 (decide_eq_true hl) hl (by simp [g3])
              · exact amoU4f op a b A B _ _ _ _ _ w hv4 (decide_eq_false hl) (by omega) (by simp [g3])
            · by_cases hl : B < A
              · exact amoV4t op a b A B _ _ _ _ _ w hv4 (decide_eq_true hl) hl (by simp only [amoOps, List.mem_cons, List.not_mem_nil, or_false] at hN ⊢; omega)
              · exact amoV4f op a b A B _ _ _ _ _ w hv4 (decide_eq_false hl) (by omega) (by simp only [amoOps, List.mem_cons, List.not_mem_nil, or_false] at hN ⊢; omega)
    · unfold amoOk
      rw [decide_eq_false hN]
      unfold amoV
      rw [reckV_no hN, Int.zero_emod]
      have hop : op = 63 ∨ op = 64 ∨ op = 74 ∨ op = 75 := by simp only [amoOps, List.mem_cons, List.not_mem_nil, or_false] at hN; omega
      have hv4 := halves_any 4 a b (by omega) (by omega) a0 a1 b0 b1
      have hv8 := halves_any 8 a b (by omega) (by omega) a0 a1 b0 b1
      by_cases h8 : 74 ≤ op
      · exact amoN8 op a b _ _ _ _ _ false false w hv8 (by simp only [List.mem_cons, List.not_mem_nil, or_false]; omega)
      · exact amoN4 op a b _ _ _ _ _ false false w hv4 (by simp only [List.mem_cons, List.not_mem_nil, or_false]; omega)
set_option maxHeartbeats 1000000 in
theorem aanswers_any (w : World) : Calls Try.prog 9 #[] w fun e w' => e = .returned (.bool true) ∧ w = w' := by
  have c1 : ∀ w, Calls Try.prog 7 #[.int .i64 66, .int .u64 3, .int .u64 4] w fun e w' => e = .returned (.tuple #[.int .u64 7, .bool true]) ∧ w = w' := fun w => do_any 66 3 4 w (by decide) (by decide) (by decide) (by decide)
  have c2 : ∀ w, Calls Try.prog 10 #[.int .i64 74] w fun e w' => e = .returned (.int .i64 8) ∧ w = w' := fun w => awidth_any 74 w
  go_enter Try.func9, Try.ntmps9
  go_wp2_with fail
  refine (c1 _).mono ?_
  rintro e w' ⟨rfl, rfl⟩
  go_wp2_with fail
  refine (c2 _).mono ?_
  rintro e w' ⟨rfl, rfl⟩
  go_wp2_with fail
  go_ret
  exact ⟨rfl, rfl⟩
end Go.Proofs.Ytpalhkfipnbcnaa

set_option linter.unusedVariables false
set_option linter.unusedSimpArgs false
namespace Go.Proofs.Ytpalhkfipnbcnaa
open Go.RowKit
set_option maxRecDepth 100000
theorem amoV_bd64 (op a b : Int) : 0 ≤ amoV op a b ∧ amoV op a b < 18446744073709551616 := by
  have h := amoV_bd op a b
  rcases awid_one op with e | e | e <;> rw [e] at h
  · have : (2 : Int) ^ (8 * 4) = 4294967296 := rfl
    omega
  · have : (2 : Int) ^ (8 * 8) = 18446744073709551616 := rfl
    omega
  · have : (2 : Int) ^ (8 * 0) = 1 := rfl
    omega
theorem and_mask0 (x : Int) (h0 : 0 ≤ x) (h : x < 18446744073709551616) : bits .and .u64 x 4294967295 = x % 4294967296 := by
  obtain ⟨X, rfl⟩ := Int.eq_ofNat_of_zero_le h0
  have := u64_and_nat X 4294967295 (by omega) (by decide)
  rw [show X &&& 4294967295 = X % 2 ^ 32 from Nat.and_two_pow_sub_one_eq_mod X 32] at this
  exact this.trans (by rw [Int.natCast_emod]; rfl)
theorem and_mask1 (x : Int) (h0 : 0 ≤ x) (h : x < 18446744073709551616) : bits .and .u64 x 18446744073709551615 = x % 18446744073709551616 := by
  obtain ⟨X, rfl⟩ := Int.eq_ofNat_of_zero_le h0
  have := u64_and_nat X 18446744073709551615 (by omega) (by decide)
  rw [show X &&& 18446744073709551615 = X % 2 ^ 64 from Nat.and_two_pow_sub_one_eq_mod X 64] at this
  exact this.trans (by rw [Int.natCast_emod]; rfl)
section
variable (a b : Int) (a0 : 0 ≤ a) (a1 : a < 18446744073709551616) (b0 : 0 ≤ b) (b1 : b < 18446744073709551616)
include a0 a1 b0 b1
theorem and_twice : bits .and .u64 a b = bits .and .u64 b a ∧ bits .and .u64 (bits .and .u64 a b) b = bits .and .u64 a b := by
  obtain ⟨A, rfl⟩ := Int.eq_ofNat_of_zero_le a0
  obtain ⟨B, rfl⟩ := Int.eq_ofNat_of_zero_le b0
  have h := Nat.and_lt_two_pow (n := 64) A (y := B) (by omega)
  rw [u64_and_nat A B (by omega) (by omega), u64_and_nat B A (by omega) (by omega), u64_and_nat (A &&& B) B (by omega) (by omega), Nat.and_assoc, Nat.and_self, Nat.and_comm A B]
  exact ⟨rfl, rfl⟩
theorem or_twice : bits .or .u64 a b = bits .or .u64 b a ∧ bits .or .u64 (bits .or .u64 a b) b = bits .or .u64 a b := by
  obtain ⟨A, rfl⟩ := Int.eq_ofNat_of_zero_le a0
  obtain ⟨B, rfl⟩ := Int.eq_ofNat_of_zero_le b0
  have h := Nat.or_lt_two_pow (n := 64) (x := A) (y := B) (by omega) (by omega)
  rw [u64_or_nat A B (by omega) (by omega), u64_or_nat B A (by omega) (by omega), u64_or_nat (A ||| B) B (by omega) (by omega), Nat.or_assoc, Nat.or_self, Nat.or_comm A B]
  exact ⟨rfl, rfl⟩
theorem xor_twice : bits .xor .u64 (bits .xor .u64 a b) b = a := by
  obtain ⟨A, rfl⟩ := Int.eq_ofNat_of_zero_le a0
  obtain ⟨B, rfl⟩ := Int.eq_ofNat_of_zero_le b0
  have h := Nat.xor_lt_two_pow (n := 64) (x := A) (y := B) (by omega) (by omega)
  rw [u64_xor_nat A B (by omega) (by omega), u64_xor_nat (A ^^^ B) B (by omega) (by omega), Nat.xor_assoc, Nat.xor_self, Nat.xor_zero]
theorem lat1 (op : Int) (hop : op ∈ ([81, 82, 83, 84, 79, 80] : List Int)) : amoV op a b = amoV op b a ∧ amoV op (amoV op a b) b = amoV op a b := by
  have hd := amoV_bd64 op a b
  have hm : op ∈ ([76, 77, 78, 79, 80, 81, 82, 83, 84] : List Int) := by simp only [List.mem_cons, List.not_mem_nil, or_false] at hop ⊢; omega
  rw [amo_eq_d op _ b hm hd.1 hd.2 b0 b1, amo_eq_d op a b hm a0 a1 b0 b1, amo_eq_d op b a hm b0 b1 a0 a1]
  simp only [List.mem_cons, List.not_mem_nil, or_false] at hop
  have ga := and_twice a b a0 a1 b0 b1
  have go := or_twice a b a0 a1 b0 b1
  have gab := wbits_bd .and (by simp) a b a0 a1 b0 b1
  have gob := wbits_bd .or (by simp) a b a0 a1 b0 b1
  rcases hop with rfl | rfl | rfl | rfl | rfl | rfl
  · simp only [refV]; simp only [decide_eq_true_eq]; unfold wrap64; refine ⟨?_, ?_⟩ <;> simp <;> repeat' split
    all_goals omega
  · simp only [refV]; simp only [decide_eq_true_eq]; unfold wrap64; refine ⟨?_, ?_⟩ <;> simp <;> repeat' split
    all_goals omega
  · simp only [refV]; simp only [decide_eq_true_eq]; refine ⟨?_, ?_⟩ <;> simp <;> repeat' split
    all_goals omega
  · simp only [refV]; simp only [decide_eq_true_eq]; refine ⟨?_, ?_⟩ <;> simp <;> repeat' split
    all_goals omega
  · show bits .and .u64 a b % 18446744073709551616 = bits .and .u64 b a % 18446744073709551616 ∧ bits .and .u64 (bits .and .u64 a b % 18446744073709551616) b % 18446744073709551616 = bits .and .u64 a b % 18446744073709551616
    rw [Int.emod_eq_of_lt gab.1 gab.2, ga.2, ← ga.1]
    exact ⟨Int.emod_eq_of_lt gab.1 gab.2 |>.symm, Int.emod_eq_of_lt gab.1 gab.2⟩
  · show bits .or .u64 a b % 18446744073709551616 = bits .or .u64 b a % 18446744073709551616 ∧ bits .or .u64 (bits .or .u64 a b % 18446744073709551616) b % 18446744073709551616 = bits .or .u64 a b % 18446744073709551616
    rw [Int.emod_eq_of_lt gob.1 gob.2, go.2, ← go.1]
    exact ⟨Int.emod_eq_of_lt gob.1 gob.2 |>.symm, Int.emod_eq_of_lt gob.1 gob.2⟩
theorem lat41 (op : Int) (hop : op ∈ ([81, 82, 83, 84] : List Int)) : amoV op a b = a % 18446744073709551616 ∨ amoV op a b = b % 18446744073709551616 := by
  have hm : op ∈ ([76, 77, 78, 79, 80, 81, 82, 83, 84] : List Int) := by simp only [List.mem_cons, List.not_mem_nil, or_false] at hop ⊢; omega
  rw [amo_eq_d op a b hm a0 a1 b0 b1]
  simp only [List.mem_cons, List.not_mem_nil, or_false] at hop
  rcases hop with rfl | rfl | rfl | rfl
  all_goals
    simp only [refV]; simp only [decide_eq_true_eq]; simp; split
    all_goals simp
theorem lat40 (op : Int) (hop : op ∈ ([70, 71, 72, 73] : List Int)) : amoV op a b = a % 4294967296 ∨ amoV op a b = b % 4294967296 := by
  have hm : op ∈ ([65, 66, 67, 68, 69, 70, 71, 72, 73] : List Int) := by simp only [List.mem_cons, List.not_mem_nil, or_false] at hop ⊢; omega
  rw [amo_eq_w op a b _ _ hm rfl rfl a0 a1 b0 b1]
  simp only [List.mem_cons, List.not_mem_nil, or_false] at hop
  rcases hop with rfl | rfl | rfl | rfl
  all_goals
    simp only [refV]; simp only [decide_eq_true_eq]; simp; split
    all_goals simp
theorem sum_back1 : amoV 77 (amoV 77 a b) (IntKind.u64.wrap (-b)) = a % 18446744073709551616 := by
  have hn := IntKind.wrap_u64 (-b)
  have hd := amoV_bd64 77 a b
  rw [amoV_d 77 _ _ (by omega) hd.1 hd.2 (by omega) (by omega), amoV_d 77 a b (by omega) a0 a1 b0 b1]
  show IntKind.u64.wrap (IntKind.u64.wrap (a + b) % 18446744073709551616 + IntKind.u64.wrap (-b)) % 18446744073709551616 = _
  simp only [IntKind.wrap_u64]; omega
theorem xor_back1 : amoV 78 (amoV 78 a b) b = a % 18446744073709551616 := by
  have hd := amoV_bd64 78 a b
  have hb := wbits_bd .xor (by simp) a b a0 a1 b0 b1
  rw [amoV_d 78 _ _ (by omega) hd.1 hd.2 b0 b1, amoV_d 78 a b (by omega) a0 a1 b0 b1]
  show bits .xor .u64 (bits .xor .u64 a b % 18446744073709551616) b % 18446744073709551616 = _
  rw [Int.emod_eq_of_lt hb.1 hb.2, xor_twice a b a0 a1 b0 b1]
theorem swap_is1 : amoV 76 a b = b % 18446744073709551616 := amoV_d 76 a b (by omega) a0 a1 b0 b1
theorem swap_is0 : amoV 65 a b = b % 4294967296 := by
  rw [amo_eq_w 65 a b _ _ (by simp) rfl rfl a0 a1 b0 b1]
  show b % 4294967296 % 4294967296 = _
  omega
theorem sum_back0 : amoV 66 (amoV 66 a b) (IntKind.u64.wrap (-b)) = a % 4294967296 := by
  have hn := IntKind.wrap_u64 (-b)
  have hd := amoV_bd64 66 a b
  rw [amo_eq_w 66 _ _ _ _ (by simp) rfl rfl hd.1 hd.2 (by omega) (by omega), amo_eq_w 66 a b _ _ (by simp) rfl rfl a0 a1 b0 b1]
  show IntKind.u64.wrap (IntKind.u64.wrap (a % 4294967296 + b % 4294967296) % 4294967296 % 4294967296 + IntKind.u64.wrap (-b) % 4294967296) % 4294967296 = _
  simp only [IntKind.wrap_u64]; omega
theorem xor_back0 : amoV 67 (amoV 67 a b) b = a % 4294967296 := by
  have hd := amoV_bd64 67 a b
  have hb := wbits_bd .xor (by simp) (a % 4294967296) (b % 4294967296) (by omega) (by omega) (by omega) (by omega)
  rw [amo_eq_w 67 _ _ _ _ (by simp) rfl rfl hd.1 hd.2 b0 b1, amo_eq_w 67 a b _ _ (by simp) rfl rfl a0 a1 b0 b1]
  show bits .xor .u64 (bits .xor .u64 (a % 4294967296) (b % 4294967296) % 4294967296 % 4294967296) (b % 4294967296) % 4294967296 = _
  have h := bits_mod32 .xor (by simp) (bits .xor .u64 (a % 4294967296) (b % 4294967296) % 4294967296 % 4294967296) (b % 4294967296) (bits .xor .u64 (a % 4294967296) (b % 4294967296)) (b % 4294967296) (by omega) (by omega) (by omega) (by omega) hb.1 hb.2 (by omega) (by omega) (by omega) rfl
  rw [h, xor_twice _ _ (by omega) (by omega) (by omega) (by omega)]
  omega
theorem lat0 (op : Int) (hop : op ∈ ([70, 71, 72, 73, 68, 69] : List Int)) : amoV op a b = amoV op b a ∧ amoV op (amoV op a b) b = amoV op a b := by
  have hd := amoV_bd64 op a b
  have hm : op ∈ ([65, 66, 67, 68, 69, 70, 71, 72, 73] : List Int) := by simp only [List.mem_cons, List.not_mem_nil, or_false] at hop ⊢; omega
  rw [amo_eq_w op _ b _ _ hm rfl rfl hd.1 hd.2 b0 b1, amo_eq_w op a b _ _ hm rfl rfl a0 a1 b0 b1, amo_eq_w op b a _ _ hm rfl rfl b0 b1 a0 a1]
  simp only [List.mem_cons, List.not_mem_nil, or_false] at hop
  obtain ⟨A, hA⟩ : ∃ A, A = a % 4294967296 := ⟨_, rfl⟩
  obtain ⟨B, hB⟩ : ∃ B, B = b % 4294967296 := ⟨_, rfl⟩
  rw [← hA, ← hB]
  have ka : 0 ≤ A ∧ A < 4294967296 := by omega
  have kb : 0 ≤ B ∧ B < 4294967296 := by omega
  clear hd hA hB a0 a1 b0 b1
  have ga := and_twice A B (by omega) (by omega) (by omega) (by omega)
  have go := or_twice A B (by omega) (by omega) (by omega) (by omega)
  have gab := wbits_bd .and (by simp) A B (by omega) (by omega) (by omega) (by omega)
  have gob := wbits_bd .or (by simp) A B (by omega) (by omega) (by omega) (by omega)
  have la := bits_mod32 .and (by simp) (bits .and .u64 A B % 4294967296 % 4294967296) B (bits .and .u64 A B) B (by omega) (by omega) (by omega) (by omega) gab.1 gab.2 (by omega) (by omega) (by omega) rfl
  have lo := bits_mod32 .or (by simp) (bits .or .u64 A B % 4294967296 % 4294967296) B (bits .or .u64 A B) B (by omega) (by omega) (by omega) (by omega) gob.1 gob.2 (by omega) (by omega) (by omega) rfl
  rcases hop with rfl | rfl | rfl | rfl | rfl | rfl
  · simp only [refV, sextI_32]; simp only [decide_eq_true_eq]; unfold wrap64; refine ⟨?_, ?_⟩ <;> simp <;> repeat' split
    all_goals omega
  · simp only [refV, sextI_32]; simp only [decide_eq_true_eq]; unfold wrap64; refine ⟨?_, ?_⟩ <;> simp <;> repeat' split
    all_goals omega
  · simp only [refV]; simp only [decide_eq_true_eq]; refine ⟨?_, ?_⟩ <;> simp <;> repeat' split
    all_goals omega
  · simp only [refV]; simp only [decide_eq_true_eq]; refine ⟨?_, ?_⟩ <;> simp <;> repeat' split
    all_goals omega
  · show bits .and .u64 A B % 4294967296 = bits .and .u64 B A % 4294967296 ∧ bits .and .u64 (bits .and .u64 A B % 4294967296 % 4294967296) B % 4294967296 = bits .and .u64 A B % 4294967296
    exact ⟨by rw [ga.1], by rw [la, ga.2]⟩
  · show bits .or .u64 A B % 4294967296 = bits .or .u64 B A % 4294967296 ∧ bits .or .u64 (bits .or .u64 A B % 4294967296 % 4294967296) B % 4294967296 = bits .or .u64 A B % 4294967296
    exact ⟨by rw [go.1], by rw [lo, go.2]⟩
end
end Go.Proofs.Ytpalhkfipnbcnaa

set_option linter.unusedVariables false
set_option linter.unusedSimpArgs false
namespace Go.Proofs.Ytpalhkfipnbcnaa
open Go.RowKit
set_option maxRecDepth 100000
theorem flat_set (A : List Rg) (q : Rg) (x : Int) : (flat rgC (A ++ [q])).set (A.length * 3 + 1) (.int .u64 x) = flat rgC (A ++ [⟨q.s, x, q.p⟩]) := by
  rw [flat_append, flat_append]
  have hl := flat_length rgC_len A
  rw [List.set_append, if_neg (by omega), hl, show A.length * 3 + 1 - A.length * 3 = 1 by omega]
  rfl
theorem row_end {w : World} {base g cap n : Nat} {A : List Rg} {q : Rg} (h : Row w base (.slice (some ⟨g, 0, none⟩) n cap) (A ++ [q])) (x : Int) :
    Row (w.setCell ⟨g, A.length * 3 + 1, none⟩ (.int .u64 x)) base (.slice (some ⟨g, 0, none⟩) n cap) (A ++ [⟨q.s, x, q.p⟩]) := by
  have hn : n = (A ++ [q]).length := by
    obtain ⟨_, _, _, h1, _⟩ := h.form (by simp); injection h1
  subst hn
  refine ⟨?_, fun e => by simp at e⟩
  have h1 := h.1.stored (A.length * 3 + 1) (.int .u64 x)
  rw [flat_set] at h1
  simpa using h1.1
/-- What a join leaves. -/
def JoinPost (base : Nat) (w : World) (L : List Rg) (e : Ending) (w' : World) : Prop := ∃ v, e = .returned v ∧ Row w' base v L ∧ Below base w w'
theorem join_take (L M : List Rg) (k : Nat) (r : Rg) (hk : M[k]? = some r) : join L (M.take (k + 1)) = joinOne (join L (M.take k)) r := by
  rw [List.take_add_one, hk]
  simp [join, List.foldl_append]
theorem joinOne_len (L : List Rg) (r : Rg) : (joinOne L r).length ≤ L.length + 1 := by
  rcases last_cases L with rfl | ⟨A, q, rfl⟩
  · simp [joinOne_nil]
  · by_cases hc : q.e = r.s ∧ q.p = r.p
    · rw [joinOne_yes A q r hc.1 hc.2]; simp
    · rw [joinOne_no A q r hc]; simp
theorem join_len (L M : List Rg) : (join L M).length ≤ L.length + M.length := by
  induction M generalizing L with
  | nil => simp [join]
  | cons r M ih =>
    have := ih (joinOne L r)
    have := joinOne_len L r
    show (join (joinOne L r) M).length ≤ _
    simp only [List.length_cons]; omega
structure JR (w : World) (base : Nat) (L M : List Rg) (bM : Nat) (vM : Value) (k : Nat) (v0 : Value) (wr : World) : Prop where
  row : Row wr base v0 (join L (M.take k))
  more : Row wr bM vM M
  apart : ∀ g, vM.ownBlock = some g → v0.ownBlock ≠ some g
  below : Below base w wr
set_option maxHeartbeats 4000000 in
theorem join_any {w : World} {base bM : Nat} {vL vM : Value} {L M : List Rg} (hL : Row w base vL L) (hM : Row w bM vM M) (hne : ∀ g, vM.ownBlock = some g → vL.ownBlock ≠ some g) (hbase : base ≤ w.heap.size) (hl1 : L.length ≤ 10000) (hl2 : M.length ≤ 10000) :
    Calls Try.prog 93 #[vL, vM] w (JoinPost base w (join L M)) := by
  obtain ⟨A, cap, rfl⟩ := hM.shape
  have h0 : JR w base L M bM (.slice A M.length cap) 0 vL w := ⟨hL, hM, hne, Below.refl _ _⟩
  have H0 := Lib.hid h0; clear h0 hL hM hne
  have hlI : (M.length : Int) ≤ 10000 := by omega
  obtain ⟨n, hn⟩ : ∃ n, n = M.length := ⟨_, rfl⟩
  rw [← hn] at hlI H0 ⊢
  have HN := Lib.hid hn; clear hn
  have HL1 := Lib.hid hl1; clear hl1
  have HL2 := Lib.hid hl2; clear hl2
  have HBASE := Lib.hid hbase; clear hbase
  go_enter Try.func93, Try.ntmps93
  go_wp2_with fail
  go_loopw [0, 6, 7, 10] (fun v0 _ _ i wr => ∃ k : Nat, k ≤ n ∧ i = .int .i64 k ∧ JR w base L M bM (.slice A n cap) k v0 wr) (fun _ _ _ i _ => n - (intOf i).toNat)
  case atStart => exact ⟨0, by omega, rfl, H0.out⟩
  case round =>
    obtain ⟨k, hk, rfl, hj⟩ := hrel
    clear H0
    have HJ := Lib.hid hj; clear hj
    by_cases hlt : k < n
    · have hltL : k < M.length := by have := HN.out; omega
      obtain ⟨r, hr⟩ : ∃ r, M[k]? = some r := ⟨M[k], List.getElem?_eq_getElem hltL⟩
      have hne : M ≠ [] := by intro e; rw [e] at hltL; simp at hltL
      obtain ⟨g, cap', cur, hA, _, hnc, hg, _⟩ := HJ.out.more.form hne
      have hA' : A = some ⟨g, 0, none⟩ := by injection hA
      subst hA'
      obtain ⟨c0, c1, c2⟩ := row_cells HJ.out.more k r hr
      clear hA hnc hg hne hltL
      have hstep := join_take L M k r hr
      have HRK := Lib.hid hr; clear hr
      have hkI : (k : Int) < (n : Int) := by omega
      rename_i v0 _ _ _
      obtain ⟨J, hJ⟩ : ∃ J, J = join L (M.take k) := ⟨_, rfl⟩
      have hrow := HJ.out.row
      rw [← hJ] at hrow hstep
      have hjl : J.length ≤ 20000 := by
        have h1 := join_len L (M.take k)
        have h2 := HL1.out
        have h3 := HL2.out
        rw [← hJ, List.length_take] at h1; omega
      have HS := Lib.hid hstep; clear hstep
      have HJE := Lib.hid hJ; clear hJ
      have HJL := Lib.hid hjl; clear hjl
      rcases last_cases J with rfl | ⟨B, q, rfl⟩
      · obtain rfl := hrow.2 rfl
        have HAP := Lib.hid HJ.out.apart
        have hW : ∀ j, (wr.alloc (.cells #[.int .u64 r.s, .int .u64 r.e, .int .i64 r.p] 112)).cell? ⟨wr.heap.size, j, none⟩ = (#[.int .u64 r.s, .int .u64 r.e, .int .i64 r.p] : Array Value)[j]? := fun j => cell_of_row _ _ j _ 112 (0, 0) (heap_alloc_new wr _)
        have b0 : (wr.alloc (.cells #[.int .u64 r.s, .int .u64 r.e, .int .i64 r.p] 112)).cell? ⟨wr.heap.size, 0, none⟩ = some (.int .u64 r.s) := hW 0
        have b1 : (wr.alloc (.cells #[.int .u64 r.s, .int .u64 r.e, .int .i64 r.p] 112)).cell? ⟨wr.heap.size, 1, none⟩ = some (.int .u64 r.e) := hW 1
        have b2 : (wr.alloc (.cells #[.int .u64 r.s, .int .u64 r.e, .int .i64 r.p] 112)).cell? ⟨wr.heap.size, 2, none⟩ = some (.int .i64 r.p) := hW 2
        have hrow2 := hrow.bl (Bl.new wr (.cells #[.int .u64 r.s, .int .u64 r.e, .int .i64 r.p] 112))
        have hmore2 := HJ.out.more.bl (Bl.new wr (.cells #[.int .u64 r.s, .int .u64 r.e, .int .i64 r.p] 112))
        have hbb : base ≤ wr.heap.size := Nat.le_trans HBASE.out HJ.out.below.size
        have hbel2 := HJ.out.below.alloc hbb (.cells #[.int .u64 r.s, .int .u64 r.e, .int .i64 r.p] 112)
        have hbw : base ≤ (wr.alloc (.cells #[.int .u64 r.s, .int .u64 r.e, .int .i64 r.p] 112)).heap.size := by simp; omega
        clear hW hbb hrow
        have HROW2 := Lib.hid hrow2; clear hrow2
        have HMORE2 := Lib.hid hmore2; clear hmore2
        have HBEL2 := Lib.hid hbel2; clear hbel2
        have HBW := Lib.hid hbw; clear hbw
        go_wp2_with fail
        generalize wr.alloc (.cells #[.int .u64 r.s, .int .u64 r.e, .int .i64 r.p] 112) = W at *
        go_quiet (fail)
        have hrowD : Row ((W.drewN nq).alloc (.cells #[.int .u64 r.s, .int .u64 r.e, .int .i64 r.p] 112)) base (.slice none 0 0) [] := (HROW2.out.bl ((Bl.refl W).drewN nq)).bl (Bl.new _ _)
        have hbel : Below base w ((W.drewN nq).alloc (.cells #[.int .u64 r.s, .int .u64 r.e, .int .i64 r.p] 112)) := (HBEL2.out.trans (((Bl.refl W).drewN nq).mono HBW.out)).alloc HBW.out _
        obtain ⟨v', W', hrun, hrow3, hgr, hown⟩ := row_push hrowD ⟨r.s, r.e, r.p⟩ W.heap.size 75 (heap_alloc_new (W.drewN nq) _) (by have := HJL.out; omega) (Nat.le_trans HBW.out (by simp))
        have hmore : Row W' bM (.slice (some ⟨g, 0, none⟩) n cap) M := (HMORE2.out.bl (((Bl.refl W).drewN nq).alloc (.cells #[.int .u64 r.s, .int .u64 r.e, .int .i64 r.p] 112))).kept fun g' hg' => by
          have e : g = g' := by simpa [Value.ownBlock] using hg'
          subst e
          exact hgr.block g (Nat.lt_of_lt_of_le (HMORE2.out.lt g rfl).2 (by simp)) (fun e => HAP.out g rfl e.symm)
        have hj2 : JR w base L M bM (.slice (some ⟨g, 0, none⟩) n cap) (k + 1) v' W' := ⟨by rw [HS.out, joinOne_nil]; exact hrow3, hmore, fun g' hg' e => by
          have e2 : g = g' := by simpa [Value.ownBlock] using hg'
          subst e2
          rcases hown with e3 | e3
          · rw [e3] at e; exact HAP.out g rfl e
          · rw [e3] at e
            have := (HMORE2.out.lt g rfl).2
            have e4 : ((W.drewN nq).alloc (.cells #[.int .u64 r.s, .int .u64 r.e, .int .i64 r.p] 112)).heap.size = g := by simpa using e
            simp at e4; omega, hbel.grown hgr (Nat.le_trans HBW.out (by simp)) (fun q' hq' => (hrowD.lt q' hq').1)⟩
        have HJ2 := Lib.hid hj2; clear hj2 hmore hrow3 hgr hown hrowD hbel
        have HRUN := Lib.hid hrun; clear hrun
        go_wp2_with (first | (at_builtin; refine wpl_append_run rfl (.tmp 45) (.tmp 47) 75 rfl _ _ _ rfl rfl HRUN.out ?_))
        refine ⟨⟨k + 1, by omega, by go_num, HJ2.out⟩, ?_⟩
        simp only [intOf]; omega
      · 
        have HAP := Lib.hid HJ.out.apart
        have hW : ∀ j, (wr.alloc (.cells #[.int .u64 r.s, .int .u64 r.e, .int .i64 r.p] 112)).cell? ⟨wr.heap.size, j, none⟩ = (#[.int .u64 r.s, .int .u64 r.e, .int .i64 r.p] : Array Value)[j]? := fun j => cell_of_row _ _ j _ 112 (0, 0) (heap_alloc_new wr _)
        have b0 : (wr.alloc (.cells #[.int .u64 r.s, .int .u64 r.e, .int .i64 r.p] 112)).cell? ⟨wr.heap.size, 0, none⟩ = some (.int .u64 r.s) := hW 0
        have b1 : (wr.alloc (.cells #[.int .u64 r.s, .int .u64 r.e, .int .i64 r.p] 112)).cell? ⟨wr.heap.size, 1, none⟩ = some (.int .u64 r.e) := hW 1
        have b2 : (wr.alloc (.cells #[.int .u64 r.s, .int .u64 r.e, .int .i64 r.p] 112)).cell? ⟨wr.heap.size, 2, none⟩ = some (.int .i64 r.p) := hW 2
        have hrow2 := hrow.bl (Bl.new wr (.cells #[.int .u64 r.s, .int .u64 r.e, .int .i64 r.p] 112))
        have hmore2 := HJ.out.more.bl (Bl.new wr (.cells #[.int .u64 r.s, .int .u64 r.e, .int .i64 r.p] 112))
        have hbb : base ≤ wr.heap.size := Nat.le_trans HBASE.out HJ.out.below.size
        have hbel2 := HJ.out.below.alloc hbb (.cells #[.int .u64 r.s, .int .u64 r.e, .int .i64 r.p] 112)
        have hbw : base ≤ (wr.alloc (.cells #[.int .u64 r.s, .int .u64 r.e, .int .i64 r.p] 112)).heap.size := by simp; omega
        clear hW hbb hrow
        have HROW2 := Lib.hid hrow2; clear hrow2
        have HMORE2 := Lib.hid hmore2; clear hmore2
        have HBEL2 := Lib.hid hbel2; clear hbel2
        have HBW := Lib.hid hbw; clear hbw
        have hq : (B ++ [q])[B.length]? = some q := by simp
        obtain ⟨g0, cap0, _, hv0, hbg0, _, _, _⟩ := HROW2.out.form (by simp)
        simp only [List.length_append, List.length_singleton] at hv0
        subst hv0
        obtain ⟨d0, d1, d2⟩ := row_cells HROW2.out B.length q hq
        have hBl : B.length ≤ 20000 := by have := HJL.out; simp at this; omega
        have HE := Lib.hid (row_end HROW2.out r.e)
        clear hq
        obtain ⟨j, hj⟩ : ∃ j, j = B.length := ⟨_, rfl⟩
        rw [← hj] at d0 d1 d2 hBl HE HROW2 HAP HJ ⊢
        have HJJ := Lib.hid hj; clear hj
        have fz := HROW2.out.free (j * 3 + 1)
        have hjI : (j : Int) ≤ 20000 := by omega
        by_cases e1 : q.e = r.s
        · have t1 : (q.e == r.s) = true := by simp [e1]
          by_cases e2 : q.p = r.p
          · have t2 : (q.p == r.p) = true := by simp [e2]
            have HJY := Lib.hid (joinOne_yes B q r e1 e2)
            clear e1 e2
            go_wp2_with fail
            generalize wr.alloc (.cells #[.int .u64 r.s, .int .u64 r.e, .int .i64 r.p] 112) = W at *
            go_quiet (fail)
            have hrowE := row_end (HROW2.out.bl ((Bl.refl W).drewN nq)) r.e
            rw [← HJJ.out] at hrowE
            have hj2 : JR w base L M bM (.slice (some ⟨g, 0, none⟩) n cap) (k + 1) (.slice (some ⟨g0, 0, none⟩) (j + 1) cap0) ((W.drewN nq).setCell ⟨g0, j * 3 + 1, none⟩ (.int .u64 r.e)) := ⟨by rw [HS.out, HJY.out]; exact hrowE, (HMORE2.out.bl ((Bl.refl W).drewN nq)).kept fun g' hg' => Below.heap_setCell _ _ _ _ (fun e => by
              have e2 : g = g' := by simpa [Value.ownBlock] using hg'
              exact HAP.out g rfl (by rw [e2, e]; rfl)), fun g' hg' => HAP.out g' hg', (HBEL2.out.trans (((Bl.refl W).drewN nq).mono HBW.out)).setCell hbg0 _⟩
            have HJ2 := Lib.hid hj2; clear hj2 hrowE
            go_wp2_with fail
            refine ⟨⟨k + 1, by omega, by go_num, HJ2.out⟩, ?_⟩
            simp only [intOf]; omega
          · have t2 : (q.p == r.p) = false := by simp [e2]
            have HJN := Lib.hid (joinOne_no B q r (fun h => e2 h.2))
            clear e1 e2
            go_wp2_with fail
            generalize wr.alloc (.cells #[.int .u64 r.s, .int .u64 r.e, .int .i64 r.p] 112) = W at *
            go_quiet (fail)
            have hrowD : Row ((W.drewN nq).alloc (.cells #[.int .u64 r.s, .int .u64 r.e, .int .i64 r.p] 112)) base (.slice (some ⟨g0, 0, none⟩) (j + 1) cap0) (B ++ [q]) := (HROW2.out.bl ((Bl.refl W).drewN nq)).bl (Bl.new _ _)
            have hbel : Below base w ((W.drewN nq).alloc (.cells #[.int .u64 r.s, .int .u64 r.e, .int .i64 r.p] 112)) := (HBEL2.out.trans (((Bl.refl W).drewN nq).mono HBW.out)).alloc HBW.out _
            obtain ⟨v', W', hrun, hrow3, hgr, hown⟩ := row_push hrowD ⟨r.s, r.e, r.p⟩ W.heap.size 75 (heap_alloc_new (W.drewN nq) _) (by have := HJL.out; omega) (Nat.le_trans HBW.out (by simp))
            have hmore : Row W' bM (.slice (some ⟨g, 0, none⟩) n cap) M := (HMORE2.out.bl (((Bl.refl W).drewN nq).alloc (.cells #[.int .u64 r.s, .int .u64 r.e, .int .i64 r.p] 112))).kept fun g' hg' => by
              have e : g = g' := by simpa [Value.ownBlock] using hg'
              subst e
              exact hgr.block g (Nat.lt_of_lt_of_le (HMORE2.out.lt g rfl).2 (by simp)) (fun e => HAP.out g rfl e.symm)
            have hj2 : JR w base L M bM (.slice (some ⟨g, 0, none⟩) n cap) (k + 1) v' W' := ⟨by rw [HS.out, HJN.out]; exact hrow3, hmore, fun g' hg' e => by
              have e2 : g = g' := by simpa [Value.ownBlock] using hg'
              subst e2
              rcases hown with e3 | e3
              · rw [e3] at e; exact HAP.out g rfl e
              · rw [e3] at e
                have := (HMORE2.out.lt g rfl).2
                have e4 : ((W.drewN nq).alloc (.cells #[.int .u64 r.s, .int .u64 r.e, .int .i64 r.p] 112)).heap.size = g := by simpa using e
                simp at e4; omega, hbel.grown hgr (Nat.le_trans HBW.out (by simp)) (fun q' hq' => (hrowD.lt q' hq').1)⟩
            have HJ2 := Lib.hid hj2; clear hj2 hmore hrow3 hgr hown hrowD hbel
            have HRUN := Lib.hid hrun; clear hrun
            go_wp2_with (first | (at_builtin; refine wpl_append_run rfl (.tmp 45) (.tmp 47) 75 rfl _ _ _ rfl rfl HRUN.out ?_))
            refine ⟨⟨k + 1, by omega, by go_num, HJ2.out⟩, ?_⟩
            simp only [intOf]; omega
        · have t1 : (q.e == r.s) = false := by simp [e1]
          have HJN := Lib.hid (joinOne_no B q r (fun h => e1 h.1))
          clear e1
          go_wp2_with fail
          generalize wr.alloc (.cells #[.int .u64 r.s, .int .u64 r.e, .int .i64 r.p] 112) = W at *
          go_quiet (fail)
          have hrowD : Row ((W.drewN nq).alloc (.cells #[.int .u64 r.s, .int .u64 r.e, .int .i64 r.p] 112)) base (.slice (some ⟨g0, 0, none⟩) (j + 1) cap0) (B ++ [q]) := (HROW2.out.bl ((Bl.refl W).drewN nq)).bl (Bl.new _ _)
          have hbel : Below base w ((W.drewN nq).alloc (.cells #[.int .u64 r.s, .int .u64 r.e, .int .i64 r.p] 112)) := (HBEL2.out.trans (((Bl.refl W).drewN nq).mono HBW.out)).alloc HBW.out _
          obtain ⟨v', W', hrun, hrow3, hgr, hown⟩ := row_push hrowD ⟨r.s, r.e, r.p⟩ W.heap.size 75 (heap_alloc_new (W.drewN nq) _) (by have := HJL.out; omega) (Nat.le_trans HBW.out (by simp))
          have hmore : Row W' bM (.slice (some ⟨g, 0, none⟩) n cap) M := (HMORE2.out.bl (((Bl.refl W).drewN nq).alloc (.cells #[.int .u64 r.s, .int .u64 r.e, .int .i64 r.p] 112))).kept fun g' hg' => by
            have e : g = g' := by simpa [Value.ownBlock] using hg'
            subst e
            exact hgr.block g (Nat.lt_of_lt_of_le (HMORE2.out.lt g rfl).2 (by simp)) (fun e => HAP.out g rfl e.symm)
          have hj2 : JR w base L M bM (.slice (some ⟨g, 0, none⟩) n cap) (k + 1) v' W' := ⟨by rw [HS.out, HJN.out]; exact hrow3, hmore, fun g' hg' e => by
            have e2 : g = g' := by simpa [Value.ownBlock] using hg'
            subst e2
            rcases hown with e3 | e3
            · rw [e3] at e; exact HAP.out g rfl e
            · rw [e3] at e
              have := (HMORE2.out.lt g rfl).2
              have e4 : ((W.drewN nq).alloc (.cells #[.int .u64 r.s, .int .u64 r.e, .int .i64 r.p] 112)).heap.size = g := by simpa using e
              simp at e4; omega, hbel.grown hgr (Nat.le_trans HBW.out (by simp)) (fun q' hq' => (hrowD.lt q' hq').1)⟩
          have HJ2 := Lib.hid hj2; clear hj2 hmore hrow3 hgr hown hrowD hbel
          have HRUN := Lib.hid hrun; clear hrun
          go_wp2_with (first | (at_builtin; refine wpl_append_run rfl (.tmp 45) (.tmp 47) 75 rfl _ _ _ rfl rfl HRUN.out ?_))
          refine ⟨⟨k + 1, by omega, by go_num, HJ2.out⟩, ?_⟩
          simp only [intOf]; omega
    · obtain rfl : k = n := by omega
      have hfin := HJ.out.row
      rw [HN.out, List.take_length] at hfin
      have HF := Lib.hid hfin; clear hfin
      go_wp2_with fail
      go_ret
      exact ⟨_, rfl, HF.out, HJ.out.below⟩
end Go.Proofs.Ytpalhkfipnbcnaa
