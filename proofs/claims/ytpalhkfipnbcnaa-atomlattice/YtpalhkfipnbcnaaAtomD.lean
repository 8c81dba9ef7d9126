/-
  Atomic operators: least and greatest, sums and back: plain facts.
-/
import Derived.Test.YtpalhkfipnbcnaaAtomC
set_option linter.unusedVariables false
set_option linter.unusedSimpArgs false
namespace Go.Proofs.Ytpalhkfipnbcnaa
open Go.RowKit
set_option maxRecDepth 100000
theorem amoV_bd64 (op a b : Int) : 0 ≤ amoV op a b ∧ amoV op a b < 18446744073709551616 := by
  have h := amoV_bd op a b
  rcases awid_one op with e | e | e <;> rw [e] at h
  · have : (2 : Int) ^ (8 * 4) = 4294967296 := rfl
    omega
  · have : (2 : Int) ^ (8 * 8) = 18446744073709551616 := rfl
    omega
  · have : (2 : Int) ^ (8 * 0) = 1 := rfl
    omega
theorem and_mask0 (x : Int) (h0 : 0 ≤ x) (h : x < 18446744073709551616) : bits .and .u64 x 4294967295 = x % 4294967296 := by
  obtain ⟨X, rfl⟩ := Int.eq_ofNat_of_zero_le h0
  have := u64_and_nat X 4294967295 (by omega) (by decide)
  rw [show X &&& 4294967295 = X % 2 ^ 32 from Nat.and_two_pow_sub_one_eq_mod X 32] at this
  exact this.trans (by rw [Int.natCast_emod]; rfl)
theorem and_mask1 (x : Int) (h0 : 0 ≤ x) (h : x < 18446744073709551616) : bits .and .u64 x 18446744073709551615 = x % 18446744073709551616 := by
  obtain ⟨X, rfl⟩ := Int.eq_ofNat_of_zero_le h0
  have := u64_and_nat X 18446744073709551615 (by omega) (by decide)
  rw [show X &&& 18446744073709551615 = X % 2 ^ 64 from Nat.and_two_pow_sub_one_eq_mod X 64] at this
  exact this.trans (by rw [Int.natCast_emod]; rfl)
section
variable (a b : Int) (a0 : 0 ≤ a) (a1 : a < 18446744073709551616) (b0 : 0 ≤ b) (b1 : b < 18446744073709551616)
include a0 a1 b0 b1
theorem and_twice : bits .and .u64 a b = bits .and .u64 b a ∧ bits .and .u64 (bits .and .u64 a b) b = bits .and .u64 a b := by
  obtain ⟨A, rfl⟩ := Int.eq_ofNat_of_zero_le a0
  obtain ⟨B, rfl⟩ := Int.eq_ofNat_of_zero_le b0
  have h := Nat.and_lt_two_pow (n := 64) A (y := B) (by omega)
  rw [u64_and_nat A B (by omega) (by omega), u64_and_nat B A (by omega) (by omega), u64_and_nat (A &&& B) B (by omega) (by omega), Nat.and_assoc, Nat.and_self, Nat.and_comm A B]
  exact ⟨rfl, rfl⟩
theorem or_twice : bits .or .u64 a b = bits .or .u64 b a ∧ bits .or .u64 (bits .or .u64 a b) b = bits .or .u64 a b := by
  obtain ⟨A, rfl⟩ := Int.eq_ofNat_of_zero_le a0
  obtain ⟨B, rfl⟩ := Int.eq_ofNat_of_zero_le b0
  have h := Nat.or_lt_two_pow (n := 64) (x := A) (y := B) (by omega) (by omega)
  rw [u64_or_nat A B (by omega) (by omega), u64_or_nat B A (by omega) (by omega), u64_or_nat (A ||| B) B (by omega) (by omega), Nat.or_assoc, Nat.or_self, Nat.or_comm A B]
  exact ⟨rfl, rfl⟩
theorem xor_twice : bits .xor .u64 (bits .xor .u64 a b) b = a := by
  obtain ⟨A, rfl⟩ := Int.eq_ofNat_of_zero_le a0
  obtain ⟨B, rfl⟩ := Int.eq_ofNat_of_zero_le b0
  have h := Nat.xor_lt_two_pow (n := 64) (x := A) (y := B) (by omega) (by omega)
  rw [u64_xor_nat A B (by omega) (by omega), u64_xor_nat (A ^^^ B) B (by omega) (by omega), Nat.xor_assoc, Nat.xor_self, Nat.xor_zero]
theorem lat1 (op : Int) (hop : op ∈ ([81, 82, 83, 84, 79, 80] : List Int)) : amoV op a b = amoV op b a ∧ amoV op (amoV op a b) b = amoV op a b := by
  have hd := amoV_bd64 op a b
  have hm : op ∈ ([76, 77, 78, 79, 80, 81, 82, 83, 84] : List Int) := by simp only [List.mem_cons, List.not_mem_nil, or_false] at hop ⊢; omega
  rw [amo_eq_d op _ b hm hd.1 hd.2 b0 b1, amo_eq_d op a b hm a0 a1 b0 b1, amo_eq_d op b a hm b0 b1 a0 a1]
  simp only [List.mem_cons, List.not_mem_nil, or_false] at hop
  have ga := and_twice a b a0 a1 b0 b1
  have go := or_twice a b a0 a1 b0 b1
  have gab := wbits_bd .and (by simp) a b a0 a1 b0 b1
  have gob := wbits_bd .or (by simp) a b a0 a1 b0 b1
  rcases hop with rfl | rfl | rfl | rfl | rfl | rfl
  · simp only [refV]; simp only [decide_eq_true_eq]; unfold wrap64; refine ⟨?_, ?_⟩ <;> simp <;> repeat' split
    all_goals omega
  · simp only [refV]; simp only [decide_eq_true_eq]; unfold wrap64; refine ⟨?_, ?_⟩ <;> simp <;> repeat' split
    all_goals omega
  · simp only [refV]; simp only [decide_eq_true_eq]; refine ⟨?_, ?_⟩ <;> simp <;> repeat' split
    all_goals omega
  · simp only [refV]; simp only [decide_eq_true_eq]; refine ⟨?_, ?_⟩ <;> simp <;> repeat' split
    all_goals omega
  · show bits .and .u64 a b % 18446744073709551616 = bits .and .u64 b a % 18446744073709551616 ∧ bits .and .u64 (bits .and .u64 a b % 18446744073709551616) b % 18446744073709551616 = bits .and .u64 a b % 18446744073709551616
    rw [Int.emod_eq_of_lt gab.1 gab.2, ga.2, ← ga.1]
    exact ⟨Int.emod_eq_of_lt gab.1 gab.2 |>.symm, Int.emod_eq_of_lt gab.1 gab.2⟩
  · show bits .or .u64 a b % 18446744073709551616 = bits .or .u64 b a % 18446744073709551616 ∧ bits .or .u64 (bits .or .u64 a b % 18446744073709551616) b % 18446744073709551616 = bits .or .u64 a b % 18446744073709551616
    rw [Int.emod_eq_of_lt gob.1 gob.2, go.2, ← go.1]
    exact ⟨Int.emod_eq_of_lt gob.1 gob.2 |>.symm, Int.emod_eq_of_lt gob.1 gob.2⟩
theorem lat41 (op : Int) (hop : op ∈ ([81, 82, 83, 84] : List Int)) : amoV op a b = a % 18446744073709551616 ∨ amoV op a b = b % 18446744073709551616 := by
  have hm : op ∈ ([76, 77, 78, 79, 80, 81, 82, 83, 84] : List Int) := by simp only [List.mem_cons, List.not_mem_nil, or_false] at hop ⊢; omega
  rw [amo_eq_d op a b hm a0 a1 b0 b1]
  simp only [List.mem_cons, List.not_mem_nil, or_false] at hop
  rcases hop with rfl | rfl | rfl | rfl
  all_goals
    simp only [refV]; simp only [decide_eq_true_eq]; simp; split
    all_goals simp
theorem lat40 (op : Int) (hop : op ∈ ([70, 71, 72, 73] : List Int)) : amoV op a b = a % 4294967296 ∨ amoV op a b = b % 4294967296 := by
  have hm : op ∈ ([65, 66, 67, 68, 69, 70, 71, 72, 73] : List Int) := by simp only [List.mem_cons, List.not_mem_nil, or_false] at hop ⊢; omega
  rw [amo_eq_w op a b _ _ hm rfl rfl a0 a1 b0 b1]
  simp only [List.mem_cons, List.not_mem_nil, or_false] at hop
  rcases hop with rfl | rfl | rfl | rfl
  all_goals
    simp only [refV]; simp only [decide_eq_true_eq]; simp; split
    all_goals simp
theorem sum_back1 : amoV 77 (amoV 77 a b) (IntKind.u64.wrap (-b)) = a % 18446744073709551616 := by
  have hn := IntKind.wrap_u64 (-b)
  have hd := amoV_bd64 77 a b
  rw [amoV_d 77 _ _ (by omega) hd.1 hd.2 (by omega) (by omega), amoV_d 77 a b (by omega) a0 a1 b0 b1]
  show IntKind.u64.wrap (IntKind.u64.wrap (a + b) % 18446744073709551616 + IntKind.u64.wrap (-b)) % 18446744073709551616 = _
  simp only [IntKind.wrap_u64]; omega
theorem xor_back1 : amoV 78 (amoV 78 a b) b = a % 18446744073709551616 := by
  have hd := amoV_bd64 78 a b
  have hb := wbits_bd .xor (by simp) a b a0 a1 b0 b1
  rw [amoV_d 78 _ _ (by omega) hd.1 hd.2 b0 b1, amoV_d 78 a b (by omega) a0 a1 b0 b1]
  show bits .xor .u64 (bits .xor .u64 a b % 18446744073709551616) b % 18446744073709551616 = _
  rw [Int.emod_eq_of_lt hb.1 hb.2, xor_twice a b a0 a1 b0 b1]
theorem swap_is1 : amoV 76 a b = b % 18446744073709551616 := amoV_d 76 a b (by omega) a0 a1 b0 b1
theorem swap_is0 : amoV 65 a b = b % 4294967296 := by
  rw [amo_eq_w 65 a b _ _ (by simp) rfl rfl a0 a1 b0 b1]
  show b % 4294967296 % 4294967296 = _
  omega
theorem sum_back0 : amoV 66 (amoV 66 a b) (IntKind.u64.wrap (-b)) = a % 4294967296 := by
  have hn := IntKind.wrap_u64 (-b)
  have hd := amoV_bd64 66 a b
  rw [amo_eq_w 66 _ _ _ _ (by simp) rfl rfl hd.1 hd.2 (by omega) (by omega), amo_eq_w 66 a b _ _ (by simp) rfl rfl a0 a1 b0 b1]
  show IntKind.u64.wrap (IntKind.u64.wrap (a % 4294967296 + b % 4294967296) % 4294967296 % 4294967296 + IntKind.u64.wrap (-b) % 4294967296) % 4294967296 = _
  simp only [IntKind.wrap_u64]; omega
theorem xor_back0 : amoV 67 (amoV 67 a b) b = a % 4294967296 := by
  have hd := amoV_bd64 67 a b
  have hb := wbits_bd .xor (by simp) (a % 4294967296) (b % 4294967296) (by omega) (by omega) (by omega) (by omega)
  rw [amo_eq_w 67 _ _ _ _ (by simp) rfl rfl hd.1 hd.2 b0 b1, amo_eq_w 67 a b _ _ (by simp) rfl rfl a0 a1 b0 b1]
  show bits .xor .u64 (bits .xor .u64 (a % 4294967296) (b % 4294967296) % 4294967296 % 4294967296) (b % 4294967296) % 4294967296 = _
  have h := bits_mod32 .xor (by simp) (bits .xor .u64 (a % 4294967296) (b % 4294967296) % 4294967296 % 4294967296) (b % 4294967296) (bits .xor .u64 (a % 4294967296) (b % 4294967296)) (b % 4294967296) (by omega) (by omega) (by omega) (by omega) hb.1 hb.2 (by omega) (by omega) (by omega) rfl
  rw [h, xor_twice _ _ (by omega) (by omega) (by omega) (by omega)]
  omega
theorem lat0 (op : Int) (hop : op ∈ ([70, 71, 72, 73, 68, 69] : List Int)) : amoV op a b = amoV op b a ∧ amoV op (amoV op a b) b = amoV op a b := by
  have hd := amoV_bd64 op a b
  have hm : op ∈ ([65, 66, 67, 68, 69, 70, 71, 72, 73] : List Int) := by simp only [List.mem_cons, List.not_mem_nil, or_false] at hop ⊢; omega
  rw [amo_eq_w op _ b _ _ hm rfl rfl hd.1 hd.2 b0 b1, amo_eq_w op a b _ _ hm rfl rfl a0 a1 b0 b1, amo_eq_w op b a _ _ hm rfl rfl b0 b1 a0 a1]
  simp only [List.mem_cons, List.not_mem_nil, or_false] at hop
  obtain ⟨A, hA⟩ : ∃ A, A = a % 4294967296 := ⟨_, rfl⟩
  obtain ⟨B, hB⟩ : ∃ B, B = b % 4294967296 := ⟨_, rfl⟩
  rw [← hA, ← hB]
  have ka : 0 ≤ A ∧ A < 4294967296 := by omega
  have kb : 0 ≤ B ∧ B < 4294967296 := by omega
  clear hd hA hB a0 a1 b0 b1
  have ga := and_twice A B (by omega) (by omega) (by omega) (by omega)
  have go := or_twice A B (by omega) (by omega) (by omega) (by omega)
  have gab := wbits_bd .and (by simp) A B (by omega) (by omega) (by omega) (by omega)
  have gob := wbits_bd .or (by simp) A B (by omega) (by omega) (by omega) (by omega)
  have la := bits_mod32 .and (by simp) (bits .and .u64 A B % 4294967296 % 4294967296) B (bits .and .u64 A B) B (by omega) (by omega) (by omega) (by omega) gab.1 gab.2 (by omega) (by omega) (by omega) rfl
  have lo := bits_mod32 .or (by simp) (bits .or .u64 A B % 4294967296 % 4294967296) B (bits .or .u64 A B) B (by omega) (by omega) (by omega) (by omega) gob.1 gob.2 (by omega) (by omega) (by omega) rfl
  rcases hop with rfl | rfl | rfl | rfl | rfl | rfl
  · simp only [refV, sextI_32]; simp only [decide_eq_true_eq]; unfold wrap64; refine ⟨?_, ?_⟩ <;> simp <;> repeat' split
    all_goals omega
  · simp only [refV, sextI_32]; simp only [decide_eq_true_eq]; unfold wrap64; refine ⟨?_, ?_⟩ <;> simp <;> repeat' split
    all_goals omega
  · simp only [refV]; simp only [decide_eq_true_eq]; refine ⟨?_, ?_⟩ <;> simp <;> repeat' split
    all_goals omega
  · simp only [refV]; simp only [decide_eq_true_eq]; refine ⟨?_, ?_⟩ <;> simp <;> repeat' split
    all_goals omega
  · show bits .and .u64 A B % 4294967296 = bits .and .u64 B A % 4294967296 ∧ bits .and .u64 (bits .and .u64 A B % 4294967296 % 4294967296) B % 4294967296 = bits .and .u64 A B % 4294967296
    exact ⟨by rw [ga.1], by rw [la, ga.2]⟩
  · show bits .or .u64 A B % 4294967296 = bits .or .u64 B A % 4294967296 ∧ bits .or .u64 (bits .or .u64 A B % 4294967296 % 4294967296) B % 4294967296 = bits .or .u64 A B % 4294967296
    exact ⟨by rw [go.1], by rw [lo, go.2]⟩
end
end Go.Proofs.Ytpalhkfipnbcnaa
