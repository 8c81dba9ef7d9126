/-
  What the program's operators reckon, group by group: contracts of the functions of package alu.
-/
import Derived.Test.YtfeohadlblpmcaaWalksC
namespace Go.Proofs.Ytfeohadlblpmcaa
open Go.RowKit
set_option linter.unusedVariables false

theorem and63 (x : Int) (h0 : 0 ≤ x) (h : x < 18446744073709551616) : ∃ k : Nat, k < 64 ∧ bits .and .u64 x 63 = (k : Int) ∧ x % 64 = k := by
  obtain ⟨X, rfl⟩ := Int.eq_ofNat_of_zero_le h0
  have e : X &&& 63 = X % 64 := Nat.and_two_pow_sub_one_eq_mod X 6
  have := u64_and_nat X 63 (by omega) (by decide)
  rw [e] at this
  exact ⟨X % 64, by omega, this, by omega⟩
theorem and31 (x : Int) (h0 : 0 ≤ x) (h : x < 4294967296) : ∃ k : Nat, k < 32 ∧ bits .and .u32 x 31 = (k : Int) ∧ x % 32 = k := by
  obtain ⟨X, rfl⟩ := Int.eq_ofNat_of_zero_le h0
  have e : X &&& 31 = X % 32 := Nat.and_two_pow_sub_one_eq_mod X 5
  have := u32_and_nat X 31 (by omega) (by decide)
  rw [e] at this
  exact ⟨X % 32, by omega, this, by omega⟩

/-- A comparison as a register holds it. -/
def oneI (c : Bool) : Int := if c then 1 else 0
/-- Sums, bits, comparisons. -/
def plainV (op a b : Int) : Int :=
  if op = 22 ∨ op = 31 then IntKind.u64.wrap (a + b)
  else if op = 32 then IntKind.u64.wrap (a - b)
  else if op = 25 ∨ op = 36 then bits .xor .u64 a b
  else if op = 26 ∨ op = 39 then bits .or .u64 a b
  else if op = 27 ∨ op = 40 then bits .and .u64 a b
  else if op = 23 ∨ op = 34 then oneI (decide (wrap64 a < wrap64 b))
  else if op = 24 ∨ op = 35 then oneI (decide (a < b))
  else b
/-- Shifts of whole words. -/
def shiftV (op a b : Int) : Int :=
  if op = 28 ∨ op = 33 then IntKind.u64.wrap (a * 2 ^ (b % 64).toNat)
  else if op = 29 ∨ op = 37 then a / 2 ^ (b % 64).toNat
  else IntKind.u64.wrap (wrap64 a / 2 ^ (b % 64).toNat)
/-- Products of whole words. -/
def productV (op a b : Int) : Int :=
  if op = 50 then IntKind.u64.wrap (a * b) else if op = 51 then mulhI a b else if op = 52 then mulhsuI a b else a * b / 18446744073709551616
/-- Quotients of whole words. -/
def quotientV (op a b : Int) : Int :=
  if op = 54 then divI a b else if op = 55 then divuI a b else if op = 56 then remI a b else remuI a b
/-- Of 32 bits: sums, products, shifts. -/
def npV (op a b : Int) : Int :=
  if op = 41 ∨ op = 45 then (a + b) % 4294967296
  else if op = 46 then (a - b) % 4294967296
  else if op = 58 then a * b % 4294967296
  else if op = 42 ∨ op = 47 then a * 2 ^ (b % 32).toNat % 4294967296
  else if op = 43 ∨ op = 48 then a / 2 ^ (b % 32).toNat
  else wrap32 a / 2 ^ (b % 32).toNat % 4294967296
/-- Of 32 bits: quotients. -/
def nqV (op a b : Int) : Int :=
  if op = 59 then divI (sextI a 32) (sextI b 32) % 4294967296
  else if op = 61 then remI (sextI a 32) (sextI b 32) % 4294967296
  else if op = 60 then divuI a b % 4294967296
  else remuI a b % 4294967296

def plainOps : List Int := [1, 22, 31, 32, 25, 36, 26, 39, 27, 40, 23, 34, 24, 35]
def shiftOps : List Int := [28, 33, 29, 37, 30, 38]
def productOps : List Int := [50, 51, 52, 53]
def quotientOps : List Int := [54, 55, 56, 57]
def npOps : List Int := [41, 45, 46, 58, 42, 47, 43, 48, 44, 49]
def nqOps : List Int := [59, 61, 60, 62]

theorem ret_pairb {k : IntKind} {a b : Int} {c : Bool} (h : a = b) : Ending.returned (.tuple #[.int k a, .bool c]) = .returned (.tuple #[.int k b, .bool c]) := by rw [h]
theorem nin {op k : Int} (h : ¬ op = k) : (op == k) = false := beq_eq_false_iff_ne.2 h

theorem oneIf_any (c : Bool) (w : World) : Calls Try.prog 27 #[.bool c] w fun e w' => e = .returned (.int .u64 (oneI c)) ∧ w = w' := by
  cases c
  · go_enter Try.func27, Try.ntmps27
    go_wp2
    go_ret
    exact ⟨rfl, rfl⟩
  · go_enter Try.func27, Try.ntmps27
    go_wp2
    go_ret
    exact ⟨rfl, rfl⟩

set_option maxHeartbeats 1000000 in
theorem plain_yes (op a b : Int) (w : World) (hop : op ∈ plainOps) :
    Calls Try.prog 17 #[.int .i64 op, .int .u64 a, .int .u64 b] w fun e w' => e = .returned (.tuple #[.int .u64 (plainV op a b), .bool true]) ∧ w = w' := by
  simp only [plainOps, List.mem_cons, List.not_mem_nil, or_false] at hop
  rcases hop with rfl | rfl | rfl | rfl | rfl | rfl | rfl | rfl | rfl | rfl | rfl | rfl | rfl | rfl
  any_goals
    go_enter Try.func17, Try.ntmps17
    go_wp2
    go_ret2
    exact ⟨rfl, rfl⟩
  all_goals
    go_enter Try.func17, Try.ntmps17
    go_wp2_with fail
    refine (oneIf_any _ _).mono ?_
    rintro e w' ⟨rfl, rfl⟩
    go_wp2
    go_ret2
    exact ⟨rfl, rfl⟩
set_option maxHeartbeats 1000000 in
theorem plain_no (op a b : Int) (w : World) (hop : op ∉ plainOps) :
    Calls Try.prog 17 #[.int .i64 op, .int .u64 a, .int .u64 b] w fun e w' => e = .returned (.tuple #[.int .u64 0, .bool false]) ∧ w = w' := by
  simp only [plainOps, List.mem_cons, List.not_mem_nil, or_false, not_or] at hop
  obtain ⟨h1, h2, h3, h4, h5, h6, h7, h8, h9, h10, h11, h12, h13, h14⟩ := hop
  replace h1 := nin h1; replace h2 := nin h2; replace h3 := nin h3; replace h4 := nin h4; replace h5 := nin h5; replace h6 := nin h6; replace h7 := nin h7
  replace h8 := nin h8; replace h9 := nin h9; replace h10 := nin h10; replace h11 := nin h11; replace h12 := nin h12; replace h13 := nin h13; replace h14 := nin h14
  go_enter Try.func17, Try.ntmps17
  go_wp2
  go_ret2
  exact ⟨rfl, rfl⟩

set_option maxHeartbeats 1000000 in
theorem shift_yes (op a b : Int) (w : World) (hop : op ∈ shiftOps) (ha0 : 0 ≤ a) (ha : a < 18446744073709551616) (hb0 : 0 ≤ b) (hb : b < 18446744073709551616) :
    Calls Try.prog 18 #[.int .i64 op, .int .u64 a, .int .u64 b] w fun e w' => e = .returned (.tuple #[.int .u64 (shiftV op a b), .bool true]) ∧ w = w' := by
  obtain ⟨k, hk, hm, hq⟩ := and63 b hb0 hb
  have HQ := Lib.hid (show (b % 64).toNat = k by omega); clear hq
  simp only [shiftOps, List.mem_cons, List.not_mem_nil, or_false] at hop
  rcases hop with rfl | rfl | rfl | rfl | rfl | rfl
  all_goals
    go_enter Try.func18, Try.ntmps18
    go_wp2
    go_ret2
    exact ⟨ret_pairb (by unfold shiftV; rw [HQ.out]; rfl), rfl⟩
set_option maxHeartbeats 1000000 in
theorem shift_no (op a b : Int) (w : World) (hop : op ∉ shiftOps) :
    Calls Try.prog 18 #[.int .i64 op, .int .u64 a, .int .u64 b] w fun e w' => e = .returned (.tuple #[.int .u64 0, .bool false]) ∧ w = w' := by
  simp only [shiftOps, List.mem_cons, List.not_mem_nil, or_false, not_or] at hop
  obtain ⟨h1, h2, h3, h4, h5, h6⟩ := hop
  replace h1 := nin h1; replace h2 := nin h2; replace h3 := nin h3; replace h4 := nin h4; replace h5 := nin h5; replace h6 := nin h6
  go_enter Try.func18, Try.ntmps18
  go_wp2
  go_ret2
  exact ⟨rfl, rfl⟩

set_option maxHeartbeats 1000000 in
theorem product_yes (op a b : Int) (w : World) (hop : op ∈ productOps) (ha0 : 0 ≤ a) (ha : a < 18446744073709551616) (hb0 : 0 ≤ b) (hb : b < 18446744073709551616) :
    Calls Try.prog 19 #[.int .i64 op, .int .u64 a, .int .u64 b] w fun e w' => e = .returned (.tuple #[.int .u64 (productV op a b), .bool true]) ∧ w = w' := by
  simp only [productOps, List.mem_cons, List.not_mem_nil, or_false] at hop
  rcases hop with rfl | rfl | rfl | rfl
  · go_enter Try.func19, Try.ntmps19
    go_wp2
    go_ret2
    exact ⟨rfl, rfl⟩
  · go_enter Try.func19, Try.ntmps19
    go_wp2_with fail
    refine (mulh_any _ _ _ ha0 ha hb0 hb).mono ?_
    rintro e w' ⟨rfl, rfl⟩
    go_wp2
    go_ret2
    exact ⟨rfl, rfl⟩
  · go_enter Try.func19, Try.ntmps19
    go_wp2_with fail
    refine (mulhsu_any _ _ _ ha0 ha hb0 hb).mono ?_
    rintro e w' ⟨rfl, rfl⟩
    go_wp2
    go_ret2
    exact ⟨rfl, rfl⟩
  · go_enter Try.func19, Try.ntmps19
    go_wp2_with fail
    refine (mulhu_any _ _ _ ha0 ha hb0 hb).mono ?_
    rintro e w' ⟨rfl, rfl⟩
    go_wp2
    go_ret2
    exact ⟨rfl, rfl⟩
set_option maxHeartbeats 1000000 in
theorem product_no (op a b : Int) (w : World) (hop : op ∉ productOps) :
    Calls Try.prog 19 #[.int .i64 op, .int .u64 a, .int .u64 b] w fun e w' => e = .returned (.tuple #[.int .u64 0, .bool false]) ∧ w = w' := by
  simp only [productOps, List.mem_cons, List.not_mem_nil, or_false, not_or] at hop
  obtain ⟨h1, h2, h3, h4⟩ := hop
  replace h1 := nin h1; replace h2 := nin h2; replace h3 := nin h3; replace h4 := nin h4
  go_enter Try.func19, Try.ntmps19
  go_wp2
  go_ret2
  exact ⟨rfl, rfl⟩

set_option maxHeartbeats 1000000 in
theorem quotient_yes (op a b : Int) (w : World) (hop : op ∈ quotientOps) (ha0 : 0 ≤ a) (ha : a < 18446744073709551616) (hb0 : 0 ≤ b) (hb : b < 18446744073709551616) :
    Calls Try.prog 20 #[.int .i64 op, .int .u64 a, .int .u64 b] w fun e w' => e = .returned (.tuple #[.int .u64 (quotientV op a b), .bool true]) ∧ w = w' := by
  simp only [quotientOps, List.mem_cons, List.not_mem_nil, or_false] at hop
  rcases hop with rfl | rfl | rfl | rfl
  · go_enter Try.func20, Try.ntmps20
    go_wp2_with fail
    refine (div_any _ _ _ hb0 hb).mono ?_
    rintro e w' ⟨rfl, rfl⟩
    go_wp2
    go_ret2
    exact ⟨rfl, rfl⟩
  · go_enter Try.func20, Try.ntmps20
    go_wp2_with fail
    refine (divu_any _ _ _ ha0 ha hb0).mono ?_
    rintro e w' ⟨rfl, rfl⟩
    go_wp2
    go_ret2
    exact ⟨rfl, rfl⟩
  · go_enter Try.func20, Try.ntmps20
    go_wp2_with fail
    refine (rem_any _ _ _ hb0 hb).mono ?_
    rintro e w' ⟨rfl, rfl⟩
    go_wp2
    go_ret2
    exact ⟨rfl, rfl⟩
  · go_enter Try.func20, Try.ntmps20
    go_wp2_with fail
    refine (remu_any _ _ _ ha0 ha hb0).mono ?_
    rintro e w' ⟨rfl, rfl⟩
    go_wp2
    go_ret2
    exact ⟨rfl, rfl⟩
set_option maxHeartbeats 1000000 in
theorem quotient_no (op a b : Int) (w : World) (hop : op ∉ quotientOps) :
    Calls Try.prog 20 #[.int .i64 op, .int .u64 a, .int .u64 b] w fun e w' => e = .returned (.tuple #[.int .u64 0, .bool false]) ∧ w = w' := by
  simp only [quotientOps, List.mem_cons, List.not_mem_nil, or_false, not_or] at hop
  obtain ⟨h1, h2, h3, h4⟩ := hop
  replace h1 := nin h1; replace h2 := nin h2; replace h3 := nin h3; replace h4 := nin h4
  go_enter Try.func20, Try.ntmps20
  go_wp2
  go_ret2
  exact ⟨rfl, rfl⟩

set_option maxHeartbeats 1000000 in
theorem np_yes (op a b : Int) (w : World) (hop : op ∈ npOps) (ha0 : 0 ≤ a) (ha : a < 4294967296) (hb0 : 0 ≤ b) (hb : b < 4294967296) :
    Calls Try.prog 35 #[.int .i64 op, .int .u32 a, .int .u32 b] w fun e w' => e = .returned (.tuple #[.int .u32 (npV op a b), .bool true]) ∧ w = w' := by
  obtain ⟨k, hk, hm, hq⟩ := and31 b hb0 hb
  have HQ := Lib.hid (show (b % 32).toNat = k by omega); clear hq
  simp only [npOps, List.mem_cons, List.not_mem_nil, or_false] at hop
  rcases hop with rfl | rfl | rfl | rfl | rfl | rfl | rfl | rfl | rfl | rfl
  all_goals
    go_enter Try.func35, Try.ntmps35
    go_wp2
    go_ret2
    exact ⟨ret_pairb (by unfold npV; rw [HQ.out]; rfl), rfl⟩
set_option maxHeartbeats 1000000 in
theorem np_no (op a b : Int) (w : World) (hop : op ∉ npOps) :
    Calls Try.prog 35 #[.int .i64 op, .int .u32 a, .int .u32 b] w fun e w' => e = .returned (.tuple #[.int .u32 0, .bool false]) ∧ w = w' := by
  simp only [npOps, List.mem_cons, List.not_mem_nil, or_false, not_or] at hop
  obtain ⟨h1, h2, h3, h4, h5, h6, h7, h8, h9, h10⟩ := hop
  replace h1 := nin h1; replace h2 := nin h2; replace h3 := nin h3; replace h4 := nin h4; replace h5 := nin h5; replace h6 := nin h6; replace h7 := nin h7
  replace h8 := nin h8; replace h9 := nin h9; replace h10 := nin h10
  go_enter Try.func35, Try.ntmps35
  go_wp2
  go_ret2
  exact ⟨rfl, rfl⟩

theorem sext32_bd (x : Int) : 0 ≤ sextI x 32 ∧ sextI x 32 < 18446744073709551616 := by
  unfold sextI; rw [if_pos (by decide)]; exact sx_bd _ _
set_option maxHeartbeats 1000000 in
theorem signed_any (x : Int) (w : World) (h0 : 0 ≤ x) (h : x < 4294967296) :
    Calls Try.prog 49 #[.int .u32 x] w fun e w' => e = .returned (.int .u64 (sextI x 32)) ∧ w = w' := by
  go_enter Try.func49, Try.ntmps49
  go_wp2_with fail
  refine (sext_any _ _ _).mono ?_
  rintro e w' ⟨rfl, rfl⟩
  go_wp2
  go_ret
  exact ⟨rfl, rfl⟩

set_option maxHeartbeats 1000000 in
theorem nq_yes (op a b : Int) (w : World) (hop : op ∈ nqOps) (ha0 : 0 ≤ a) (ha : a < 4294967296) (hb0 : 0 ≤ b) (hb : b < 4294967296) :
    Calls Try.prog 36 #[.int .i64 op, .int .u32 a, .int .u32 b] w fun e w' => e = .returned (.tuple #[.int .u32 (nqV op a b), .bool true]) ∧ w = w' := by
  have hs := sext32_bd b
  simp only [nqOps, List.mem_cons, List.not_mem_nil, or_false] at hop
  rcases hop with rfl | rfl | rfl | rfl
  · go_enter Try.func36, Try.ntmps36
    go_wp2_with fail
    refine (signed_any _ _ ha0 ha).mono ?_
    rintro e w' ⟨rfl, rfl⟩
    go_wp2_with fail
    refine (signed_any _ _ hb0 hb).mono ?_
    rintro e w' ⟨rfl, rfl⟩
    go_wp2_with fail
    refine (div_any _ _ _ hs.1 hs.2).mono ?_
    rintro e w' ⟨rfl, rfl⟩
    go_wp2
    go_ret2
    exact ⟨rfl, rfl⟩
  · go_enter Try.func36, Try.ntmps36
    go_wp2_with fail
    refine (signed_any _ _ ha0 ha).mono ?_
    rintro e w' ⟨rfl, rfl⟩
    go_wp2_with fail
    refine (signed_any _ _ hb0 hb).mono ?_
    rintro e w' ⟨rfl, rfl⟩
    go_wp2_with fail
    refine (rem_any _ _ _ hs.1 hs.2).mono ?_
    rintro e w' ⟨rfl, rfl⟩
    go_wp2
    go_ret2
    exact ⟨rfl, rfl⟩
  · go_enter Try.func36, Try.ntmps36
    go_wp2_with fail
    refine (divu_any _ _ _ ha0 (by omega) hb0).mono ?_
    rintro e w' ⟨rfl, rfl⟩
    go_wp2
    go_ret2
    exact ⟨rfl, rfl⟩
  · go_enter Try.func36, Try.ntmps36
    go_wp2_with fail
    refine (remu_any _ _ _ ha0 (by omega) hb0).mono ?_
    rintro e w' ⟨rfl, rfl⟩
    go_wp2
    go_ret2
    exact ⟨rfl, rfl⟩
set_option maxHeartbeats 1000000 in
theorem nq_no (op a b : Int) (w : World) (hop : op ∉ nqOps) :
    Calls Try.prog 36 #[.int .i64 op, .int .u32 a, .int .u32 b] w fun e w' => e = .returned (.tuple #[.int .u32 0, .bool false]) ∧ w = w' := by
  simp only [nqOps, List.mem_cons, List.not_mem_nil, or_false, not_or] at hop
  obtain ⟨h1, h2, h3, h4⟩ := hop
  replace h1 := nin h1; replace h2 := nin h2; replace h3 := nin h3; replace h4 := nin h4
  go_enter Try.func36, Try.ntmps36
  go_wp2
  go_ret2
  exact ⟨rfl, rfl⟩
end Go.Proofs.Ytfeohadlblpmcaa
