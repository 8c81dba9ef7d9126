/-
  Atomic operators: how wide they are, what they reckon: the program's functions.
-/
import Derived.Test.YtpalhkfipnbcnaaWordC
set_option linter.unusedVariables false
set_option linter.unusedSimpArgs false
namespace Go.Proofs.Ytpalhkfipnbcnaa
open Go.RowKit
set_option maxRecDepth 100000
/-- How many bytes an atomic operator works on. -/
def awid (op : Int) : Nat := if 63 ≤ op ∧ op ≤ 73 then 4 else if 74 ≤ op ∧ op ≤ 84 then 8 else 0
theorem awid4 {op : Int} (h : 63 ≤ op ∧ op ≤ 73) : awid op = 4 := if_pos h
theorem awid8 {op : Int} (h : 74 ≤ op ∧ op ≤ 84) : awid op = 8 := by unfold awid; rw [if_neg (by omega), if_pos h]
theorem awid0 {op : Int} (h : op < 63 ∨ 84 < op) : awid op = 0 := by unfold awid; rw [if_neg (by omega), if_neg (by omega)]
theorem awid_one (op : Int) : awid op = 4 ∨ awid op = 8 ∨ awid op = 0 := by
  rcases (by omega : (63 ≤ op ∧ op ≤ 73) ∨ (74 ≤ op ∧ op ≤ 84) ∨ (op < 63 ∨ 84 < op)) with h | h | h
  · exact .inl (awid4 h)
  · exact .inr (.inl (awid8 h))
  · exact .inr (.inr (awid0 h))
theorem awidth_any (op : Int) (w : World) : Calls Try.prog 10 #[.int .i64 op] w fun e w' => e = .returned (.int .i64 (awid op)) ∧ w = w' := by
  rcases (by omega : op < 63 ∨ (63 ≤ op ∧ op ≤ 73) ∨ (74 ≤ op ∧ op ≤ 84) ∨ 84 < op) with h | ⟨h, h'⟩ | ⟨h, h'⟩ | h
  · rw [awid0 (.inl h)]
    go_enter Try.func10, Try.ntmps10
    go_wp2
    go_ret
    exact ⟨rfl, rfl⟩
  · rw [awid4 ⟨h, h'⟩]
    go_enter Try.func10, Try.ntmps10
    go_wp2
    go_ret
    exact ⟨rfl, rfl⟩
  · rw [awid8 ⟨h, h'⟩]
    go_enter Try.func10, Try.ntmps10
    go_wp2
    go_ret
    exact ⟨rfl, rfl⟩
  · rw [awid0 (.inr h)]
    go_enter Try.func10, Try.ntmps10
    go_wp2
    go_ret
    exact ⟨rfl, rfl⟩
theorem rwidth_any (op : Int) (w : World) : Calls Try.prog 11 #[.int .i64 op] w fun e w' => e = .returned (.int .i64 (awid op)) ∧ w = w' := by
  rcases (by omega : op < 63 ∨ (63 ≤ op ∧ op ≤ 73) ∨ (74 ≤ op ∧ op ≤ 84) ∨ 84 < op) with h | ⟨h, h'⟩ | ⟨h, h'⟩ | h
  · rw [awid0 (.inl h)]
    go_enter Try.func11, Try.ntmps11
    go_wp2
    go_ret
    exact ⟨rfl, rfl⟩
  · rw [awid4 ⟨h, h'⟩]
    go_enter Try.func11, Try.ntmps11
    go_wp2
    go_ret
    exact ⟨rfl, rfl⟩
  · rw [awid8 ⟨h, h'⟩]
    go_enter Try.func11, Try.ntmps11
    go_wp2
    go_ret
    exact ⟨rfl, rfl⟩
  · rw [awid0 (.inr h)]
    go_enter Try.func11, Try.ntmps11
    go_wp2
    go_ret
    exact ⟨rfl, rfl⟩
/-- The lowest bits. -/
theorem alow_any (x : Int) (n : Nat) (w : World) (hn : n = 0 ∨ n = 32 ∨ n = 64) (h0 : 0 ≤ x) (h : x < 18446744073709551616) : Calls Try.prog 23 #[.int .u64 x, .int .i64 n] w fun e w' => e = .returned (.int .u64 (x % 2 ^ n)) ∧ w = w' := by
  obtain ⟨X, rfl⟩ := Int.eq_ofNat_of_zero_le h0
  rcases hn with rfl | rfl | rfl
  · have e : bits .and .u64 (X : Int) 0 = (X : Int) % 2 ^ 0 := by
      have := u64_and_nat X 0 (by omega) (by decide)
      rw [Nat.and_zero] at this
      rw [Int.pow_zero, Int.emod_one]; exact this
    have E := Lib.hid e; clear e
    go_enter Try.func23, Try.ntmps23
    go_wp2
    go_ret
    exact ⟨ret_int E.out, rfl⟩
  · have e : bits .and .u64 (X : Int) 4294967295 = (X : Int) % 2 ^ 32 := by
      have := u64_and_nat X 4294967295 (by omega) (by decide)
      rw [show X &&& 4294967295 = X % 2 ^ 32 from Nat.and_two_pow_sub_one_eq_mod X 32] at this
      exact this.trans (by rw [Int.natCast_emod]; rfl)
    have E := Lib.hid e; clear e
    go_enter Try.func23, Try.ntmps23
    go_wp2
    go_ret
    exact ⟨ret_int E.out, rfl⟩
  · have e : bits .and .u64 (X : Int) 18446744073709551615 = (X : Int) % 2 ^ 64 := by
      have := u64_and_nat X 18446744073709551615 (by omega) (by decide)
      rw [show X &&& 18446744073709551615 = X % 2 ^ 64 from Nat.and_two_pow_sub_one_eq_mod X 64] at this
      exact this.trans (by rw [Int.natCast_emod]; rfl)
    have E := Lib.hid e; clear e
    go_enter Try.func23, Try.ntmps23
    go_wp2
    go_ret
    exact ⟨ret_int E.out, rfl⟩
/-- What the operators reckon, of words filled by their signs. -/
def reckV (op a b : Int) : Int :=
  if op = 65 ∨ op = 76 then b
  else if op = 66 ∨ op = 77 then IntKind.u64.wrap (a + b)
  else if op = 67 ∨ op = 78 then bits .xor .u64 a b
  else if op = 68 ∨ op = 79 then bits .and .u64 a b
  else if op = 69 ∨ op = 80 then bits .or .u64 a b
  else if op = 70 ∨ op = 81 then IntKind.u64.wrap (if wrap64 b < wrap64 a then wrap64 b else wrap64 a)
  else if op = 71 ∨ op = 82 then IntKind.u64.wrap (if wrap64 a < wrap64 b then wrap64 b else wrap64 a)
  else if op = 72 ∨ op = 83 then (if b < a then b else a)
  else if op = 73 ∨ op = 84 then (if a < b then b else a)
  else 0
def amoOps : List Int := [65, 76, 66, 77, 67, 78, 68, 79, 69, 80, 70, 81, 71, 82, 72, 83, 73, 84]
set_option maxHeartbeats 2000000 in
theorem reck_yes (op a b : Int) (w : World) (hop : op ∈ amoOps) :
    Calls Try.prog 21 #[.int .i64 op, .int .u64 a, .int .u64 b] w fun e w' => e = .returned (.tuple #[.int .u64 (reckV op a b), .bool true]) ∧ w = w' := by
  have h1 : ∀ W, (Builtin.min_ #[2, 2] 2 #[.int .i64 (wrap64 a), .int .i64 (wrap64 b)]).run Try.prog W = .ok (.int .i64 (if wrap64 b < wrap64 a then wrap64 b else wrap64 a)) W := fun W => by rw [min_run]
  have h2 : ∀ W, (Builtin.max_ #[2, 2] 2 #[.int .i64 (wrap64 a), .int .i64 (wrap64 b)]).run Try.prog W = .ok (.int .i64 (if wrap64 a < wrap64 b then wrap64 b else wrap64 a)) W := fun W => by rw [max_run]
  have h3 : ∀ W, (Builtin.min_ #[22, 22] 22 #[.int .u64 a, .int .u64 b]).run Try.prog W = .ok (.int .u64 (if b < a then b else a)) W := fun W => by rw [min_run]
  have h4 : ∀ W, (Builtin.max_ #[22, 22] 22 #[.int .u64 a, .int .u64 b]).run Try.prog W = .ok (.int .u64 (if a < b then b else a)) W := fun W => by rw [max_run]
  obtain ⟨m1, e1⟩ : ∃ m, m = (if wrap64 b < wrap64 a then wrap64 b else wrap64 a) := ⟨_, rfl⟩
  obtain ⟨m2, e2⟩ : ∃ m, m = (if wrap64 a < wrap64 b then wrap64 b else wrap64 a) := ⟨_, rfl⟩
  obtain ⟨m3, e3⟩ : ∃ m, m = (if b < a then b else a) := ⟨_, rfl⟩
  obtain ⟨m4, e4⟩ : ∃ m, m = (if a < b then b else a) := ⟨_, rfl⟩
  unfold reckV
  rw [← e1, ← e2, ← e3, ← e4]
  rw [← e1] at h1; rw [← e2] at h2; rw [← e3] at h3; rw [← e4] at h4
  clear e1 e2 e3 e4
  simp only [amoOps, List.mem_cons, List.not_mem_nil, or_false] at hop
  rcases hop with rfl | rfl | rfl | rfl | rfl | rfl | rfl | rfl | rfl | rfl | rfl | rfl | rfl | rfl | rfl | rfl | rfl | rfl
  all_goals
    go_enter Try.func21, Try.ntmps21
    go_wp2
    go_ret2
    exact ⟨rfl, rfl⟩
set_option maxHeartbeats 1000000 in
theorem reck_no (op a b : Int) (w : World) (hop : op ∉ amoOps) :
    Calls Try.prog 21 #[.int .i64 op, .int .u64 a, .int .u64 b] w fun e w' => e = .returned (.tuple #[.int .u64 0, .bool false]) ∧ w = w' := by
  simp only [amoOps, List.mem_cons, List.not_mem_nil, or_false, not_or] at hop
  obtain ⟨h1, h2, h3, h4, h5, h6, h7, h8, h9, h10, h11, h12, h13, h14, h15, h16, h17, h18⟩ := hop
  replace h1 := nin h1; replace h2 := nin h2; replace h3 := nin h3; replace h4 := nin h4; replace h5 := nin h5; replace h6 := nin h6; replace h7 := nin h7
  replace h8 := nin h8; replace h9 := nin h9; replace h10 := nin h10; replace h11 := nin h11; replace h12 := nin h12; replace h13 := nin h13; replace h14 := nin h14
  replace h15 := nin h15; replace h16 := nin h16; replace h17 := nin h17; replace h18 := nin h18
  go_enter Try.func21, Try.ntmps21
  go_wp2
  go_ret2
  exact ⟨rfl, rfl⟩
theorem reckV_no {op a b : Int} (hop : op ∉ amoOps) : reckV op a b = 0 := by
  simp only [amoOps, List.mem_cons, List.not_mem_nil, or_false, not_or] at hop
  unfold reckV
  obtain ⟨h1, h2, h3, h4, h5, h6, h7, h8, h9, h10, h11, h12, h13, h14, h15, h16, h17, h18⟩ := hop
  simp [h1, h2, h3, h4, h5, h6, h7, h8, h9, h10, h11, h12, h13, h14, h15, h16, h17, h18]
theorem reck_any (op a b : Int) (w : World) :
    Calls Try.prog 21 #[.int .i64 op, .int .u64 a, .int .u64 b] w fun e w' => e = .returned (.tuple #[.int .u64 (reckV op a b), .bool (decide (op ∈ amoOps))]) ∧ w = w' := by
  by_cases h : op ∈ amoOps
  · rw [decide_eq_true h]; exact reck_yes op a b w h
  · rw [decide_eq_false h, reckV_no h]; exact reck_no op a b w h
theorem wbits_bd (k : BinOp) (hk : k = .xor ∨ k = .and ∨ k = .or) (a b : Int) (a0 : 0 ≤ a) (a1 : a < 18446744073709551616) (b0 : 0 ≤ b) (b1 : b < 18446744073709551616) : 0 ≤ bits k .u64 a b ∧ bits k .u64 a b < 18446744073709551616 := by
  obtain ⟨A, rfl⟩ := Int.eq_ofNat_of_zero_le a0
  obtain ⟨B, rfl⟩ := Int.eq_ofNat_of_zero_le b0
  rcases hk with rfl | rfl | rfl
  · rw [u64_xor_nat A B (by omega) (by omega)]
    have := Nat.xor_lt_two_pow (n := 64) (x := A) (y := B) (by omega) (by omega)
    omega
  · rw [u64_and_nat A B (by omega) (by omega)]
    have := Nat.and_lt_two_pow (n := 64) A (y := B) (by omega)
    omega
  · rw [u64_or_nat A B (by omega) (by omega)]
    have := Nat.or_lt_two_pow (n := 64) (x := A) (y := B) (by omega) (by omega)
    omega
theorem reckV_bd (op a b : Int) (a0 : 0 ≤ a) (a1 : a < 18446744073709551616) (b0 : 0 ≤ b) (b1 : b < 18446744073709551616) : 0 ≤ reckV op a b ∧ reckV op a b < 18446744073709551616 := by
  have q1 := wbits_bd .xor (by simp) a b a0 a1 b0 b1
  have q2 := wbits_bd .and (by simp) a b a0 a1 b0 b1
  have q3 := wbits_bd .or (by simp) a b a0 a1 b0 b1
  unfold reckV
  generalize bits .xor .u64 a b = X at *
  generalize bits .and .u64 a b = Y at *
  generalize bits .or .u64 a b = Z at *
  simp only [IntKind.wrap_u64]
  repeat' split
  all_goals omega
theorem sextI_bd (x : Int) (b : Int) (h0 : 0 ≤ x) (h : x < 18446744073709551616) : 0 ≤ sextI x b ∧ sextI x b < 18446744073709551616 := by
  unfold sextI; split
  · exact sx_bd x _
  · exact ⟨h0, h⟩
/-- What an atomic operator stores, where a is, of b. -/
def amoV (op a b : Int) : Int := reckV op (sextI a (8 * awid op : Nat)) (sextI b (8 * awid op : Nat)) % 2 ^ (8 * awid op)
def amoOk (op : Int) : Bool := decide (op ∈ amoOps)
theorem amoV_bd (op a b : Int) : 0 ≤ amoV op a b ∧ amoV op a b < 2 ^ (8 * awid op) := by
  have := pow_pos' (8 * awid op)
  exact ⟨Int.emod_nonneg _ (by omega), Int.emod_lt_of_pos _ this⟩
set_option maxHeartbeats 1000000 in
theorem do_any (op a b : Int) (w : World) (a0 : 0 ≤ a) (a1 : a < 18446744073709551616) (b0 : 0 ≤ b) (b1 : b < 18446744073709551616) :
    Calls Try.prog 7 #[.int .i64 op, .int .u64 a, .int .u64 b] w fun e w' => e = .returned (.tuple #[.int .u64 (amoV op a b), .bool (amoOk op)]) ∧ w = w' := by
  unfold amoV amoOk
  have hwo := awid_one op
  have cw := awidth_any op
  have cr := fun x y w => reck_any op x y w
  generalize decide (op ∈ amoOps) = ok at *
  obtain ⟨n, hn⟩ : ∃ n, n = 8 * awid op := ⟨_, rfl⟩
  rw [← hn]
  have hn3 : n = 0 ∨ n = 32 ∨ n = 64 := by omega
  have hm : IntKind.i64.wrap (8 * (awid op : Int)) = (n : Int) := by rw [hn]; rcases hwo with h | h | h <;> rw [h] <;> rfl
  have HM := Lib.hid hm; clear hm
  have sa := sextI_bd a n a0 a1
  have sb := sextI_bd b n b0 b1
  have hr := reckV_bd op _ _ sa.1 sa.2 sb.1 sb.2
  have ca := fun w => sext_any a n w
  have cb := fun w => sext_any b n w
  have cl := fun w => alow_any _ n w hn3 hr.1 hr.2
  clear hwo hn hr sa sb a0 a1 b0 b1 hn3
  generalize awid op = k at *
  generalize sextI a n = A at *
  generalize sextI b n = B at *
  have cr2 := fun w => cr A B w
  clear cr
  generalize reckV op A B = R at *
  generalize R % 2 ^ n = Q at *
  have CW := Lib.hid cw; clear cw
  have CA := Lib.hid ca; clear ca
  have CB := Lib.hid cb; clear cb
  have CR := Lib.hid cr2; clear cr2
  have CL := Lib.hid cl; clear cl
  go_enter Try.func7, Try.ntmps7
  go_wp2_with fail
  refine (CW.out _).mono ?_
  rintro e w' ⟨rfl, rfl⟩
  have hm := HM.out
  go_wp2_with fail
  refine (CA.out _).mono ?_
  rintro e w' ⟨rfl, rfl⟩
  go_wp2_with fail
  refine (CB.out _).mono ?_
  rintro e w' ⟨rfl, rfl⟩
  go_wp2_with fail
  refine (CR.out _).mono ?_
  rintro e w' ⟨rfl, rfl⟩
  go_wp2_with fail
  refine (CL.out _).mono ?_
  rintro e w' ⟨rfl, rfl⟩
  go_wp2_with fail
  go_ret2
  exact ⟨rfl, rfl⟩
end Go.Proofs.Ytpalhkfipnbcnaa
