/-
  Atomic operators by the reference.
-/
import Derived.Test.YtpalhkfipnbcnaaQ3
set_option linter.unusedVariables false
set_option linter.unusedSimpArgs false
namespace Go.Proofs.Ytpalhkfipnbcnaa
open Go.RowKit
set_option maxRecDepth 100000
theorem rput0 (x : Int) (n : Nat) (h1 : 1 ≤ n) (h8 : n ≤ 8) (w : World) : Calls Try.prog 25 #[.slice none 0 0, .int .u64 x, .int .i64 n] w fun e w' => ∃ B c, e = .returned (.slice B n c) ∧ Rd w' B (putB x n) ∧ Bl w w' := by
  refine (refPut_in none 0 0 [] x n w Rd.nil_ rfl (fun _ => rfl) (by omega) h1 h8).mono ?_
  rintro e w' ⟨B, c, rfl, h, k⟩
  exact ⟨B, c, by simp, by simpa using h, k⟩
theorem rget0 (B : Option Addr) (c : Nat) (x : Int) (n : Nat) (h1 : 1 ≤ n) (h8 : n ≤ 8) (w : World) (h : Rd w B (putB x n)) : Calls Try.prog 24 #[.slice B n c, .int .i64 n] w fun e w' => e = .returned (.int .u64 (x % 2 ^ (8 * n))) ∧ w = w' := by
  refine (refGet_in B n c _ n w h (putB_length x n) (by omega) h1 h8 (putB_bd x n)).mono ?_
  rintro e w' ⟨rfl, rfl⟩
  exact ⟨by rw [Nat.min_self, getS_putB x n n (Nat.le_refl _)], rfl⟩
/-- What the reference makes of what is there, A, and B: lt: less with a sign; lu: less; gu: more. -/
def refV (op A B : Int) (lt lu gu : Bool) : Int :=
  if op = 65 ∨ op = 76 then B
  else if op = 66 ∨ op = 77 then IntKind.u64.wrap (A + B)
  else if op = 67 ∨ op = 78 then bits .xor .u64 A B
  else if op = 68 ∨ op = 79 then bits .and .u64 A B
  else if op = 69 ∨ op = 80 then bits .or .u64 A B
  else if op = 70 ∨ op = 81 then (if lt then A else B)
  else if op = 71 ∨ op = 82 then (if lt then B else A)
  else if op = 72 ∨ op = 83 then (if lu then A else B)
  else (if gu then A else B)
/-- The words as the reference has them. -/
structure Halves (n : Nat) (a b A B SA SB : Int) (lt : Bool) : Prop where
  pa : ∀ w, Calls Try.prog 25 #[.slice none 0 0, .int .u64 a, .int .i64 n] w fun e w' => ∃ q c, e = .returned (.slice q n c) ∧ Rd w' q (putB a n) ∧ Bl w w'
  pb : ∀ w, Calls Try.prog 25 #[.slice none 0 0, .int .u64 b, .int .i64 n] w fun e w' => ∃ q c, e = .returned (.slice q n c) ∧ Rd w' q (putB b n) ∧ Bl w w'
  py : ∀ y w, Calls Try.prog 25 #[.slice none 0 0, .int .u64 y, .int .i64 n] w fun e w' => ∃ q c, e = .returned (.slice q n c) ∧ Rd w' q (putB y n) ∧ Bl w w'
  ga : ∀ q c w, Rd w q (putB a n) → Calls Try.prog 24 #[.slice q n c, .int .i64 n] w fun e w' => e = .returned (.int .u64 A) ∧ w = w'
  gb : ∀ q c w, Rd w q (putB b n) → Calls Try.prog 24 #[.slice q n c, .int .i64 n] w fun e w' => e = .returned (.int .u64 B) ∧ w = w'
  gy : ∀ q c y w, Rd w q (putB y n) → Calls Try.prog 24 #[.slice q n c, .int .i64 n] w fun e w' => e = .returned (.int .u64 (y % 2 ^ (8 * n))) ∧ w = w'
  sa : ∀ w, Calls Try.prog 19 #[.int .u64 A, .int .i64 (8 * n : Nat)] w fun e w' => e = .returned (.int .u64 SA) ∧ w = w'
  sb : ∀ w, Calls Try.prog 19 #[.int .u64 B, .int .i64 (8 * n : Nat)] w fun e w' => e = .returned (.int .u64 SB) ∧ w = w'
  le : ∀ w, Calls Try.prog 26 #[.int .u64 SA, .int .u64 SB] w fun e w' => e = .returned (.bool lt) ∧ w = w'
theorem halves_any (n : Nat) (a b : Int) (h1 : 1 ≤ n) (h8 : n ≤ 8) (a0 : 0 ≤ a) (a1 : a < 18446744073709551616) (b0 : 0 ≤ b) (b1 : b < 18446744073709551616) :
    Halves n a b (a % 2 ^ (8 * n)) (b % 2 ^ (8 * n)) (sextI (a % 2 ^ (8 * n)) (8 * n : Nat)) (sextI (b % 2 ^ (8 * n)) (8 * n : Nat)) (decide (wrap64 (sextI (a % 2 ^ (8 * n)) (8 * n : Nat)) < wrap64 (sextI (b % 2 ^ (8 * n)) (8 * n : Nat)))) := by
  have hp := pow_pos' (8 * n)
  have f : ∀ x : Int, 0 ≤ x → x < 18446744073709551616 → 0 ≤ x % 2 ^ (8 * n) ∧ x % 2 ^ (8 * n) < 18446744073709551616 := fun x h0 h => by
    have q1 := Int.emod_nonneg x (show (2 : Int) ^ (8 * n) ≠ 0 by omega)
    have q2 := Int.mul_ediv_add_emod x (2 ^ (8 * n))
    have q3 := Int.mul_nonneg (Int.le_of_lt hp) (Int.ediv_nonneg h0 (Int.le_of_lt hp))
    omega
  have fa := f a a0 a1
  have fb := f b b0 b1
  have ga := sextI_bd _ (8 * n : Nat) fa.1 fa.2
  have gb := sextI_bd _ (8 * n : Nat) fb.1 fb.2
  exact ⟨fun w => rput0 a n h1 h8 w, fun w => rput0 b n h1 h8 w, fun y w => rput0 y n h1 h8 w, fun q c w h => rget0 q c a n h1 h8 w h, fun q c w h => rget0 q c b n h1 h8 w h, fun q c y w h => rget0 q c y n h1 h8 w h,
    fun w => refSext_any _ _ w fa.1, fun w => refSext_any _ _ w fb.1, fun w => less_any _ _ w ga.1 ga.2 gb.1 gb.2⟩
set_option maxHeartbeats 4000000 in
theorem amoP4 (op a b A B SA SB : Int) (lt lu gu : Bool) (w : World) (hv : Halves 4 a b A B SA SB lt) (hop : op ∈ ([65, 66, 67, 68, 69] : List Int)) :
    Calls Try.prog 8 #[.int .i64 op, .int .u64 a, .int .u64 b] w fun e w' => e = .returned (.tuple #[.int .u64 (refV op A B lt lu gu % 2 ^ 32), .bool true]) ∧ Bl w w' := by
  have HV := Lib.hid hv; clear hv
  have cw : ∀ w, Calls Try.prog 11 #[.int .i64 op] w fun e w' => e = .returned (.int .i64 4) ∧ w = w' := fun w => by
    have := rwidth_any op w
    rwa [show awid op = 4 by simp only [List.mem_cons, List.not_mem_nil, or_false] at hop; rcases hop with rfl | rfl | rfl | rfl | rfl <;> rfl] at this
  have CW := Lib.hid cw; clear cw
  simp only [List.mem_cons, List.not_mem_nil, or_false] at hop
  rcases hop with rfl | rfl | rfl | rfl | rfl
  all_goals
    go_enter Try.func8, Try.ntmps8
    go_wp2_with fail
    refine (CW.out _).mono ?_
    rintro e w' ⟨rfl, rfl⟩
    go_wp2_with fail
    refine (HV.out.pa _).mono ?_
    rintro e w1 ⟨q1, c1, rfl, r1, k1⟩
    have R1 := Lib.hid r1; clear r1
    have K1 := Lib.hid k1; clear k1
    go_wp2_with fail
    refine (HV.out.ga _ _ _ R1.out).mono ?_
    rintro e w' ⟨rfl, rfl⟩
    go_wp2_with fail
    refine (HV.out.pb _).mono ?_
    rintro e w2 ⟨q2, c2, rfl, r2, k2⟩
    have R2 := Lib.hid r2; clear r2
    have K2 := Lib.hid k2; clear k2
    go_wp2_with fail
    refine (HV.out.gb _ _ _ R2.out).mono ?_
    rintro e w' ⟨rfl, rfl⟩
    go_wp2_with fail
    refine (HV.out.sa _).mono ?_
    rintro e w' ⟨rfl, rfl⟩
    go_wp2_with fail
    refine (HV.out.sb _).mono ?_
    rintro e w' ⟨rfl, rfl⟩
    go_wp2_with fail
    refine (HV.out.le _).mono ?_
    rintro e w' ⟨rfl, rfl⟩
    go_wp2_with fail
    refine (HV.out.py _ _).mono ?_
    rintro e w3 ⟨q3, c3, rfl, r3, k3⟩
    have R3 := Lib.hid r3; clear r3
    have K3 := Lib.hid k3; clear k3
    go_wp2_with fail
    refine (HV.out.gy _ _ _ _ R3.out).mono ?_
    rintro e w' ⟨rfl, rfl⟩
    go_wp2_with fail
    go_ret2
    exact ⟨rfl, K1.out.trans (K2.out.trans K3.out)⟩
set_option maxHeartbeats 4000000 in
theorem amoS4t (op a b A B SA SB : Int) (lt lu gu : Bool) (w : World) (hv : Halves 4 a b A B SA SB lt) (hlt : lt = true) (hop : op ∈ ([70, 71] : List Int)) :
    Calls Try.prog 8 #[.int .i64 op, .int .u64 a, .int .u64 b] w fun e w' => e = .returned (.tuple #[.int .u64 (refV op A B lt lu gu % 2 ^ 32), .bool true]) ∧ Bl w w' := by
  have HV := Lib.hid hv; clear hv
  have cw : ∀ w, Calls Try.prog 11 #[.int .i64 op] w fun e w' => e = .returned (.int .i64 4) ∧ w = w' := fun w => by
    have := rwidth_any op w
    rwa [show awid op = 4 by simp only [List.mem_cons, List.not_mem_nil, or_false] at hop; rcases hop with rfl | rfl <;> rfl] at this
  have CW := Lib.hid cw; clear cw
  simp only [List.mem_cons, List.not_mem_nil, or_false] at hop
  subst hlt
  rcases hop with rfl | rfl
  all_goals
    go_enter Try.func8, Try.ntmps8
    go_wp2_with fail
    refine (CW.out _).mono ?_
    rintro e w' ⟨rfl, rfl⟩
    go_wp2_with fail
    refine (HV.out.pa _).mono ?_
    rintro e w1 ⟨q1, c1, rfl, r1, k1⟩
    have R1 := Lib.hid r1; clear r1
    have K1 := Lib.hid k1; clear k1
    go_wp2_with fail
    refine (HV.out.ga _ _ _ R1.out).mono ?_
    rintro e w' ⟨rfl, rfl⟩
    go_wp2_with fail
    refine (HV.out.pb _).mono ?_
    rintro e w2 ⟨q2, c2, rfl, r2, k2⟩
    have R2 := Lib.hid r2; clear r2
    have K2 := Lib.hid k2; clear k2
    go_wp2_with fail
    refine (HV.out.gb _ _ _ R2.out).mono ?_
    rintro e w' ⟨rfl, rfl⟩
    go_wp2_with fail
    refine (HV.out.sa _).mono ?_
    rintro e w' ⟨rfl, rfl⟩
    go_wp2_with fail
    refine (HV.out.sb _).mono ?_
    rintro e w' ⟨rfl, rfl⟩
    go_wp2_with fail
    refine (HV.out.le _).mono ?_
    rintro e w' ⟨rfl, rfl⟩
    go_wp2_with fail
    refine (HV.out.py _ _).mono ?_
    rintro e w3 ⟨q3, c3, rfl, r3, k3⟩
    have R3 := Lib.hid r3; clear r3
    have K3 := Lib.hid k3; clear k3
    go_wp2_with fail
    refine (HV.out.gy _ _ _ _ R3.out).mono ?_
    rintro e w' ⟨rfl, rfl⟩
    go_wp2_with fail
    go_ret2
    exact ⟨rfl, K1.out.trans (K2.out.trans K3.out)⟩
set_option maxHeartbeats 4000000 in
theorem amoS4f (op a b A B SA SB : Int) (lt lu gu : Bool) (w : World) (hv : Halves 4 a b A B SA SB lt) (hlt : lt = false) (hop : op ∈ ([70, 71] : List Int)) :
    Calls Try.prog 8 #[.int .i64 op, .int .u64 a, .int .u64 b] w fun e w' => e = .returned (.tuple #[.int .u64 (refV op A B lt lu gu % 2 ^ 32), .bool true]) ∧ Bl w w' := by
  have HV := Lib.hid hv; clear hv
  have cw : ∀ w, Calls Try.prog 11 #[.int .i64 op] w fun e w' => e = .returned (.int .i64 4) ∧ w = w' := fun w => by
    have := rwidth_any op w
    rwa [show awid op = 4 by simp only [List.mem_cons, List.not_mem_nil, or_false] at hop; rcases hop with rfl | rfl <;> rfl] at this
  have CW := Lib.hid cw; clear cw
  simp only [List.mem_cons, List.not_mem_nil, or_false] at hop
  subst hlt
  rcases hop with rfl | rfl
  all_goals
    go_enter Try.func8, Try.ntmps8
    go_wp2_with fail
    refine (CW.out _).mono ?_
    rintro e w' ⟨rfl, rfl⟩
    go_wp2_with fail
    refine (HV.out.pa _).mono ?_
    rintro e w1 ⟨q1, c1, rfl, r1, k1⟩
    have R1 := Lib.hid r1; clear r1
    have K1 := Lib.hid k1; clear k1
    go_wp2_with fail
    refine (HV.out.ga _ _ _ R1.out).mono ?_
    rintro e w' ⟨rfl, rfl⟩
    go_wp2_with fail
    refine (HV.out.pb _).mono ?_
    rintro e w2 ⟨q2, c2, rfl, r2, k2⟩
    have R2 := Lib.hid r2; clear r2
    have K2 := Lib.hid k2; clear k2
    go_wp2_with fail
    refine (HV.out.gb _ _ _ R2.out).mono ?_
    rintro e w' ⟨rfl, rfl⟩
    go_wp2_with fail
    refine (HV.out.sa _).mono ?_
    rintro e w' ⟨rfl, rfl⟩
    go_wp2_with fail
    refine (HV.out.sb _).mono ?_
    rintro e w' ⟨rfl, rfl⟩
    go_wp2_with fail
    refine (HV.out.le _).mono ?_
    rintro e w' ⟨rfl, rfl⟩
    go_wp2_with fail
    refine (HV.out.py _ _).mono ?_
    rintro e w3 ⟨q3, c3, rfl, r3, k3⟩
    have R3 := Lib.hid r3; clear r3
    have K3 := Lib.hid k3; clear k3
    go_wp2_with fail
    refine (HV.out.gy _ _ _ _ R3.out).mono ?_
    rintro e w' ⟨rfl, rfl⟩
    go_wp2_with fail
    go_ret2
    exact ⟨rfl, K1.out.trans (K2.out.trans K3.out)⟩
set_option maxHeartbeats 4000000 in
theorem amoU4t (op a b A B SA SB : Int) (lt lu gu : Bool) (w : World) (hv : Halves 4 a b A B SA SB lt) (hlu : lu = true) (hA : A < B) (hop : op ∈ ([72] : List Int)) :
    Calls Try.prog 8 #[.int .i64 op, .int .u64 a, .int .u64 b] w fun e w' => e = .returned (.tuple #[.int .u64 (refV op A B lt lu gu % 2 ^ 32), .bool true]) ∧ Bl w w' := by
  have HV := Lib.hid hv; clear hv
  have cw : ∀ w, Calls Try.prog 11 #[.int .i64 op] w fun e w' => e = .returned (.int .i64 4) ∧ w = w' := fun w => by
    have := rwidth_any op w
    rwa [show awid op = 4 by simp only [List.mem_cons, List.not_mem_nil, or_false] at hop; rcases hop with rfl <;> rfl] at this
  have CW := Lib.hid cw; clear cw
  simp only [List.mem_cons, List.not_mem_nil, or_false] at hop
  subst hlu
  rcases hop with rfl
  all_goals
    go_enter Try.func8, Try.ntmps8
    go_wp2_with fail
    refine (CW.out _).mono ?_
    rintro e w' ⟨rfl, rfl⟩
    go_wp2_with fail
    refine (HV.out.pa _).mono ?_
    rintro e w1 ⟨q1, c1, rfl, r1, k1⟩
    have R1 := Lib.hid r1; clear r1
    have K1 := Lib.hid k1; clear k1
    go_wp2_with fail
    refine (HV.out.ga _ _ _ R1.out).mono ?_
    rintro e w' ⟨rfl, rfl⟩
    go_wp2_with fail
    refine (HV.out.pb _).mono ?_
    rintro e w2 ⟨q2, c2, rfl, r2, k2⟩
    have R2 := Lib.hid r2; clear r2
    have K2 := Lib.hid k2; clear k2
    go_wp2_with fail
    refine (HV.out.gb _ _ _ R2.out).mono ?_
    rintro e w' ⟨rfl, rfl⟩
    go_wp2_with fail
    refine (HV.out.sa _).mono ?_
    rintro e w' ⟨rfl, rfl⟩
    go_wp2_with fail
    refine (HV.out.sb _).mono ?_
    rintro e w' ⟨rfl, rfl⟩
    go_wp2_with fail
    refine (HV.out.le _).mono ?_
    rintro e w' ⟨rfl, rfl⟩
    go_wp2_with fail
    refine (HV.out.py _ _).mono ?_
    rintro e w3 ⟨q3, c3, rfl, r3, k3⟩
    have R3 := Lib.hid r3; clear r3
    have K3 := Lib.hid k3; clear k3
    go_wp2_with fail
    refine (HV.out.gy _ _ _ _ R3.out).mono ?_
    rintro e w' ⟨rfl, rfl⟩
    go_wp2_with fail
    go_ret2
    exact ⟨rfl, K1.out.trans (K2.out.trans K3.out)⟩
set_option maxHeartbeats 4000000 in
theorem amoU4f (op a b A B SA SB : Int) (lt lu gu : Bool) (w : World) (hv : Halves 4 a b A B SA SB lt) (hlu : lu = false) (hA : B ≤ A) (hop : op ∈ ([72] : List Int)) :
    Calls Try.prog 8 #[.int .i64 op, .int .u64 a, .int .u64 b] w fun e w' => e = .returned (.tuple #[.int .u64 (refV op A B lt lu gu % 2 ^ 32), .bool true]) ∧ Bl w w' := by
  have HV := Lib.hid hv; clear hv
  have cw : ∀ w, Calls Try.prog 11 #[.int .i64 op] w fun e w' => e = .returned (.int .i64 4) ∧ w = w' := fun w => by
    have := rwidth_any op w
    rwa [show awid op = 4 by simp only [List.mem_cons, List.not_mem_nil, or_false] at hop; rcases hop with rfl <;> rfl] at this
  have CW := Lib.hid cw; clear cw
  simp only [List.mem_cons, List.not_mem_nil, or_false] at hop
  subst hlu
  rcases hop with rfl
  all_goals
    go_enter Try.func8, Try.ntmps8
    go_wp2_with fail
    refine (CW.out _).mono ?_
    rintro e w' ⟨rfl, rfl⟩
    go_wp2_with fail
    refine (HV.out.pa _).mono ?_
    rintro e w1 ⟨q1, c1, rfl, r1, k1⟩
    have R1 := Lib.hid r1; clear r1
    have K1 := Lib.hid k1; clear k1
    go_wp2_with fail
    refine (HV.out.ga _ _ _ R1.out).mono ?_
    rintro e w' ⟨rfl, rfl⟩
    go_wp2_with fail
    refine (HV.out.pb _).mono ?_
    rintro e w2 ⟨q2, c2, rfl, r2, k2⟩
    have R2 := Lib.hid r2; clear r2
    have K2 := Lib.hid k2; clear k2
    go_wp2_with fail
    refine (HV.out.gb _ _ _ R2.out).mono ?_
    rintro e w' ⟨rfl, rfl⟩
    go_wp2_with fail
    refine (HV.out.sa _).mono ?_
    rintro e w' ⟨rfl, rfl⟩
    go_wp2_with fail
    refine (HV.out.sb _).mono ?_
    rintro e w' ⟨rfl, rfl⟩
    go_wp2_with fail
    refine (HV.out.le _).mono ?_
    rintro e w' ⟨rfl, rfl⟩
    go_wp2_with fail
    refine (HV.out.py _ _).mono ?_
    rintro e w3 ⟨q3, c3, rfl, r3, k3⟩
    have R3 := Lib.hid r3; clear r3
    have K3 := Lib.hid k3; clear k3
    go_wp2_with fail
    refine (HV.out.gy _ _ _ _ R3.out).mono ?_
    rintro e w' ⟨rfl, rfl⟩
    go_wp2_with fail
    go_ret2
    exact ⟨rfl, K1.out.trans (K2.out.trans K3.out)⟩
set_option maxHeartbeats 4000000 in
theorem amoV4t (op a b A B SA SB : Int) (lt lu gu : Bool) (w : World) (hv : Halves 4 a b A B SA SB lt) (hgu : gu = true) (hA : B < A) (hop : op ∈ ([73] : List Int)) :
    Calls Try.prog 8 #[.int .i64 op, .int .u64 a, .int .u64 b] w fun e w' => e = .returned (.tuple #[.int .u64 (refV op A B lt lu gu % 2 ^ 32), .bool true]) ∧ Bl w w' := by
  have HV := Lib.hid hv; clear hv
  have cw : ∀ w, Calls Try.prog 11 #[.int .i64 op] w fun e w' => e = .returned (.int .i64 4) ∧ w = w' := fun w => by
    have := rwidth_any op w
    rwa [show awid op = 4 by simp only [List.mem_cons, List.not_mem_nil, or_false] at hop; rcases hop with rfl <;> rfl] at this
  have CW := Lib.hid cw; clear cw
  simp only [List.mem_cons, List.not_mem_nil, or_false] at hop
  subst hgu
  rcases hop with rfl
  all_goals
    go_enter Try.func8, Try.ntmps8
    go_wp2_with fail
    refine (CW.out _).mono ?_
    rintro e w' ⟨rfl, rfl⟩
    go_wp2_with fail
    refine (HV.out.pa _).mono ?_
    rintro e w1 ⟨q1, c1, rfl, r1, k1⟩
    have R1 := Lib.hid r1; clear r1
    have K1 := Lib.hid k1; clear k1
    go_wp2_with fail
    refine (HV.out.ga _ _ _ R1.out).mono ?_
    rintro e w' ⟨rfl, rfl⟩
    go_wp2_with fail
    refine (HV.out.pb _).mono ?_
    rintro e w2 ⟨q2, c2, rfl, r2, k2⟩
    have R2 := Lib.hid r2; clear r2
    have K2 := Lib.hid k2; clear k2
    go_wp2_with fail
    refine (HV.out.gb _ _ _ R2.out).mono ?_
    rintro e w' ⟨rfl, rfl⟩
    go_wp2_with fail
    refine (HV.out.sa _).mono ?_
    rintro e w' ⟨rfl, rfl⟩
    go_wp2_with fail
    refine (HV.out.sb _).mono ?_
    rintro e w' ⟨rfl, rfl⟩
    go_wp2_with fail
    refine (HV.out.le _).mono ?_
    rintro e w' ⟨rfl, rfl⟩
    go_wp2_with fail
    refine (HV.out.py _ _).mono ?_
    rintro e w3 ⟨q3, c3, rfl, r3, k3⟩
    have R3 := Lib.hid r3; clear r3
    have K3 := Lib.hid k3; clear k3
    go_wp2_with fail
    refine (HV.out.gy _ _ _ _ R3.out).mono ?_
    rintro e w' ⟨rfl, rfl⟩
    go_wp2_with fail
    go_ret2
    exact ⟨rfl, K1.out.trans (K2.out.trans K3.out)⟩
set_option maxHeartbeats 4000000 in
theorem amoV4f (op a b A B SA SB : Int) (lt lu gu : Bool) (w : World) (hv : Halves 4 a b A B SA SB lt) (hgu : gu = false) (hA : A ≤ B) (hop : op ∈ ([73] : List Int)) :
    Calls Try.prog 8 #[.int .i64 op, .int .u64 a, .int .u64 b] w fun e w' => e = .returned (.tuple #[.int .u64 (refV op A B lt lu gu % 2 ^ 32), .bool true]) ∧ Bl w w' := by
  have HV := Lib.hid hv; clear hv
  have cw : ∀ w, Calls Try.prog 11 #[.int .i64 op] w fun e w' => e = .returned (.int .i64 4) ∧ w = w' := fun w => by
    have := rwidth_any op w
    rwa [show awid op = 4 by simp only [List.mem_cons, List.not_mem_nil, or_false] at hop; rcases hop with rfl <;> rfl] at this
  have CW := Lib.hid cw; clear cw
  simp only [List.mem_cons, List.not_mem_nil, or_false] at hop
  subst hgu
  rcases hop with rfl
  all_goals
    go_enter Try.func8, Try.ntmps8
    go_wp2_with fail
    refine (CW.out _).mono ?_
    rintro e w' ⟨rfl, rfl⟩
    go_wp2_with fail
    refine (HV.out.pa _).mono ?_
    rintro e w1 ⟨q1, c1, rfl, r1, k1⟩
    have R1 := Lib.hid r1; clear r1
    have K1 := Lib.hid k1; clear k1
    go_wp2_with fail
    refine (HV.out.ga _ _ _ R1.out).mono ?_
    rintro e w' ⟨rfl, rfl⟩
    go_wp2_with fail
    refine (HV.out.pb _).mono ?_
    rintro e w2 ⟨q2, c2, rfl, r2, k2⟩
    have R2 := Lib.hid r2; clear r2
    have K2 := Lib.hid k2; clear k2
    go_wp2_with fail
    refine (HV.out.gb _ _ _ R2.out).mono ?_
    rintro e w' ⟨rfl, rfl⟩
    go_wp2_with fail
    refine (HV.out.sa _).mono ?_
    rintro e w' ⟨rfl, rfl⟩
    go_wp2_with fail
    refine (HV.out.sb _).mono ?_
    rintro e w' ⟨rfl, rfl⟩
    go_wp2_with fail
    refine (HV.out.le _).mono ?_
    rintro e w' ⟨rfl, rfl⟩
    go_wp2_with fail
    refine (HV.out.py _ _).mono ?_
    rintro e w3 ⟨q3, c3, rfl, r3, k3⟩
    have R3 := Lib.hid r3; clear r3
    have K3 := Lib.hid k3; clear k3
    go_wp2_with fail
    refine (HV.out.gy _ _ _ _ R3.out).mono ?_
    rintro e w' ⟨rfl, rfl⟩
    go_wp2_with fail
    go_ret2
    exact ⟨rfl, K1.out.trans (K2.out.trans K3.out)⟩
set_option maxHeartbeats 4000000 in
theorem amoN4 (op a b A B SA SB : Int) (lt lu gu : Bool) (w : World) (hv : Halves 4 a b A B SA SB lt) (hop : op ∈ ([63, 64] : List Int)) :
    Calls Try.prog 8 #[.int .i64 op, .int .u64 a, .int .u64 b] w fun e w' => e = .returned (.tuple #[.int .u64 (0), .bool false]) ∧ Bl w w' := by
  have HV := Lib.hid hv; clear hv
  have cw : ∀ w, Calls Try.prog 11 #[.int .i64 op] w fun e w' => e = .returned (.int .i64 4) ∧ w = w' := fun w => by
    have := rwidth_any op w
    rwa [show awid op = 4 by simp only [List.mem_cons, List.not_mem_nil, or_false] at hop; rcases hop with rfl | rfl <;> rfl] at this
  have CW := Lib.hid cw; clear cw
  simp only [List.mem_cons, List.not_mem_nil, or_false] at hop
  rcases hop with rfl | rfl
  all_goals
    go_enter Try.func8, Try.ntmps8
    go_wp2_with fail
    refine (CW.out _).mono ?_
    rintro e w' ⟨rfl, rfl⟩
    go_wp2_with fail
    refine (HV.out.pa _).mono ?_
    rintro e w1 ⟨q1, c1, rfl, r1, k1⟩
    have R1 := Lib.hid r1; clear r1
    have K1 := Lib.hid k1; clear k1
    go_wp2_with fail
    refine (HV.out.ga _ _ _ R1.out).mono ?_
    rintro e w' ⟨rfl, rfl⟩
    go_wp2_with fail
    refine (HV.out.pb _).mono ?_
    rintro e w2 ⟨q2, c2, rfl, r2, k2⟩
    have R2 := Lib.hid r2; clear r2
    have K2 := Lib.hid k2; clear k2
    go_wp2_with fail
    refine (HV.out.gb _ _ _ R2.out).mono ?_
    rintro e w' ⟨rfl, rfl⟩
    go_wp2_with fail
    refine (HV.out.sa _).mono ?_
    rintro e w' ⟨rfl, rfl⟩
    go_wp2_with fail
    refine (HV.out.sb _).mono ?_
    rintro e w' ⟨rfl, rfl⟩
    go_wp2_with fail
    refine (HV.out.le _).mono ?_
    rintro e w' ⟨rfl, rfl⟩
    go_wp2_with fail
    go_ret2
    exact ⟨rfl, K1.out.trans K2.out⟩
set_option maxHeartbeats 4000000 in
theorem amoP8 (op a b A B SA SB : Int) (lt lu gu : Bool) (w : World) (hv : Halves 8 a b A B SA SB lt) (hop : op ∈ ([76, 77, 78, 79, 80] : List Int)) :
    Calls Try.prog 8 #[.int .i64 op, .int .u64 a, .int .u64 b] w fun e w' => e = .returned (.tuple #[.int .u64 (refV op A B lt lu gu % 2 ^ 64), .bool true]) ∧ Bl w w' := by
  have HV := Lib.hid hv; clear hv
  have cw : ∀ w, Calls Try.prog 11 #[.int .i64 op] w fun e w' => e = .returned (.int .i64 8) ∧ w = w' := fun w => by
    have := rwidth_any op w
    rwa [show awid op = 8 by simp only [List.mem_cons, List.not_mem_nil, or_false] at hop; rcases hop with rfl | rfl | rfl | rfl | rfl <;> rfl] at this
  have CW := Lib.hid cw; clear cw
  simp only [List.mem_cons, List.not_mem_nil, or_false] at hop
  rcases hop with rfl | rfl | rfl | rfl | rfl
  all_goals
    go_enter Try.func8, Try.ntmps8
    go_wp2_with fail
    refine (CW.out _).mono ?_
    rintro e w' ⟨rfl, rfl⟩
    go_wp2_with fail
    refine (HV.out.pa _).mono ?_
    rintro e w1 ⟨q1, c1, rfl, r1, k1⟩
    have R1 := Lib.hid r1; clear r1
    have K1 := Lib.hid k1; clear k1
    go_wp2_with fail
    refine (HV.out.ga _ _ _ R1.out).mono ?_
    rintro e w' ⟨rfl, rfl⟩
    go_wp2_with fail
    refine (HV.out.pb _).mono ?_
    rintro e w2 ⟨q2, c2, rfl, r2, k2⟩
    have R2 := Lib.hid r2; clear r2
    have K2 := Lib.hid k2; clear k2
    go_wp2_with fail
    refine (HV.out.gb _ _ _ R2.out).mono ?_
    rintro e w' ⟨rfl, rfl⟩
    go_wp2_with fail
    refine (HV.out.sa _).mono ?_
    rintro e w' ⟨rfl, rfl⟩
    go_wp2_with fail
    refine (HV.out.sb _).mono ?_
    rintro e w' ⟨rfl, rfl⟩
    go_wp2_with fail
    refine (HV.out.le _).mono ?_
    rintro e w' ⟨rfl, rfl⟩
    go_wp2_with fail
    refine (HV.out.py _ _).mono ?_
    rintro e w3 ⟨q3, c3, rfl, r3, k3⟩
    have R3 := Lib.hid r3; clear r3
    have K3 := Lib.hid k3; clear k3
    go_wp2_with fail
    refine (HV.out.gy _ _ _ _ R3.out).mono ?_
    rintro e w' ⟨rfl, rfl⟩
    go_wp2_with fail
    go_ret2
    exact ⟨rfl, K1.out.trans (K2.out.trans K3.out)⟩
set_option maxHeartbeats 4000000 in
theorem amoS8t (op a b A B SA SB : Int) (lt lu gu : Bool) (w : World) (hv : Halves 8 a b A B SA SB lt) (hlt : lt = true) (hop : op ∈ ([81, 82] : List Int)) :
    Calls Try.prog 8 #[.int .i64 op, .int .u64 a, .int .u64 b] w fun e w' => e = .returned (.tuple #[.int .u64 (refV op A B lt lu gu % 2 ^ 64), .bool true]) ∧ Bl w w' := by
  have HV := Lib.hid hv; clear hv
  have cw : ∀ w, Calls Try.prog 11 #[.int .i64 op] w fun e w' => e = .returned (.int .i64 8) ∧ w = w' := fun w => by
    have := rwidth_any op w
    rwa [show awid op = 8 by simp only [List.mem_cons, List.not_mem_nil, or_false] at hop; rcases hop with rfl | rfl <;> rfl] at this
  have CW := Lib.hid cw; clear cw
  simp only [List.mem_cons, List.not_mem_nil, or_false] at hop
  subst hlt
  rcases hop with rfl | rfl
  all_goals
    go_enter Try.func8, Try.ntmps8
    go_wp2_with fail
    refine (CW.out _).mono ?_
    rintro e w' ⟨rfl, rfl⟩
    go_wp2_with fail
    refine (HV.out.pa _).mono ?_
    rintro e w1 ⟨q1, c1, rfl, r1, k1⟩
    have R1 := Lib.hid r1; clear r1
    have K1 := Lib.hid k1; clear k1
    go_wp2_with fail
    refine (HV.out.ga _ _ _ R1.out).mono ?_
    rintro e w' ⟨rfl, rfl⟩
    go_wp2_with fail
    refine (HV.out.pb _).mono ?_
    rintro e w2 ⟨q2, c2, rfl, r2, k2⟩
    have R2 := Lib.hid r2; clear r2
    have K2 := Lib.hid k2; clear k2
    go_wp2_with fail
    refine (HV.out.gb _ _ _ R2.out).mono ?_
    rintro e w' ⟨rfl, rfl⟩
    go_wp2_with fail
    refine (HV.out.sa _).mono ?_
    rintro e w' ⟨rfl, rfl⟩
    go_wp2_with fail
    refine (HV.out.sb _).mono ?_
    rintro e w' ⟨rfl, rfl⟩
    go_wp2_with fail
    refine (HV.out.le _).mono ?_
    rintro e w' ⟨rfl, rfl⟩
    go_wp2_with fail
    refine (HV.out.py _ _).mono ?_
    rintro e w3 ⟨q3, c3, rfl, r3, k3⟩
    have R3 := Lib.hid r3; clear r3
    have K3 := Lib.hid k3; clear k3
    go_wp2_with fail
    refine (HV.out.gy _ _ _ _ R3.out).mono ?_
    rintro e w' ⟨rfl, rfl⟩
    go_wp2_with fail
    go_ret2
    exact ⟨rfl, K1.out.trans (K2.out.trans K3.out)⟩
set_option maxHeartbeats 4000000 in
theorem amoS8f (op a b A B SA SB : Int) (lt lu gu : Bool) (w : World) (hv : Halves 8 a b A B SA SB lt) (hlt : lt = false) (hop : op ∈ ([81, 82] : List Int)) :
    Calls Try.prog 8 #[.int .i64 op, .int .u64 a, .int .u64 b] w fun e w' => e = .returned (.tuple #[.int .u64 (refV op A B lt lu gu % 2 ^ 64), .bool true]) ∧ Bl w w' := by
  have HV := Lib.hid hv; clear hv
  have cw : ∀ w, Calls Try.prog 11 #[.int .i64 op] w fun e w' => e = .returned (.int .i64 8) ∧ w = w' := fun w => by
    have := rwidth_any op w
    rwa [show awid op = 8 by simp only [List.mem_cons, List.not_mem_nil, or_false] at hop; rcases hop with rfl | rfl <;> rfl] at this
  have CW := Lib.hid cw; clear cw
  simp only [List.mem_cons, List.not_mem_nil, or_false] at hop
  subst hlt
  rcases hop with rfl | rfl
  all_goals
    go_enter Try.func8, Try.ntmps8
    go_wp2_with fail
    refine (CW.out _).mono ?_
    rintro e w' ⟨rfl, rfl⟩
    go_wp2_with fail
    refine (HV.out.pa _).mono ?_
    rintro e w1 ⟨q1, c1, rfl, r1, k1⟩
    have R1 := Lib.hid r1; clear r1
    have K1 := Lib.hid k1; clear k1
    go_wp2_with fail
    refine (HV.out.ga _ _ _ R1.out).mono ?_
    rintro e w' ⟨rfl, rfl⟩
    go_wp2_with fail
    refine (HV.out.pb _).mono ?_
    rintro e w2 ⟨q2, c2, rfl, r2, k2⟩
    have R2 := Lib.hid r2; clear r2
    have K2 := Lib.hid k2; clear k2
    go_wp2_with fail
    refine (HV.out.gb _ _ _ R2.out).mono ?_
    rintro e w' ⟨rfl, rfl⟩
    go_wp2_with fail
    refine (HV.out.sa _).mono ?_
    rintro e w' ⟨rfl, rfl⟩
    go_wp2_with fail
    refine (HV.out.sb _).mono ?_
    rintro e w' ⟨rfl, rfl⟩
    go_wp2_with fail
    refine (HV.out.le _).mono ?_
    rintro e w' ⟨rfl, rfl⟩
    go_wp2_with fail
    refine (HV.out.py _ _).mono ?_
    rintro e w3 ⟨q3, c3, rfl, r3, k3⟩
    have R3 := Lib.hid r3; clear r3
    have K3 := Lib.hid k3; clear k3
    go_wp2_with fail
    refine (HV.out.gy _ _ _ _ R3.out).mono ?_
    rintro e w' ⟨rfl, rfl⟩
    go_wp2_with fail
    go_ret2
    exact ⟨rfl, K1.out.trans (K2.out.trans K3.out)⟩
set_option maxHeartbeats 4000000 in
theorem amoU8t (op a b A B SA SB : Int) (lt lu gu : Bool) (w : World) (hv : Halves 8 a b A B SA SB lt) (hlu : lu = true) (hA : A < B) (hop : op ∈ ([83] : List Int)) :
    Calls Try.prog 8 #[.int .i64 op, .int .u64 a, .int .u64 b] w fun e w' => e = .returned (.tuple #[.int .u64 (refV op A B lt lu gu % 2 ^ 64), .bool true]) ∧ Bl w w' := by
  have HV := Lib.hid hv; clear hv
  have cw : ∀ w, Calls Try.prog 11 #[.int .i64 op] w fun e w' => e = .returned (.int .i64 8) ∧ w = w' := fun w => by
    have := rwidth_any op w
    rwa [show awid op = 8 by simp only [List.mem_cons, List.not_mem_nil, or_false] at hop; rcases hop with rfl <;> rfl] at this
  have CW := Lib.hid cw; clear cw
  simp only [List.mem_cons, List.not_mem_nil, or_false] at hop
  subst hlu
  rcases hop with rfl
  all_goals
    go_enter Try.func8, Try.ntmps8
    go_wp2_with fail
    refine (CW.out _).mono ?_
    rintro e w' ⟨rfl, rfl⟩
    go_wp2_with fail
    refine (HV.out.pa _).mono ?_
    rintro e w1 ⟨q1, c1, rfl, r1, k1⟩
    have R1 := Lib.hid r1; clear r1
    have K1 := Lib.hid k1; clear k1
    go_wp2_with fail
    refine (HV.out.ga _ _ _ R1.out).mono ?_
    rintro e w' ⟨rfl, rfl⟩
    go_wp2_with fail
    refine (HV.out.pb _).mono ?_
    rintro e w2 ⟨q2, c2, rfl, r2, k2⟩
    have R2 := Lib.hid r2; clear r2
    have K2 := Lib.hid k2; clear k2
    go_wp2_with fail
    refine (HV.out.gb _ _ _ R2.out).mono ?_
    rintro e w' ⟨rfl, rfl⟩
    go_wp2_with fail
    refine (HV.out.sa _).mono ?_
    rintro e w' ⟨rfl, rfl⟩
    go_wp2_with fail
    refine (HV.out.sb _).mono ?_
    rintro e w' ⟨rfl, rfl⟩
    go_wp2_with fail
    refine (HV.out.le _).mono ?_
    rintro e w' ⟨rfl, rfl⟩
    go_wp2_with fail
    refine (HV.out.py _ _).mono ?_
    rintro e w3 ⟨q3, c3, rfl, r3, k3⟩
    have R3 := Lib.hid r3; clear r3
    have K3 := Lib.hid k3; clear k3
    go_wp2_with fail
    refine (HV.out.gy _ _ _ _ R3.out).mono ?_
    rintro e w' ⟨rfl, rfl⟩
    go_wp2_with fail
    go_ret2
    exact ⟨rfl, K1.out.trans (K2.out.trans K3.out)⟩
set_option maxHeartbeats 4000000 in
theorem amoU8f (op a b A B SA SB : Int) (lt lu gu : Bool) (w : World) (hv : Halves 8 a b A B SA SB lt) (hlu : lu = false) (hA : B ≤ A) (hop : op ∈ ([83] : List Int)) :
    Calls Try.prog 8 #[.int .i64 op, .int .u64 a, .int .u64 b] w fun e w' => e = .returned (.tuple #[.int .u64 (refV op A B lt lu gu % 2 ^ 64), .bool true]) ∧ Bl w w' := by
  have HV := Lib.hid hv; clear hv
  have cw : ∀ w, Calls Try.prog 11 #[.int .i64 op] w fun e w' => e = .returned (.int .i64 8) ∧ w = w' := fun w => by
    have := rwidth_any op w
    rwa [show awid op = 8 by simp only [List.mem_cons, List.not_mem_nil, or_false] at hop; rcases hop with rfl <;> rfl] at this
  have CW := Lib.hid cw; clear cw
  simp only [List.mem_cons, List.not_mem_nil, or_false] at hop
  subst hlu
  rcases hop with rfl
  all_goals
    go_enter Try.func8, Try.ntmps8
    go_wp2_with fail
    refine (CW.out _).mono ?_
    rintro e w' ⟨rfl, rfl⟩
    go_wp2_with fail
    refine (HV.out.pa _).mono ?_
    rintro e w1 ⟨q1, c1, rfl, r1, k1⟩
    have R1 := Lib.hid r1; clear r1
    have K1 := Lib.hid k1; clear k1
    go_wp2_with fail
    refine (HV.out.ga _ _ _ R1.out).mono ?_
    rintro e w' ⟨rfl, rfl⟩
    go_wp2_with fail
    refine (HV.out.pb _).mono ?_
    rintro e w2 ⟨q2, c2, rfl, r2, k2⟩
    have R2 := Lib.hid r2; clear r2
    have K2 := Lib.hid k2; clear k2
    go_wp2_with fail
    refine (HV.out.gb _ _ _ R2.out).mono ?_
    rintro e w' ⟨rfl, rfl⟩
    go_wp2_with fail
    refine (HV.out.sa _).mono ?_
    rintro e w' ⟨rfl, rfl⟩
    go_wp2_with fail
    refine (HV.out.sb _).mono ?_
    rintro e w' ⟨rfl, rfl⟩
    go_wp2_with fail
    refine (HV.out.le _).mono ?_
    rintro e w' ⟨rfl, rfl⟩
    go_wp2_with fail
    refine (HV.out.py _ _).mono ?_
    rintro e w3 ⟨q3, c3, rfl, r3, k3⟩
    have R3 := Lib.hid r3; clear r3
    have K3 := Lib.hid k3; clear k3
    go_wp2_with fail
    refine (HV.out.gy _ _ _ _ R3.out).mono ?_
    rintro e w' ⟨rfl, rfl⟩
    go_wp2_with fail
    go_ret2
    exact ⟨rfl, K1.out.trans (K2.out.trans K3.out)⟩
set_option maxHeartbeats 4000000 in
theorem amoV8t (op a b A B SA SB : Int) (lt lu gu : Bool) (w : World) (hv : Halves 8 a b A B SA SB lt) (hgu : gu = true) (hA : B < A) (hop : op ∈ ([84] : List Int)) :
    Calls Try.prog 8 #[.int .i64 op, .int .u64 a, .int .u64 b] w fun e w' => e = .returned (.tuple #[.int .u64 (refV op A B lt lu gu % 2 ^ 64), .bool true]) ∧ Bl w w' := by
  have HV := Lib.hid hv; clear hv
  have cw : ∀ w, Calls Try.prog 11 #[.int .i64 op] w fun e w' => e = .returned (.int .i64 8) ∧ w = w' := fun w => by
    have := rwidth_any op w
    rwa [show awid op = 8 by simp only [List.mem_cons, List.not_mem_nil, or_false] at hop; rcases hop with rfl <;> rfl] at this
  have CW := Lib.hid cw; clear cw
  simp only [List.mem_cons, List.not_mem_nil, or_false] at hop
  subst hgu
  rcases hop with rfl
  all_goals
    go_enter Try.func8, Try.ntmps8
    go_wp2_with fail
    refine (CW.out _).mono ?_
    rintro e w' ⟨rfl, rfl⟩
    go_wp2_with fail
    refine (HV.out.pa _).mono ?_
    rintro e w1 ⟨q1, c1, rfl, r1, k1⟩
    have R1 := Lib.hid r1; clear r1
    have K1 := Lib.hid k1; clear k1
    go_wp2_with fail
    refine (HV.out.ga _ _ _ R1.out).mono ?_
    rintro e w' ⟨rfl, rfl⟩
    go_wp2_with fail
    refine (HV.out.pb _).mono ?_
    rintro e w2 ⟨q2, c2, rfl, r2, k2⟩
    have R2 := Lib.hid r2; clear r2
    have K2 := Lib.hid k2; clear k2
    go_wp2_with fail
    refine (HV.out.gb _ _ _ R2.out).mono ?_
    rintro e w' ⟨rfl, rfl⟩
    go_wp2_with fail
    refine (HV.out.sa _).mono ?_
    rintro e w' ⟨rfl, rfl⟩
    go_wp2_with fail
    refine (HV.out.sb _).mono ?_
    rintro e w' ⟨rfl, rfl⟩
    go_wp2_with fail
    refine (HV.out.le _).mono ?_
    rintro e w' ⟨rfl, rfl⟩
    go_wp2_with fail
    refine (HV.out.py _ _).mono ?_
    rintro e w3 ⟨q3, c3, rfl, r3, k3⟩
    have R3 := Lib.hid r3; clear r3
    have K3 := Lib.hid k3; clear k3
    go_wp2_with fail
    refine (HV.out.gy _ _ _ _ R3.out).mono ?_
    rintro e w' ⟨rfl, rfl⟩
    go_wp2_with fail
    go_ret2
    exact ⟨rfl, K1.out.trans (K2.out.trans K3.out)⟩
set_option maxHeartbeats 4000000 in
theorem amoV8f (op a b A B SA SB : Int) (lt lu gu : Bool) (w : World) (hv : Halves 8 a b A B SA SB lt) (hgu : gu = false) (hA : A ≤ B) (hop : op ∈ ([84] : List Int)) :
    Calls Try.prog 8 #[.int .i64 op, .int .u64 a, .int .u64 b] w fun e w' => e = .returned (.tuple #[.int .u64 (refV op A B lt lu gu % 2 ^ 64), .bool true]) ∧ Bl w w' := by
  have HV := Lib.hid hv; clear hv
  have cw : ∀ w, Calls Try.prog 11 #[.int .i64 op] w fun e w' => e = .returned (.int .i64 8) ∧ w = w' := fun w => by
    have := rwidth_any op w
    rwa [show awid op = 8 by simp only [List.mem_cons, List.not_mem_nil, or_false] at hop; rcases hop with rfl <;> rfl] at this
  have CW := Lib.hid cw; clear cw
  simp only [List.mem_cons, List.not_mem_nil, or_false] at hop
  subst hgu
  rcases hop with rfl
  all_goals
    go_enter Try.func8, Try.ntmps8
    go_wp2_with fail
    refine (CW.out _).mono ?_
    rintro e w' ⟨rfl, rfl⟩
    go_wp2_with fail
    refine (HV.out.pa _).mono ?_
    rintro e w1 ⟨q1, c1, rfl, r1, k1⟩
    have R1 := Lib.hid r1; clear r1
    have K1 := Lib.hid k1; clear k1
    go_wp2_with fail
    refine (HV.out.ga _ _ _ R1.out).mono ?_
    rintro e w' ⟨rfl, rfl⟩
    go_wp2_with fail
    refine (HV.out.pb _).mono ?_
    rintro e w2 ⟨q2, c2, rfl, r2, k2⟩
    have R2 := Lib.hid r2; clear r2
    have K2 := Lib.hid k2; clear k2
    go_wp2_with fail
    refine (HV.out.gb _ _ _ R2.out).mono ?_
    rintro e w' ⟨rfl, rfl⟩
    go_wp2_with fail
    refine (HV.out.sa _).mono ?_
    rintro e w' ⟨rfl, rfl⟩
    go_wp2_with fail
    refine (HV.out.sb _).mono ?_
    rintro e w' ⟨rfl, rfl⟩
    go_wp2_with fail
    refine (HV.out.le _).mono ?_
    rintro e w' ⟨rfl, rfl⟩
    go_wp2_with fail
    refine (HV.out.py _ _).mono ?_
    rintro e w3 ⟨q3, c3, rfl, r3, k3⟩
    have R3 := Lib.hid r3; clear r3
    have K3 := Lib.hid k3; clear k3
    go_wp2_with fail
    refine (HV.out.gy _ _ _ _ R3.out).mono ?_
    rintro e w' ⟨rfl, rfl⟩
    go_wp2_with fail
    go_ret2
    exact ⟨rfl, K1.out.trans (K2.out.trans K3.out)⟩
set_option maxHeartbeats 4000000 in
theorem amoN8 (op a b A B SA SB : Int) (lt lu gu : Bool) (w : World) (hv : Halves 8 a b A B SA SB lt) (hop : op ∈ ([74, 75] : List Int)) :
    Calls Try.prog 8 #[.int .i64 op, .int .u64 a, .int .u64 b] w fun e w' => e = .returned (.tuple #[.int .u64 (0), .bool false]) ∧ Bl w w' := by
  have HV := Lib.hid hv; clear hv
  have cw : ∀ w, Calls Try.prog 11 #[.int .i64 op] w fun e w' => e = .returned (.int .i64 8) ∧ w = w' := fun w => by
    have := rwidth_any op w
    rwa [show awid op = 8 by simp only [List.mem_cons, List.not_mem_nil, or_false] at hop; rcases hop with rfl | rfl <;> rfl] at this
  have CW := Lib.hid cw; clear cw
  simp only [List.mem_cons, List.not_mem_nil, or_false] at hop
  rcases hop with rfl | rfl
  all_goals
    go_enter Try.func8, Try.ntmps8
    go_wp2_with fail
    refine (CW.out _).mono ?_
    rintro e w' ⟨rfl, rfl⟩
    go_wp2_with fail
    refine (HV.out.pa _).mono ?_
    rintro e w1 ⟨q1, c1, rfl, r1, k1⟩
    have R1 := Lib.hid r1; clear r1
    have K1 := Lib.hid k1; clear k1
    go_wp2_with fail
    refine (HV.out.ga _ _ _ R1.out).mono ?_
    rintro e w' ⟨rfl, rfl⟩
    go_wp2_with fail
    refine (HV.out.pb _).mono ?_
    rintro e w2 ⟨q2, c2, rfl, r2, k2⟩
    have R2 := Lib.hid r2; clear r2
    have K2 := Lib.hid k2; clear k2
    go_wp2_with fail
    refine (HV.out.gb _ _ _ R2.out).mono ?_
    rintro e w' ⟨rfl, rfl⟩
    go_wp2_with fail
    refine (HV.out.sa _).mono ?_
    rintro e w' ⟨rfl, rfl⟩
    go_wp2_with fail
    refine (HV.out.sb _).mono ?_
    rintro e w' ⟨rfl, rfl⟩
    go_wp2_with fail
    refine (HV.out.le _).mono ?_
    rintro e w' ⟨rfl, rfl⟩
    go_wp2_with fail
    go_ret2
    exact ⟨rfl, K1.out.trans K2.out⟩
set_option maxHeartbeats 1000000 in
theorem amoZ (op a b : Int) (w : World) (h : op < 63 ∨ 84 < op) : Calls Try.prog 8 #[.int .i64 op, .int .u64 a, .int .u64 b] w fun e w' => e = .returned (.tuple #[.int .u64 0, .bool false]) ∧ Bl w w' := by
  have cw : ∀ w, Calls Try.prog 11 #[.int .i64 op] w fun e w' => e = .returned (.int .i64 0) ∧ w = w' := fun w => by
    have := rwidth_any op w
    rwa [awid0 h] at this
  have CW := Lib.hid cw; clear cw
  clear h
  go_enter Try.func8, Try.ntmps8
  go_wp2_with fail
  refine (CW.out _).mono ?_
  rintro e w' ⟨rfl, rfl⟩
  go_wp2_with fail
  go_ret2
  exact ⟨rfl, Bl.refl _⟩
theorem sextI_64 (x : Int) (h0 : 0 ≤ x) (h : x < 18446744073709551616) : sextI x 64 = x := by
  unfold sextI sx low; simp; omega
theorem sextI_32 (x : Int) : sextI x 32 = ((x + 2147483648) % 4294967296 - 2147483648) % 18446744073709551616 := by
  unfold sextI sx low; rw [if_pos (by omega)]; rfl
theorem bits_mod32 (k : BinOp) (hk : k = .xor ∨ k = .and ∨ k = .or) (a b A B : Int) (a0 : 0 ≤ a) (a1 : a < 18446744073709551616) (b0 : 0 ≤ b) (b1 : b < 18446744073709551616) (A0 : 0 ≤ A) (A1 : A < 18446744073709551616) (B0 : 0 ≤ B) (B1 : B < 18446744073709551616)
    (ha : a % 4294967296 = A % 4294967296) (hb : b % 4294967296 = B % 4294967296) : bits k .u64 a b % 4294967296 = bits k .u64 A B % 4294967296 := by
  obtain ⟨x, rfl⟩ := Int.eq_ofNat_of_zero_le a0
  obtain ⟨y, rfl⟩ := Int.eq_ofNat_of_zero_le b0
  obtain ⟨X, rfl⟩ := Int.eq_ofNat_of_zero_le A0
  obtain ⟨Y, rfl⟩ := Int.eq_ofNat_of_zero_le B0
  have h1 : x % 2 ^ 32 = X % 2 ^ 32 := by omega
  have h2 : y % 2 ^ 32 = Y % 2 ^ 32 := by omega
  rcases hk with rfl | rfl | rfl
  · rw [u64_xor_nat x y (by omega) (by omega), u64_xor_nat X Y (by omega) (by omega)]
    have e := Nat.xor_mod_two_pow (a := x) (b := y) (n := 32)
    have f := Nat.xor_mod_two_pow (a := X) (b := Y) (n := 32)
    rw [h1, h2, ← f] at e
    omega
  · rw [u64_and_nat x y (by omega) (by omega), u64_and_nat X Y (by omega) (by omega)]
    have e := Nat.and_mod_two_pow (a := x) (b := y) (n := 32)
    have f := Nat.and_mod_two_pow (a := X) (b := Y) (n := 32)
    rw [h1, h2, ← f] at e
    omega
  · rw [u64_or_nat x y (by omega) (by omega), u64_or_nat X Y (by omega) (by omega)]
    have e := Nat.or_mod_two_pow (a := x) (b := y) (n := 32)
    have f := Nat.or_mod_two_pow (a := X) (b := Y) (n := 32)
    rw [h1, h2, ← f] at e
    omega
end Go.Proofs.Ytpalhkfipnbcnaa
