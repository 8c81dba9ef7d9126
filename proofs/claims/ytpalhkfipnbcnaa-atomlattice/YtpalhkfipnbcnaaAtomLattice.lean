/-
  For all words and both widths the law AtomLattice returns true: least and greatest of two go either way round and are one of both, what is laid twice is laid once, and sums, exclusive ors and swaps go back as they were. No condition.
-/
import Derived.Test.YtpalhkfipnbcnaaRows
import Derived.Test.YtpalhkfipnbcnaaAtomD
import Derived.Test.YtpalhkfipnbcnaaInts
import Derived.WalkKit
import Derived.ProofKit
import Derived.OpenShut
import Derived.ShutString
namespace Go.Proofs.Ytpalhkfipnbcnaa.atomLattice
open Go.ChangeShapes Go.WideShapes Go.ChangeAt Go.RowKit
open Go.ChangeMaps (open_string shut_string)
set_option linter.unusedVariables false
set_option linter.unusedSimpArgs false
set_option maxRecDepth 100000

theorem own : ownKnob Try.prog.godebug = none := by kernel_rfl

/-! ### The walk: the Go text returns true -/
set_option maxHeartbeats 8000000 in
theorem walk (a0 : Int) (a1 : Int) (a2 : Bool) (w0 : (Lit.int .u64 a0).wf = true) (w1 : (Lit.int .u64 a1).wf = true) (w : World) :
    Calls Try.prog 4 #[.int .u64 a0, .int .u64 a1, .bool a2] w fun e w' => e = .returned (.bool true) ∧ Below w.heap.size w w' := by
  obtain ⟨ha0, ha1⟩ := u64_wf w0
  obtain ⟨hb0, hb1⟩ := u64_wf w1
  obtain ⟨ha, hb⟩ : a0 < 18446744073709551616 ∧ a1 < 18446744073709551616 := by omega
  clear ha1 hb1
  rcases a2 with _ | _
  · obtain ⟨hm, hm'⟩ : bits .and .u64 a0 4294967295 = a0 % 4294967296 ∧ bits .and .u64 a1 4294967295 = a1 % 4294967296 := ⟨and_mask0 a0 ha0 ha, and_mask0 a1 hb0 hb⟩
    have HM := Lib.hid hm; clear hm
    have HM' := Lib.hid hm'; clear hm'
    have hadd := sum_back0 a0 a1 ha0 ha hb0 hb
    have hxor := xor_back0 a0 a1 ha0 ha hb0 hb
    have hswap := swap_is0 a0 a1 ha0 ha hb0 hb
    have HADD := Lib.hid hadd; clear hadd
    have HXOR := Lib.hid hxor; clear hxor
    have HSWAP := Lib.hid hswap; clear hswap
    have L2 := Lib.hid (fun op h => lat0 a0 a1 ha0 ha hb0 hb op h)
    have L4 := Lib.hid (fun op h => lat40 a0 a1 ha0 ha hb0 hb op h)
    have DO := Lib.hid (fun op a b w h1 h2 h3 h4 => do_any op a b w h1 h2 h3 h4)
    have ANS := Lib.hid (fun w => aanswers_any w)
    go_enter Try.func4, Try.ntmps4
    go_wp2_with fail
    go_loop [10] (fun i => ∃ k : Nat, k ≤ 6 ∧ i = .int .i64 k) (fun i => (6 - intOf i).toNat)
    case atStart => exact ⟨0, by omega, rfl⟩
    case round =>
      obtain ⟨k, hk, rfl⟩ := hrel
      obtain rfl | rfl | rfl | rfl | rfl | rfl | rfl : k = 0 ∨ k = 1 ∨ k = 2 ∨ k = 3 ∨ k = 4 ∨ k = 5 ∨ k = 6 := by omega
      · obtain ⟨e1, e2⟩ := L2.out 70 (by decide)
        have bd := amoV_bd64 70 a0 a1
        have c1 := fun w => DO.out 70 a0 a1 w ha0 ha hb0 hb
        have c2 := fun w => DO.out 70 a1 a0 w hb0 hb ha0 ha
        have c3 := fun w => DO.out 70 _ a1 w bd.1 bd.2 hb0 hb
        rw [e2] at c3
        rw [← e1] at c2
        rw [show amoOk 70 = true from rfl] at c1 c2 c3
        clear e1 e2 bd
        have l4 := L4.out 70 (by decide)
        generalize amoV 70 a0 a1 = x at *
        have hc : (x != a0 % 4294967296) = false ∨ ((x != a0 % 4294967296) = true ∧ (x != a1 % 4294967296) = false) := by
          by_cases h : x = a0 % 4294967296
          · exact .inl (by simp [h])
          · exact .inr ⟨by simp [h], by rcases l4 with l4 | l4 <;> simp_all⟩
        clear l4
        generalize a0 % 4294967296 = p at *
        generalize a1 % 4294967296 = q at *
        have m1 := HM.out
        have m2 := HM'.out
        have C1 := Lib.hid c1; clear c1
        have C2 := Lib.hid c2; clear c2
        have C3 := Lib.hid c3; clear c3
        rcases hc with hc | hc
        all_goals
          (try obtain ⟨hc, hc'⟩ := hc)
          go_wp2_with fail
          refine (C1.out _).mono ?_
          rintro e w' ⟨rfl, rfl⟩
          go_wp2_with fail
          refine (C2.out _).mono ?_
          rintro e w' ⟨rfl, rfl⟩
          go_wp2_with fail
          refine (C3.out _).mono ?_
          rintro e w' ⟨rfl, rfl⟩
          go_wp2_with fail
          go_round
          case rel => exact ⟨1, by omega, by go_num⟩
          case measure => simp [intOf]
      · obtain ⟨e1, e2⟩ := L2.out 71 (by decide)
        have bd := amoV_bd64 71 a0 a1
        have c1 := fun w => DO.out 71 a0 a1 w ha0 ha hb0 hb
        have c2 := fun w => DO.out 71 a1 a0 w hb0 hb ha0 ha
        have c3 := fun w => DO.out 71 _ a1 w bd.1 bd.2 hb0 hb
        rw [e2] at c3
        rw [← e1] at c2
        rw [show amoOk 71 = true from rfl] at c1 c2 c3
        clear e1 e2 bd
        have l4 := L4.out 71 (by decide)
        generalize amoV 71 a0 a1 = x at *
        have hc : (x != a0 % 4294967296) = false ∨ ((x != a0 % 4294967296) = true ∧ (x != a1 % 4294967296) = false) := by
          by_cases h : x = a0 % 4294967296
          · exact .inl (by simp [h])
          · exact .inr ⟨by simp [h], by rcases l4 with l4 | l4 <;> simp_all⟩
        clear l4
        generalize a0 % 4294967296 = p at *
        generalize a1 % 4294967296 = q at *
        have m1 := HM.out
        have m2 := HM'.out
        have C1 := Lib.hid c1; clear c1
        have C2 := Lib.hid c2; clear c2
        have C3 := Lib.hid c3; clear c3
        rcases hc with hc | hc
        all_goals
          (try obtain ⟨hc, hc'⟩ := hc)
          go_wp2_with fail
          refine (C1.out _).mono ?_
          rintro e w' ⟨rfl, rfl⟩
          go_wp2_with fail
          refine (C2.out _).mono ?_
          rintro e w' ⟨rfl, rfl⟩
          go_wp2_with fail
          refine (C3.out _).mono ?_
          rintro e w' ⟨rfl, rfl⟩
          go_wp2_with fail
          go_round
          case rel => exact ⟨2, by omega, by go_num⟩
          case measure => simp [intOf]
      · obtain ⟨e1, e2⟩ := L2.out 72 (by decide)
        have bd := amoV_bd64 72 a0 a1
        have c1 := fun w => DO.out 72 a0 a1 w ha0 ha hb0 hb
        have c2 := fun w => DO.out 72 a1 a0 w hb0 hb ha0 ha
        have c3 := fun w => DO.out 72 _ a1 w bd.1 bd.2 hb0 hb
        rw [e2] at c3
        rw [← e1] at c2
        rw [show amoOk 72 = true from rfl] at c1 c2 c3
        clear e1 e2 bd
        have l4 := L4.out 72 (by decide)
        generalize amoV 72 a0 a1 = x at *
        have hc : (x != a0 % 4294967296) = false ∨ ((x != a0 % 4294967296) = true ∧ (x != a1 % 4294967296) = false) := by
          by_cases h : x = a0 % 4294967296
          · exact .inl (by simp [h])
          · exact .inr ⟨by simp [h], by rcases l4 with l4 | l4 <;> simp_all⟩
        clear l4
        generalize a0 % 4294967296 = p at *
        generalize a1 % 4294967296 = q at *
        have m1 := HM.out
        have m2 := HM'.out
        have C1 := Lib.hid c1; clear c1
        have C2 := Lib.hid c2; clear c2
        have C3 := Lib.hid c3; clear c3
        rcases hc with hc | hc
        all_goals
          (try obtain ⟨hc, hc'⟩ := hc)
          go_wp2_with fail
          refine (C1.out _).mono ?_
          rintro e w' ⟨rfl, rfl⟩
          go_wp2_with fail
          refine (C2.out _).mono ?_
          rintro e w' ⟨rfl, rfl⟩
          go_wp2_with fail
          refine (C3.out _).mono ?_
          rintro e w' ⟨rfl, rfl⟩
          go_wp2_with fail
          go_round
          case rel => exact ⟨3, by omega, by go_num⟩
          case measure => simp [intOf]
      · obtain ⟨e1, e2⟩ := L2.out 73 (by decide)
        have bd := amoV_bd64 73 a0 a1
        have c1 := fun w => DO.out 73 a0 a1 w ha0 ha hb0 hb
        have c2 := fun w => DO.out 73 a1 a0 w hb0 hb ha0 ha
        have c3 := fun w => DO.out 73 _ a1 w bd.1 bd.2 hb0 hb
        rw [e2] at c3
        rw [← e1] at c2
        rw [show amoOk 73 = true from rfl] at c1 c2 c3
        clear e1 e2 bd
        have l4 := L4.out 73 (by decide)
        generalize amoV 73 a0 a1 = x at *
        have hc : (x != a0 % 4294967296) = false ∨ ((x != a0 % 4294967296) = true ∧ (x != a1 % 4294967296) = false) := by
          by_cases h : x = a0 % 4294967296
          · exact .inl (by simp [h])
          · exact .inr ⟨by simp [h], by rcases l4 with l4 | l4 <;> simp_all⟩
        clear l4
        generalize a0 % 4294967296 = p at *
        generalize a1 % 4294967296 = q at *
        have m1 := HM.out
        have m2 := HM'.out
        have C1 := Lib.hid c1; clear c1
        have C2 := Lib.hid c2; clear c2
        have C3 := Lib.hid c3; clear c3
        rcases hc with hc | hc
        all_goals
          (try obtain ⟨hc, hc'⟩ := hc)
          go_wp2_with fail
          refine (C1.out _).mono ?_
          rintro e w' ⟨rfl, rfl⟩
          go_wp2_with fail
          refine (C2.out _).mono ?_
          rintro e w' ⟨rfl, rfl⟩
          go_wp2_with fail
          refine (C3.out _).mono ?_
          rintro e w' ⟨rfl, rfl⟩
          go_wp2_with fail
          go_round
          case rel => exact ⟨4, by omega, by go_num⟩
          case measure => simp [intOf]
      · obtain ⟨e1, e2⟩ := L2.out 68 (by decide)
        have bd := amoV_bd64 68 a0 a1
        have c1 := fun w => DO.out 68 a0 a1 w ha0 ha hb0 hb
        have c2 := fun w => DO.out 68 a1 a0 w hb0 hb ha0 ha
        have c3 := fun w => DO.out 68 _ a1 w bd.1 bd.2 hb0 hb
        rw [e2] at c3
        rw [← e1] at c2
        rw [show amoOk 68 = true from rfl] at c1 c2 c3
        clear e1 e2 bd
        generalize amoV 68 a0 a1 = x at *
        have hc : True ∨ True := .inl trivial
        have C1 := Lib.hid c1; clear c1
        have C2 := Lib.hid c2; clear c2
        have C3 := Lib.hid c3; clear c3
        rcases hc with hc | hc
        all_goals
          (try obtain ⟨hc, hc'⟩ := hc)
          go_wp2_with fail
          refine (C1.out _).mono ?_
          rintro e w' ⟨rfl, rfl⟩
          go_wp2_with fail
          refine (C2.out _).mono ?_
          rintro e w' ⟨rfl, rfl⟩
          go_wp2_with fail
          refine (C3.out _).mono ?_
          rintro e w' ⟨rfl, rfl⟩
          go_wp2_with fail
          go_round
          case rel => exact ⟨5, by omega, by go_num⟩
          case measure => simp [intOf]
      · obtain ⟨e1, e2⟩ := L2.out 69 (by decide)
        have bd := amoV_bd64 69 a0 a1
        have c1 := fun w => DO.out 69 a0 a1 w ha0 ha hb0 hb
        have c2 := fun w => DO.out 69 a1 a0 w hb0 hb ha0 ha
        have c3 := fun w => DO.out 69 _ a1 w bd.1 bd.2 hb0 hb
        rw [e2] at c3
        rw [← e1] at c2
        rw [show amoOk 69 = true from rfl] at c1 c2 c3
        clear e1 e2 bd
        generalize amoV 69 a0 a1 = x at *
        have hc : True ∨ True := .inl trivial
        have C1 := Lib.hid c1; clear c1
        have C2 := Lib.hid c2; clear c2
        have C3 := Lib.hid c3; clear c3
        rcases hc with hc | hc
        all_goals
          (try obtain ⟨hc, hc'⟩ := hc)
          go_wp2_with fail
          refine (C1.out _).mono ?_
          rintro e w' ⟨rfl, rfl⟩
          go_wp2_with fail
          refine (C2.out _).mono ?_
          rintro e w' ⟨rfl, rfl⟩
          go_wp2_with fail
          refine (C3.out _).mono ?_
          rintro e w' ⟨rfl, rfl⟩
          go_wp2_with fail
          go_round
          case rel => exact ⟨6, by omega, by go_num⟩
          case measure => simp [intOf]
      · have bs := amoV_bd64 66 a0 a1
        have bx := amoV_bd64 67 a0 a1
        have bn := IntKind.wrap_u64 (-a1)
        have c1 := fun w => DO.out 66 a0 a1 w ha0 ha hb0 hb
        have c2 := fun w => DO.out 66 _ (IntKind.u64.wrap (-a1)) w bs.1 bs.2 (by omega) (by omega)
        have c3 := fun w => DO.out 67 a0 a1 w ha0 ha hb0 hb
        have c4 := fun w => DO.out 67 _ a1 w bx.1 bx.2 hb0 hb
        have c5 := fun w => DO.out 65 a0 a1 w ha0 ha hb0 hb
        rw [HADD.out] at c2
        rw [HXOR.out] at c4
        rw [HSWAP.out] at c5
        clear bs bx bn
        generalize amoV 66 a0 a1 = s at *
        generalize amoV 67 a0 a1 = x at *
        generalize a0 % 4294967296 = p at *
        generalize a1 % 4294967296 = q at *
        have m1 := HM.out
        have m2 := HM'.out
        have C1 := Lib.hid c1; clear c1
        have C2 := Lib.hid c2; clear c2
        have C3 := Lib.hid c3; clear c3
        have C4 := Lib.hid c4; clear c4
        have C5 := Lib.hid c5; clear c5
        go_wp2_with fail
        refine (C1.out _).mono ?_
        rintro e w' ⟨rfl, rfl⟩
        go_wp2_with fail
        refine (C2.out _).mono ?_
        rintro e w' ⟨rfl, rfl⟩
        go_wp2_with fail
        refine (C3.out _).mono ?_
        rintro e w' ⟨rfl, rfl⟩
        go_wp2_with fail
        refine (C4.out _).mono ?_
        rintro e w' ⟨rfl, rfl⟩
        go_wp2_with fail
        refine (C5.out _).mono ?_
        rintro e w' ⟨rfl, rfl⟩
        go_wp2_with fail
        refine (ANS.out _).mono ?_
        rintro e w' ⟨rfl, rfl⟩
        go_wp2_with fail
        go_ret
        exact ⟨by simp, (Bl.refl _).alloc _⟩
  · obtain ⟨hm, hm'⟩ : bits .and .u64 a0 18446744073709551615 = a0 % 18446744073709551616 ∧ bits .and .u64 a1 18446744073709551615 = a1 % 18446744073709551616 := ⟨and_mask1 a0 ha0 ha, and_mask1 a1 hb0 hb⟩
    have HM := Lib.hid hm; clear hm
    have HM' := Lib.hid hm'; clear hm'
    have hadd := sum_back1 a0 a1 ha0 ha hb0 hb
    have hxor := xor_back1 a0 a1 ha0 ha hb0 hb
    have hswap := swap_is1 a0 a1 ha0 ha hb0 hb
    have HADD := Lib.hid hadd; clear hadd
    have HXOR := Lib.hid hxor; clear hxor
    have HSWAP := Lib.hid hswap; clear hswap
    have L2 := Lib.hid (fun op h => lat1 a0 a1 ha0 ha hb0 hb op h)
    have L4 := Lib.hid (fun op h => lat41 a0 a1 ha0 ha hb0 hb op h)
    have DO := Lib.hid (fun op a b w h1 h2 h3 h4 => do_any op a b w h1 h2 h3 h4)
    have ANS := Lib.hid (fun w => aanswers_any w)
    go_enter Try.func4, Try.ntmps4
    go_wp2_with fail
    go_loop [10] (fun i => ∃ k : Nat, k ≤ 6 ∧ i = .int .i64 k) (fun i => (6 - intOf i).toNat)
    case atStart => exact ⟨0, by omega, rfl⟩
    case round =>
      obtain ⟨k, hk, rfl⟩ := hrel
      obtain rfl | rfl | rfl | rfl | rfl | rfl | rfl : k = 0 ∨ k = 1 ∨ k = 2 ∨ k = 3 ∨ k = 4 ∨ k = 5 ∨ k = 6 := by omega
      · obtain ⟨e1, e2⟩ := L2.out 81 (by decide)
        have bd := amoV_bd64 81 a0 a1
        have c1 := fun w => DO.out 81 a0 a1 w ha0 ha hb0 hb
        have c2 := fun w => DO.out 81 a1 a0 w hb0 hb ha0 ha
        have c3 := fun w => DO.out 81 _ a1 w bd.1 bd.2 hb0 hb
        rw [e2] at c3
        rw [← e1] at c2
        rw [show amoOk 81 = true from rfl] at c1 c2 c3
        clear e1 e2 bd
        have l4 := L4.out 81 (by decide)
        generalize amoV 81 a0 a1 = x at *
        have hc : (x != a0 % 18446744073709551616) = false ∨ ((x != a0 % 18446744073709551616) = true ∧ (x != a1 % 18446744073709551616) = false) := by
          by_cases h : x = a0 % 18446744073709551616
          · exact .inl (by simp [h])
          · exact .inr ⟨by simp [h], by rcases l4 with l4 | l4 <;> simp_all⟩
        clear l4
        generalize a0 % 18446744073709551616 = p at *
        generalize a1 % 18446744073709551616 = q at *
        have m1 := HM.out
        have m2 := HM'.out
        have C1 := Lib.hid c1; clear c1
        have C2 := Lib.hid c2; clear c2
        have C3 := Lib.hid c3; clear c3
        rcases hc with hc | hc
        all_goals
          (try obtain ⟨hc, hc'⟩ := hc)
          go_wp2_with fail
          refine (C1.out _).mono ?_
          rintro e w' ⟨rfl, rfl⟩
          go_wp2_with fail
          refine (C2.out _).mono ?_
          rintro e w' ⟨rfl, rfl⟩
          go_wp2_with fail
          refine (C3.out _).mono ?_
          rintro e w' ⟨rfl, rfl⟩
          go_wp2_with fail
          go_round
          case rel => exact ⟨1, by omega, by go_num⟩
          case measure => simp [intOf]
      · obtain ⟨e1, e2⟩ := L2.out 82 (by decide)
        have bd := amoV_bd64 82 a0 a1
        have c1 := fun w => DO.out 82 a0 a1 w ha0 ha hb0 hb
        have c2 := fun w => DO.out 82 a1 a0 w hb0 hb ha0 ha
        have c3 := fun w => DO.out 82 _ a1 w bd.1 bd.2 hb0 hb
        rw [e2] at c3
        rw [← e1] at c2
        rw [show amoOk 82 = true from rfl] at c1 c2 c3
        clear e1 e2 bd
        have l4 := L4.out 82 (by decide)
        generalize amoV 82 a0 a1 = x at *
        have hc : (x != a0 % 18446744073709551616) = false ∨ ((x != a0 % 18446744073709551616) = true ∧ (x != a1 % 18446744073709551616) = false) := by
          by_cases h : x = a0 % 18446744073709551616
          · exact .inl (by simp [h])
          · exact .inr ⟨by simp [h], by rcases l4 with l4 | l4 <;> simp_all⟩
        clear l4
        generalize a0 % 18446744073709551616 = p at *
        generalize a1 % 18446744073709551616 = q at *
        have m1 := HM.out
        have m2 := HM'.out
        have C1 := Lib.hid c1; clear c1
        have C2 := Lib.hid c2; clear c2
        have C3 := Lib.hid c3; clear c3
        rcases hc with hc | hc
        all_goals
          (try obtain ⟨hc, hc'⟩ := hc)
          go_wp2_with fail
          refine (C1.out _).mono ?_
          rintro e w' ⟨rfl, rfl⟩
          go_wp2_with fail
          refine (C2.out _).mono ?_
          rintro e w' ⟨rfl, rfl⟩
          go_wp2_with fail
          refine (C3.out _).mono ?_
          rintro e w' ⟨rfl, rfl⟩
          go_wp2_with fail
          go_round
          case rel => exact ⟨2, by omega, by go_num⟩
          case measure => simp [intOf]
      · obtain ⟨e1, e2⟩ := L2.out 83 (by decide)
        have bd := amoV_bd64 83 a0 a1
        have c1 := fun w => DO.out 83 a0 a1 w ha0 ha hb0 hb
        have c2 := fun w => DO.out 83 a1 a0 w hb0 hb ha0 ha
        have c3 := fun w => DO.out 83 _ a1 w bd.1 bd.2 hb0 hb
        rw [e2] at c3
        rw [← e1] at c2
        rw [show amoOk 83 = true from rfl] at c1 c2 c3
        clear e1 e2 bd
        have l4 := L4.out 83 (by decide)
        generalize amoV 83 a0 a1 = x at *
        have hc : (x != a0 % 18446744073709551616) = false ∨ ((x != a0 % 18446744073709551616) = true ∧ (x != a1 % 18446744073709551616) = false) := by
          by_cases h : x = a0 % 18446744073709551616
          · exact .inl (by simp [h])
          · exact .inr ⟨by simp [h], by rcases l4 with l4 | l4 <;> simp_all⟩
        clear l4
        generalize a0 % 18446744073709551616 = p at *
        generalize a1 % 18446744073709551616 = q at *
        have m1 := HM.out
        have m2 := HM'.out
        have C1 := Lib.hid c1; clear c1
        have C2 := Lib.hid c2; clear c2
        have C3 := Lib.hid c3; clear c3
        rcases hc with hc | hc
        all_goals
          (try obtain ⟨hc, hc'⟩ := hc)
          go_wp2_with fail
          refine (C1.out _).mono ?_
          rintro e w' ⟨rfl, rfl⟩
          go_wp2_with fail
          refine (C2.out _).mono ?_
          rintro e w' ⟨rfl, rfl⟩
          go_wp2_with fail
          refine (C3.out _).mono ?_
          rintro e w' ⟨rfl, rfl⟩
          go_wp2_with fail
          go_round
          case rel => exact ⟨3, by omega, by go_num⟩
          case measure => simp [intOf]
      · obtain ⟨e1, e2⟩ := L2.out 84 (by decide)
        have bd := amoV_bd64 84 a0 a1
        have c1 := fun w => DO.out 84 a0 a1 w ha0 ha hb0 hb
        have c2 := fun w => DO.out 84 a1 a0 w hb0 hb ha0 ha
        have c3 := fun w => DO.out 84 _ a1 w bd.1 bd.2 hb0 hb
        rw [e2] at c3
        rw [← e1] at c2
        rw [show amoOk 84 = true from rfl] at c1 c2 c3
        clear e1 e2 bd
        have l4 := L4.out 84 (by decide)
        generalize amoV 84 a0 a1 = x at *
        have hc : (x != a0 % 18446744073709551616) = false ∨ ((x != a0 % 18446744073709551616) = true ∧ (x != a1 % 18446744073709551616) = false) := by
          by_cases h : x = a0 % 18446744073709551616
          · exact .inl (by simp [h])
          · exact .inr ⟨by simp [h], by rcases l4 with l4 | l4 <;> simp_all⟩
        clear l4
        generalize a0 % 18446744073709551616 = p at *
        generalize a1 % 18446744073709551616 = q at *
        have m1 := HM.out
        have m2 := HM'.out
        have C1 := Lib.hid c1; clear c1
        have C2 := Lib.hid c2; clear c2
        have C3 := Lib.hid c3; clear c3
        rcases hc with hc | hc
        all_goals
          (try obtain ⟨hc, hc'⟩ := hc)
          go_wp2_with fail
          refine (C1.out _).mono ?_
          rintro e w' ⟨rfl, rfl⟩
          go_wp2_with fail
          refine (C2.out _).mono ?_
          rintro e w' ⟨rfl, rfl⟩
          go_wp2_with fail
          refine (C3.out _).mono ?_
          rintro e w' ⟨rfl, rfl⟩
          go_wp2_with fail
          go_round
          case rel => exact ⟨4, by omega, by go_num⟩
          case measure => simp [intOf]
      · obtain ⟨e1, e2⟩ := L2.out 79 (by decide)
        have bd := amoV_bd64 79 a0 a1
        have c1 := fun w => DO.out 79 a0 a1 w ha0 ha hb0 hb
        have c2 := fun w => DO.out 79 a1 a0 w hb0 hb ha0 ha
        have c3 := fun w => DO.out 79 _ a1 w bd.1 bd.2 hb0 hb
        rw [e2] at c3
        rw [← e1] at c2
        rw [show amoOk 79 = true from rfl] at c1 c2 c3
        clear e1 e2 bd
        generalize amoV 79 a0 a1 = x at *
        have hc : True ∨ True := .inl trivial
        have C1 := Lib.hid c1; clear c1
        have C2 := Lib.hid c2; clear c2
        have C3 := Lib.hid c3; clear c3
        rcases hc with hc | hc
        all_goals
          (try obtain ⟨hc, hc'⟩ := hc)
          go_wp2_with fail
          refine (C1.out _).mono ?_
          rintro e w' ⟨rfl, rfl⟩
          go_wp2_with fail
          refine (C2.out _).mono ?_
          rintro e w' ⟨rfl, rfl⟩
          go_wp2_with fail
          refine (C3.out _).mono ?_
          rintro e w' ⟨rfl, rfl⟩
          go_wp2_with fail
          go_round
          case rel => exact ⟨5, by omega, by go_num⟩
          case measure => simp [intOf]
      · obtain ⟨e1, e2⟩ := L2.out 80 (by decide)
        have bd := amoV_bd64 80 a0 a1
        have c1 := fun w => DO.out 80 a0 a1 w ha0 ha hb0 hb
        have c2 := fun w => DO.out 80 a1 a0 w hb0 hb ha0 ha
        have c3 := fun w => DO.out 80 _ a1 w bd.1 bd.2 hb0 hb
        rw [e2] at c3
        rw [← e1] at c2
        rw [show amoOk 80 = true from rfl] at c1 c2 c3
        clear e1 e2 bd
        generalize amoV 80 a0 a1 = x at *
        have hc : True ∨ True := .inl trivial
        have C1 := Lib.hid c1; clear c1
        have C2 := Lib.hid c2; clear c2
        have C3 := Lib.hid c3; clear c3
        rcases hc with hc | hc
        all_goals
          (try obtain ⟨hc, hc'⟩ := hc)
          go_wp2_with fail
          refine (C1.out _).mono ?_
          rintro e w' ⟨rfl, rfl⟩
          go_wp2_with fail
          refine (C2.out _).mono ?_
          rintro e w' ⟨rfl, rfl⟩
          go_wp2_with fail
          refine (C3.out _).mono ?_
          rintro e w' ⟨rfl, rfl⟩
          go_wp2_with fail
          go_round
          case rel => exact ⟨6, by omega, by go_num⟩
          case measure => simp [intOf]
      · have bs := amoV_bd64 77 a0 a1
        have bx := amoV_bd64 78 a0 a1
        have bn := IntKind.wrap_u64 (-a1)
        have c1 := fun w => DO.out 77 a0 a1 w ha0 ha hb0 hb
        have c2 := fun w => DO.out 77 _ (IntKind.u64.wrap (-a1)) w bs.1 bs.2 (by omega) (by omega)
        have c3 := fun w => DO.out 78 a0 a1 w ha0 ha hb0 hb
        have c4 := fun w => DO.out 78 _ a1 w bx.1 bx.2 hb0 hb
        have c5 := fun w => DO.out 76 a0 a1 w ha0 ha hb0 hb
        rw [HADD.out] at c2
        rw [HXOR.out] at c4
        rw [HSWAP.out] at c5
        clear bs bx bn
        generalize amoV 77 a0 a1 = s at *
        generalize amoV 78 a0 a1 = x at *
        generalize a0 % 18446744073709551616 = p at *
        generalize a1 % 18446744073709551616 = q at *
        have m1 := HM.out
        have m2 := HM'.out
        have C1 := Lib.hid c1; clear c1
        have C2 := Lib.hid c2; clear c2
        have C3 := Lib.hid c3; clear c3
        have C4 := Lib.hid c4; clear c4
        have C5 := Lib.hid c5; clear c5
        go_wp2_with fail
        refine (C1.out _).mono ?_
        rintro e w' ⟨rfl, rfl⟩
        go_wp2_with fail
        refine (C2.out _).mono ?_
        rintro e w' ⟨rfl, rfl⟩
        go_wp2_with fail
        refine (C3.out _).mono ?_
        rintro e w' ⟨rfl, rfl⟩
        go_wp2_with fail
        refine (C4.out _).mono ?_
        rintro e w' ⟨rfl, rfl⟩
        go_wp2_with fail
        refine (C5.out _).mono ?_
        rintro e w' ⟨rfl, rfl⟩
        go_wp2_with fail
        refine (ANS.out _).mono ?_
        rintro e w' ⟨rfl, rfl⟩
        go_wp2_with fail
        go_ret
        exact ⟨by simp, (Bl.refl _).alloc _⟩

/-! ### The row's step -/
set_option maxRecDepth 100000 in
theorem lifted (os : Os) (started : os.Started) (H : Type) (enc : TypeId × Value → H) :
    ReturnsInHanded {} Try.checked os 4 .any (Rows.atomLatticeSpec.pre6 enc Try.prog Try.f4 Rows.atomLatticeRow.domain false) (Rows.atomLatticeSpec.post enc Try.prog Try.f4 false true false false) := by
  refine returnsInHanded_of_change (C := Try.checked) own started (by kernel_rfl) Try.func4
    (ChangeSpec.witness6 (enc := enc) (C := Try.checked) false ⟨#[], #[.int .u64 0, .int .u64 0, .bool false], []⟩ 8 (by kernel_rfl) (by kernel_rfl) (by kernel_rfl) (by kernel_rfl)) ?_
  intro W base args ds gs before hval0 hW hcnd _
  have hval : ∀ (j : Nat) t v, Try.f4.params[j]? = some t → args[j]? = some v → Value.okWide Try.prog W .any base t v := hval0
  have hW' := hW
  obtain ⟨p, q, hA0, hV, rfl, hfz, hnd⟩ := hW
  have hA : DataW.TrodAll enc Try.prog W 0 (fun _ => true) true Try.f4.params.toList args.toList ds p := hA0
  rw [Try.params4] at hA hval
  obtain ⟨v0, vs0, d0, ds0, p0, q0, hargs, rfl, rfl, h0, r0⟩ := trodAll_cons hA
  obtain ⟨v1, vs1, d1, ds1, p1, q1, rfl, rfl, rfl, h1, r1⟩ := trodAll_cons r0
  obtain ⟨v2, vs2, d2, ds2, p2, q2, rfl, rfl, rfl, h2, r2⟩ := trodAll_cons r1
  obtain ⟨rfl, rfl, rfl⟩ := trodAll_nil r2
  obtain rfl : args = #[v0, v1, v2] := by cases args; simp_all
  obtain ⟨rfl, rfl⟩ := trodVars_none hV
  obtain ⟨a0, rfl, rfl, rfl, w0⟩ := open_int Try.underlying22 (hval 0 22 v0 rfl rfl) h0
  obtain ⟨a1, rfl, rfl, rfl, w1⟩ := open_int Try.underlying22 (hval 1 22 v1 rfl rfl) h1
  obtain ⟨a2, rfl, rfl, rfl⟩ := open_bool Try.underlying4 (hval 2 4 v2 rfl rfl) h2
  clear hA0 hval0
  refine (walk a0 a1 a2 w0 w1 W).mono fun e W' ⟨he, bel⟩ => ?_
  subst he
  exact ⟨_, rfl, _, _, _, [], _, [], hW', trodAll_mk1 (shut_bool Try.underlying4 _), (trodAll_cons_mk (shut_int Try.underlying22 w0) (trodAll_cons_mk (shut_int Try.underlying22 w1) (trodAll_cons_mk (shut_bool Try.underlying4 _) trodAll_mk0))), rfl, bel.frame _, fun h => by cases h⟩

theorem over : Rows.atomLatticeRow.holds Try.pinned (OpenSpec.ofChange Rows.atomLatticeSpec) :=
  OpenClaim.holds_of_wide 4 Try.f4 rfl rfl rfl rfl rfl rfl rfl ⟨rfl, rfl, rfl, rfl, rfl⟩ rfl rfl rfl rfl rfl (by kernel_rfl) Try.func4 (by kernel_rfl)
    (of_decide_eq_true (by kernel_rfl)) (by unfold Func.isWrapper; first | (rw [if_pos (by decide +kernel)]; kernel_rfl) | (rw [if_neg (by decide +kernel)]; exact ⟨rfl, rfl⟩))
    (fun os started H enc _ => lifted os started H enc)

/-- The statement. -/
theorem proved : Rows.AtomLatticeSaid :=
  over
end Go.Proofs.Ytpalhkfipnbcnaa.atomLattice

namespace Go.Proofs.Ytpalhkfipnbcnaa
/-- The statement, proved. -/
theorem atomLattice_holds : Rows.AtomLatticeSaid := atomLattice.proved
#print axioms atomLattice_holds
end Go.Proofs.Ytpalhkfipnbcnaa
