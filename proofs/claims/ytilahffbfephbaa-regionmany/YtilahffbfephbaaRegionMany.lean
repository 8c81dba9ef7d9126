/-
  For every count the law RegionMany returns true: the list never has more than 256 regions, and a call that would make more leaves it alone. No condition.
-/
import Derived.Test.YtilahffbfephbaaRows
import Derived.Test.YtilahffbfephbaaRegK
import Derived.Deep.Cut
import Derived.WalkKit
import Derived.ProofKit
import Derived.OpenShut
import Derived.ShutString
namespace Go.Proofs.Ytilahffbfephbaa.regionMany
open Go.ChangeShapes Go.WideShapes Go.ChangeAt Go.RowKit
open Go.ChangeMaps (open_string shut_string)
set_option linter.unusedVariables false
set_option linter.unusedSimpArgs false
set_option maxRecDepth 100000

theorem own : ownKnob Try.prog.godebug = none := by kernel_rfl

/-! ### The walk: the Go text returns true -/
set_option maxHeartbeats 8000000 in
theorem walk (a0 : Int) (a1 : Bool) (w0 : (Lit.int .u16 a0).wf = true) (w : World) :
    Calls Try.prog 6 #[.int .u16 a0, .bool a1] w fun e w' => e = .returned (.bool true) ∧ Below w.heap.size w w' := by
  have hp0 : 0 ≤ a0 ∧ a0 ≤ 65535 := by
    have h4 : (decide ((0 : Int) ≤ a0) && decide (a0 ≤ 65535)) = true := w0
    simpa only [Bool.and_eq_true, decide_eq_true_eq] using h4
  obtain ⟨hq0, hq1⟩ := hp0
  clear w0
  obtain ⟨K, hK⟩ : ∃ K : Nat, (K : Int) = a0 % 300 := ⟨(a0 % 300).toNat, by omega⟩
  have hKb : K ≤ 299 := by omega
  go_enter Try.func6, Try.ntmps6
  go_wp2_with fail
  refine (new_any _).mono ?_
  rintro e w1 ⟨b, rfl, hb, l1, k1⟩
  have HB := Lib.hid hb; clear hb
  have L1 := Lib.hid l1; clear l1
  have K1 := Lib.hid k1; clear k1
  go_wp2_with fail
  refine (answers_any _).mono ?_
  rintro e w2 ⟨rfl, k2⟩
  have L2 := Lib.hid (L1.out.bl k2)
  have K2 := Lib.hid (K1.out.trans k2); clear k2 L1 K1
  unfold addr0
  go_upto_region 5 with (fail)
  rw [← hK]
  clear hK
  go_wp2_with fail
  go_loopw [7, 8, 9, 10] (fun i _ _ _ wr => ∃ k : Nat, k ≤ K ∧ i = .int .i64 k ∧ ListAt wr b (many (min k 256)) ∧ Bl w wr) (fun i _ _ _ _ => K - (intOf i).toNat)
  case atStart => exact ⟨0, by omega, rfl, L2.out, K2.out⟩
  case round =>
    obtain ⟨k, hk, rfl, hl, hbl⟩ := hrel
    clear L2 K2
    have HL := Lib.hid hl; clear hl
    have HBL := Lib.hid hbl; clear hbl
    have hKI : (K : Int) ≤ 299 := by omega
    have hkI : (k : Int) ≤ (K : Int) := by omega
    by_cases hlt : k < K
    · have hltI : (k : Int) < (K : Int) := by omega
      by_cases h256 : k < 256
      · have hl := HL.out
        rw [show min k 256 = k by omega] at hl
        have HL2 := Lib.hid hl; clear hl HL
        have h256I : (k : Int) < 256 := by omega
        have h256J : (k : Int) + 1 ≤ 256 := by omega
        go_wp2_with fail
        refine (map_ok HL2.out _ _ _ (by omega) (many_span k (by omega)) (by omega) (by omega) (by rw [many_len]; omega) (by rw [many_next k (by omega), many_len]; omega)).mono ?_
        rintro e w3 ⟨rfl, l3, f3⟩
        rw [many_next k (by omega)] at l3
        have L3 := Lib.hid l3; clear l3
        have K3 := Lib.hid (Fr.only_new HBL.out f3 HB.out); clear f3
        go_wp2_with fail
        refine (all_any L3.out (by rw [many_len]; omega)).mono ?_
        rintro e w4 ⟨vw4, rfl, rw4, kw4⟩
        have L4 := Lib.hid (L3.out.bl kw4)
        have K4 := Lib.hid (K3.out.trans kw4); clear kw4
        obtain ⟨Aw4, capw4, hvw4⟩ := rw4.shape
        rw [many_len] at hvw4
        subst hvw4
        clear rw4
        go_wp2_with fail
        refine ⟨⟨k + 1, by omega, by go_num, by rw [show min (k + 1) 256 = k + 1 by omega]; exact L4.out, K4.out⟩, ?_⟩
        simp only [intOf]; omega
      · have hl := HL.out
        rw [show min k 256 = 256 by omega] at hl
        have HL2 := Lib.hid hl; clear hl HL
        have h256I : 256 ≤ (k : Int) := by omega
        have h256J : 256 < (k : Int) + 1 := by omega
        go_wp2_with fail
        refine (map_many HL2.out _ _ _ (by omega) (many_span k (by omega)) (by omega) (by omega) (by rw [many_len]; omega) (many_more k (by omega) (by omega))).mono ?_
        rintro e w3 ⟨rfl, f3⟩
        have L3 := Lib.hid (HL2.out.bl f3)
        have K3 := Lib.hid (HBL.out.trans f3); clear f3
        go_wp2_with fail
        refine (all_any L3.out (by rw [many_len]; omega)).mono ?_
        rintro e w4 ⟨vw4, rfl, rw4, kw4⟩
        have L4 := Lib.hid (L3.out.bl kw4)
        have K4 := Lib.hid (K3.out.trans kw4); clear kw4
        obtain ⟨Aw4, capw4, hvw4⟩ := rw4.shape
        rw [many_len] at hvw4
        subst hvw4
        clear rw4
        go_wp2_with fail
        refine ⟨⟨k + 1, by omega, by go_num, by rw [show min (k + 1) 256 = 256 by omega]; exact L4.out, K4.out⟩, ?_⟩
        simp only [intOf]; omega
    · obtain rfl : k = K := by omega
      by_cases h256 : k < 256
      · have h256I : (k : Int) < 256 := by omega
        go_wp2_with fail
        go_ret
        exact ⟨rfl, HBL.out⟩
      · have h256I : 256 ≤ (k : Int) := by omega
        have hl := HL.out
        rw [show min k 256 = 256 by omega] at hl
        have HL2 := Lib.hid hl; clear hl HL
        rcases a1 with _ | _
        · go_wp2_with fail
          go_ret
          exact ⟨rfl, HBL.out⟩
        · go_wp2_with fail
          refine (all_any HL2.out (by rw [many_len]; omega)).mono ?_
          rintro e w3 ⟨vw3, rfl, rw3, kw3⟩
          have L3 := Lib.hid (HL2.out.bl kw3)
          have K3 := Lib.hid (HBL.out.trans kw3); clear kw3
          obtain ⟨Aw3, capw3, hvw3⟩ := rw3.shape
          rw [many_len] at hvw3
          subst hvw3
          clear rw3
          go_wp2_with fail
          refine (map_ok L3.out 4096 12288 4 (by omega) ⟨by omega, by omega, by omega, by omega⟩ (by omega) (by omega) (by rw [many_len]; omega) (by rw [lay1, X1_len]; omega)).mono ?_
          rintro e w4 ⟨rfl, l4, f4⟩
          rw [lay1] at l4
          have L4 := Lib.hid l4; clear l4
          have K4 := Lib.hid (Fr.only_new K3.out f4 HB.out); clear f4
          go_wp2_with fail
          refine (all_any L4.out (by rw [X1_len]; omega)).mono ?_
          rintro e w5 ⟨vw5, rfl, rw5, kw5⟩
          have L5 := Lib.hid (L4.out.bl kw5)
          have K5 := Lib.hid (K4.out.trans kw5); clear kw5
          obtain ⟨Aw5, capw5, hvw5⟩ := rw5.shape
          rw [X1_len] at hvw5
          subst hvw5
          clear rw5
          go_wp2_with fail
          refine (map_ok L5.out 4096 8192 5 (by omega) ⟨by omega, by omega, by omega, by omega⟩ (by omega) (by omega) (by rw [X1_len]; omega) (by rw [lay2, X2_len]; omega)).mono ?_
          rintro e w6 ⟨rfl, l6, f6⟩
          rw [lay2] at l6
          have L6 := Lib.hid l6; clear l6
          have K6 := Lib.hid (Fr.only_new K5.out f6 HB.out); clear f6
          go_wp2_with fail
          refine (all_any L6.out (by rw [X2_len]; omega)).mono ?_
          rintro e w7 ⟨vw7, rfl, rw7, kw7⟩
          have L7 := Lib.hid (L6.out.bl kw7)
          have K7 := Lib.hid (K6.out.trans kw7); clear kw7
          obtain ⟨Aw7, capw7, hvw7⟩ := rw7.shape
          rw [X2_len] at hvw7
          subst hvw7
          clear rw7
          go_wp2_with fail
          refine (protect_ok L7.out X2_rs.nm.so 8192 12288 5 (by omega) ⟨by omega, by omega, by omega, by omega⟩ (by omega) (by omega) (by rw [X2_len]; omega) X2_mapped (by rw [lay3, X3_len]; omega)).mono ?_
          rintro e w8 ⟨rfl, l8, f8⟩
          rw [lay3] at l8
          have L8 := Lib.hid l8; clear l8
          have K8 := Lib.hid (Fr.only_new K7.out f8 HB.out); clear f8
          go_wp2_with fail
          refine (all_any L8.out (by rw [X3_len]; omega)).mono ?_
          rintro e w9 ⟨vw9, rfl, rw9, kw9⟩
          have L9 := Lib.hid (L8.out.bl kw9)
          have K9 := Lib.hid (K8.out.trans kw9); clear kw9
          obtain ⟨Aw9, capw9, hvw9⟩ := rw9.shape
          rw [X3_len] at hvw9
          subst hvw9
          clear rw9
          go_wp2_with fail
          go_ret
          exact ⟨rfl, K9.out⟩

/-! ### The row's step -/
set_option maxRecDepth 100000 in
theorem lifted (os : Os) (started : os.Started) (H : Type) (enc : TypeId × Value → H) :
    ReturnsInHanded {} Try.checked os 6 .any (Rows.regionManySpec.pre6 enc Try.prog Try.f6 Rows.regionManyRow.domain false) (Rows.regionManySpec.post enc Try.prog Try.f6 false true false false) := by
  refine returnsInHanded_of_change (C := Try.checked) own started (by kernel_rfl) Try.func6
    (ChangeSpec.witness6 (enc := enc) (C := Try.checked) false ⟨#[], #[.int .u16 0, .bool false], []⟩ 8 (by kernel_rfl) (by kernel_rfl) (by kernel_rfl) (by kernel_rfl)) ?_
  intro W base args ds gs before hval0 hW hcnd _
  have hval : ∀ (j : Nat) t v, Try.f6.params[j]? = some t → args[j]? = some v → Value.okWide Try.prog W .any base t v := hval0
  have hW' := hW
  obtain ⟨p, q, hA0, hV, rfl, hfz, hnd⟩ := hW
  have hA : DataW.TrodAll enc Try.prog W 0 (fun _ => true) true Try.f6.params.toList args.toList ds p := hA0
  rw [Try.params6] at hA hval
  obtain ⟨v0, vs0, d0, ds0, p0, q0, hargs, rfl, rfl, h0, r0⟩ := trodAll_cons hA
  obtain ⟨v1, vs1, d1, ds1, p1, q1, rfl, rfl, rfl, h1, r1⟩ := trodAll_cons r0
  obtain ⟨rfl, rfl, rfl⟩ := trodAll_nil r1
  obtain rfl : args = #[v0, v1] := by cases args; simp_all
  obtain ⟨rfl, rfl⟩ := trodVars_none hV
  obtain ⟨a0, rfl, rfl, rfl, w0⟩ := open_int Try.underlying61 (hval 0 61 v0 rfl rfl) h0
  obtain ⟨a1, rfl, rfl, rfl⟩ := open_bool Try.underlying4 (hval 1 4 v1 rfl rfl) h1
  clear hA0 hval0
  refine (walk a0 a1 w0 W).mono fun e W' ⟨he, bel⟩ => ?_
  subst he
  exact ⟨_, rfl, _, _, _, [], _, [], hW', trodAll_mk1 (shut_bool Try.underlying4 _), (trodAll_cons_mk (shut_int Try.underlying61 w0) (trodAll_cons_mk (shut_bool Try.underlying4 _) trodAll_mk0)), rfl, bel.frame _, fun h => by cases h⟩

theorem over : Rows.regionManyRow.holds Try.pinned (OpenSpec.ofChange Rows.regionManySpec) :=
  OpenClaim.holds_of_wide 6 Try.f6 rfl rfl rfl rfl rfl rfl rfl ⟨rfl, rfl, rfl, rfl, rfl⟩ rfl rfl rfl rfl rfl (by kernel_rfl) Try.func6 (by kernel_rfl)
    (of_decide_eq_true (by kernel_rfl)) (by unfold Func.isWrapper; first | (rw [if_pos (by decide +kernel)]; kernel_rfl) | (rw [if_neg (by decide +kernel)]; exact ⟨rfl, rfl⟩))
    (fun os started H enc _ => lifted os started H enc)

/-- The statement. -/
theorem proved : Rows.RegionManySaid :=
  over
end Go.Proofs.Ytilahffbfephbaa.regionMany

namespace Go.Proofs.Ytilahffbfephbaa
/-- The statement, proved. -/
theorem regionMany_holds : Rows.RegionManySaid := regionMany.proved
#print axioms regionMany_holds
end Go.Proofs.Ytilahffbfephbaa
