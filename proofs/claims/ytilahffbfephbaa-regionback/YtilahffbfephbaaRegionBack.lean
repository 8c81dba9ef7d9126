/-
  For all cuts and every prot the law RegionBack returns true: what is protected or unmapped within the one region, and then mapped as before, leaves that one region. No condition.
-/
import Derived.Test.YtilahffbfephbaaRows
import Derived.Test.YtilahffbfephbaaRegJ
import Derived.Deep.Cut
import Derived.WalkKit
import Derived.ProofKit
import Derived.OpenShut
import Derived.ShutString
import Derived.ChangeOld
import Derived.Below
namespace Go.Proofs.Ytilahffbfephbaa.regionBack
open Go.ChangeShapes Go.WideShapes Go.ChangeAt Go.RowKit
open Go.ChangeMaps (open_string shut_string)
set_option linter.unusedVariables false
set_option linter.unusedSimpArgs false
set_option maxRecDepth 100000

theorem own : ownKnob Try.prog.godebug = none := by kernel_rfl
theorem laidOut : laidOutB Try.prog = true := by kernel_rfl

/-- WHAT THE WALK IS TOLD OF A SLICE OF INTEGERS THAT CAME IN: it is nil; or it leads to a row of 'cap' cells, the numbers 'zs' (the first 'len' are its elements, the rest its spare room), each fitting its kind. -/
def IsRow (k : IntKind) (w : World) (a : Option Addr) (len cap : Nat) (zs : List Int) : Prop :=
  (a = none ∧ len = 0 ∧ cap = 0 ∧ zs = []) ∨
  ∃ x, a = some x ∧ len ≤ cap ∧ cap ≤ maxLen ∧ zs.length = cap ∧ (∀ i, i < zs.length → w.cell? (x.add i) = some (.int k (zs.getD i 0))) ∧ ∀ n ∈ zs, (Lit.int k n).wf = true

/-! ### The walk: the Go text returns true -/
set_option maxHeartbeats 4000000 in
theorem walk (a0 : Option Addr) (len0 cap0 : Nat) (z0 : List Int) (a1 : Int) (w : World) (w0 : IsRow .u8 w a0 len0 cap0 z0) (w1 : (Lit.int .u8 a1).wf = true) :
    Calls Try.prog 8 #[.slice a0 len0 cap0, .int .u8 a1] w fun e w' => e = .returned (.bool true) ∧ Below w.heap.size w w' := by
  obtain ⟨hby, hlen⟩ := isRow_byts w0
  have hp0 : 0 ≤ a1 ∧ a1 ≤ 255 := by
    have h4 : (decide ((0 : Int) ≤ a1) && decide (a1 ≤ 255)) = true := w1
    simpa only [Bool.and_eq_true, decide_eq_true_eq] using h4
  obtain ⟨hq0, hq1⟩ := hp0
  clear w0 w1
  have HBY := Lib.hid hby; clear hby
  have hlenI : (len0 : Int) ≤ 9223372036854775807 := by omega
  have hlen0 : (0 : Int) ≤ (len0 : Int) := by omega
  go_enter Try.func8, Try.ntmps8
  go_wp2_with fail
  refine (new_any _).mono ?_
  rintro e w1 ⟨b, rfl, hb, l1, k1⟩
  have HB := Lib.hid hb; clear hb
  have L1 := Lib.hid l1; clear l1
  have K1 := Lib.hid k1; clear k1
  go_wp2_with fail
  refine (answers_any _).mono ?_
  rintro e w2 ⟨rfl, k2⟩
  have L2 := Lib.hid (L1.out.bl k2)
  have K2 := Lib.hid (K1.out.trans k2); clear k2 L1 K1
  obtain ⟨p, hp⟩ : ∃ p, p = a1 % 8 := ⟨_, rfl⟩
  have hpa : 0 ≤ p := by omega
  have hpb : p ≤ 7 := by omega
  go_wp2_with fail
  rw [← hp]
  refine (map_ok L2.out 4096 413696 p (by omega) span_back hpa hpb (by simp) (by rw [layL_new]; simp)).mono ?_
  rintro e w3 ⟨rfl, l3, f3⟩
  rw [layL_new] at l3
  have l3 : ListAt w3 b (backL p) := l3
  have L3 := Lib.hid l3; clear l3
  have K3 := Lib.hid (Fr.only_new K2.out f3 HB.out); clear f3 L2 K2 hp
  unfold addr0
  go_wp2_with fail
  go_loopw [7, 8, 9] (fun i _ _ wr => ∃ k : Nat, k ≤ 41 ∧ i = .int .i64 k ∧ ListAt wr b (backL p) ∧ Bl w wr) (fun i _ _ _ => 42 - (intOf i).toNat)
  case atStart => exact ⟨0, by omega, rfl, L3.out, K3.out⟩
  case round =>
    obtain ⟨k, hk, rfl, hl, hbl⟩ := hrel
    clear L3 K3
    have HL := Lib.hid hl; clear hl
    have HBL := Lib.hid hbl; clear hbl
    have hkI : (k : Int) ≤ 41 := by omega
    by_cases hgo : k + 1 < len0 ∧ k < 40
    · obtain ⟨g1, g2⟩ := hgo
      obtain ⟨bb, off, ha, hcs⟩ := (HBY.out.bl HBL.out) (by omega)
      subst ha
      obtain ⟨c, hc, c0, c1⟩ := hcs k (by omega)
      obtain ⟨d, hd, d0, d1⟩ := hcs (k + 1) g1
      rw [show off + (k + 1) = off + k + 1 by omega] at hd
      have hd2 : wr.cell? ⟨bb, off + (k + 1), none⟩ = some (.int .u8 d) := hd
      clear hcs
      have g1I : (k : Int) + 1 < (len0 : Int) := by omega
      have g2I : (k : Int) < 40 := by omega
      obtain ⟨s, hs⟩ : ∃ s, s = (1 + c % 99) * 4096 := ⟨_, rfl⟩
      obtain ⟨t, ht⟩ : ∃ t, t = (1 + c % 99) * 4096 + (1 + d % 20) * 4096 := ⟨_, rfl⟩
      go_upto_region 10 with (fail)
      rw [← ht, ← hs]
      have s1 : 4096 ≤ s := by omega
      have s2 : s ≤ 405504 := by omega
      have s3 : s % 4096 = 0 := by omega
      have s4 : t % 4096 = 0 := by omega
      have s5 : s < t := by omega
      have s6 : t ≤ 1000000 := by omega
      clear hs ht hc hd hd2 c0 c1 d0 d1
      have HS3 := Lib.hid s3; clear s3
      have HS4 := Lib.hid s4; clear s4
      have hr0 : 0 ≤ (p + 1) % 8 := by omega
      have hr1 : (p + 1) % 8 ≤ 7 := by omega
      generalize hr : (p + 1) % 8 = r at hr0 hr1
      have HR := Lib.hid hr; clear hr
      by_cases hcap : 413696 < t
      · have hsp : Span s 413696 := ⟨HS3.out, by omega, by omega, by omega⟩
        have HSP := Lib.hid hsp; clear hsp
        by_cases hk4 : (k : Int) % 4 = 0
        · have t4 : ((k : Int) % 4 == 0) = true := by simp [hk4]
          clear hk4
          go_wp2_with fail
          rw [HR.out]
          refine (protect_ok HL.out (back_rs p).nm.so s 413696 r (by omega) HSP.out hr0 hr1 (by simp [backL]) (back_mapped s1 (by omega)) (back_few s1 HSP.out (by omega))).mono ?_
          rintro e w4 ⟨rfl, l4, f4⟩
          have L4 := Lib.hid l4; clear l4
          have K4 := Lib.hid (Fr.only_new HBL.out f4 HB.out); clear f4
          go_wp2_with fail
          refine (map_ok L4.out s 413696 p (by omega) HSP.out hpa hpb (back_few s1 HSP.out (by omega)) (by rw [back_again s1 HSP.out (by omega)]; simp [backL])).mono ?_
          rintro e w5 ⟨rfl, l5, f5⟩
          rw [back_again s1 HSP.out (by omega)] at l5
          have L5 := Lib.hid l5; clear l5
          have K5 := Lib.hid (Fr.only_new K4.out f5 HB.out); clear f5
          go_wp2_with fail
          refine (all_any L5.out (by simp [backL])).mono ?_
          rintro e w6 ⟨v6, rfl, r6, k6⟩
          have L6 := Lib.hid (L5.out.bl k6)
          have K6 := Lib.hid (K5.out.trans k6); clear k6
          obtain ⟨A6, cap6, hv6⟩ := r6.shape
          subst hv6
          clear r6
          rw [show (backL p).length = 1 from rfl]
          go_wp2_with fail
          refine (pages_any L6.out (back_rs p).nm.so (by simp [backL])).mono ?_
          rintro e w7 ⟨rfl, k7⟩
          have L7 := Lib.hid (L6.out.bl k7)
          have K7 := Lib.hid (K6.out.trans k7); clear k7
          have ht : tot (backL p) / 4096 = 100 := by simp [tot, backL]
          rw [ht]; clear ht
          go_wp2_with fail
          refine ⟨⟨k + 2, by omega, by go_num, L7.out, K7.out⟩, ?_⟩
          simp only [intOf]; omega
        · have t4 : ((k : Int) % 4 == 0) = false := by simp [hk4]
          clear hk4
          go_wp2_with fail
          refine (unmap_ok HL.out s 413696 (by omega) HSP.out (by simp [backL]) (back_few2 s1 HSP.out (by omega))).mono ?_
          rintro e w3 ⟨rfl, l3, f3⟩
          have L3 := Lib.hid l3; clear l3
          have K3 := Lib.hid (Fr.only_new HBL.out f3 HB.out); clear f3
          go_wp2_with fail
          refine (free_any L3.out ((back_rs p).cut (by omega) HSP.out).nm.so s 413696 (by omega) HSP.out (by have := back_few2 (p := p) s1 HSP.out (by omega); omega) true ⟨fun _ => back_free s1 HSP.out, fun _ => rfl⟩).mono ?_
          rintro e w4 ⟨rfl, k4⟩
          have L4 := Lib.hid (L3.out.bl k4)
          have K4 := Lib.hid (K3.out.trans k4); clear k4
          go_wp2_with fail
          refine (map_ok L4.out s 413696 p (by omega) HSP.out hpa hpb (back_few2 s1 HSP.out (by omega)) (by rw [back_again2 s1 HSP.out (by omega)]; simp [backL])).mono ?_
          rintro e w5 ⟨rfl, l5, f5⟩
          rw [back_again2 s1 HSP.out (by omega)] at l5
          have L5 := Lib.hid l5; clear l5
          have K5 := Lib.hid (Fr.only_new K4.out f5 HB.out); clear f5
          go_wp2_with fail
          refine (all_any L5.out (by simp [backL])).mono ?_
          rintro e w6 ⟨v6, rfl, r6, k6⟩
          have L6 := Lib.hid (L5.out.bl k6)
          have K6 := Lib.hid (K5.out.trans k6); clear k6
          obtain ⟨A6, cap6, hv6⟩ := r6.shape
          subst hv6
          clear r6
          rw [show (backL p).length = 1 from rfl]
          go_wp2_with fail
          refine (pages_any L6.out (back_rs p).nm.so (by simp [backL])).mono ?_
          rintro e w7 ⟨rfl, k7⟩
          have L7 := Lib.hid (L6.out.bl k7)
          have K7 := Lib.hid (K6.out.trans k7); clear k7
          have ht : tot (backL p) / 4096 = 100 := by simp [tot, backL]
          rw [ht]; clear ht
          go_wp2_with fail
          refine ⟨⟨k + 2, by omega, by go_num, L7.out, K7.out⟩, ?_⟩
          simp only [intOf]; omega
      · have hsp : Span s t := ⟨HS3.out, HS4.out, s5, by omega⟩
        have HSP := Lib.hid hsp; clear hsp
        have hcap2 : t ≤ 413696 := by omega
        by_cases hk4 : (k : Int) % 4 = 0
        · have t4 : ((k : Int) % 4 == 0) = true := by simp [hk4]
          clear hk4
          go_wp2_with fail
          rw [HR.out]
          refine (protect_ok HL.out (back_rs p).nm.so s t r (by omega) HSP.out hr0 hr1 (by simp [backL]) (back_mapped s1 (by omega)) (back_few s1 HSP.out (by omega))).mono ?_
          rintro e w4 ⟨rfl, l4, f4⟩
          have L4 := Lib.hid l4; clear l4
          have K4 := Lib.hid (Fr.only_new HBL.out f4 HB.out); clear f4
          go_wp2_with fail
          refine (map_ok L4.out s t p (by omega) HSP.out hpa hpb (back_few s1 HSP.out (by omega)) (by rw [back_again s1 HSP.out (by omega)]; simp [backL])).mono ?_
          rintro e w5 ⟨rfl, l5, f5⟩
          rw [back_again s1 HSP.out (by omega)] at l5
          have L5 := Lib.hid l5; clear l5
          have K5 := Lib.hid (Fr.only_new K4.out f5 HB.out); clear f5
          go_wp2_with fail
          refine (all_any L5.out (by simp [backL])).mono ?_
          rintro e w6 ⟨v6, rfl, r6, k6⟩
          have L6 := Lib.hid (L5.out.bl k6)
          have K6 := Lib.hid (K5.out.trans k6); clear k6
          obtain ⟨A6, cap6, hv6⟩ := r6.shape
          subst hv6
          clear r6
          rw [show (backL p).length = 1 from rfl]
          go_wp2_with fail
          refine (pages_any L6.out (back_rs p).nm.so (by simp [backL])).mono ?_
          rintro e w7 ⟨rfl, k7⟩
          have L7 := Lib.hid (L6.out.bl k7)
          have K7 := Lib.hid (K6.out.trans k7); clear k7
          have ht : tot (backL p) / 4096 = 100 := by simp [tot, backL]
          rw [ht]; clear ht
          go_wp2_with fail
          refine ⟨⟨k + 2, by omega, by go_num, L7.out, K7.out⟩, ?_⟩
          simp only [intOf]; omega
        · have t4 : ((k : Int) % 4 == 0) = false := by simp [hk4]
          clear hk4
          go_wp2_with fail
          refine (unmap_ok HL.out s t (by omega) HSP.out (by simp [backL]) (back_few2 s1 HSP.out (by omega))).mono ?_
          rintro e w3 ⟨rfl, l3, f3⟩
          have L3 := Lib.hid l3; clear l3
          have K3 := Lib.hid (Fr.only_new HBL.out f3 HB.out); clear f3
          go_wp2_with fail
          refine (free_any L3.out ((back_rs p).cut (by omega) HSP.out).nm.so s t (by omega) HSP.out (by have := back_few2 (p := p) s1 HSP.out (by omega); omega) true ⟨fun _ => back_free s1 HSP.out, fun _ => rfl⟩).mono ?_
          rintro e w4 ⟨rfl, k4⟩
          have L4 := Lib.hid (L3.out.bl k4)
          have K4 := Lib.hid (K3.out.trans k4); clear k4
          go_wp2_with fail
          refine (map_ok L4.out s t p (by omega) HSP.out hpa hpb (back_few2 s1 HSP.out (by omega)) (by rw [back_again2 s1 HSP.out (by omega)]; simp [backL])).mono ?_
          rintro e w5 ⟨rfl, l5, f5⟩
          rw [back_again2 s1 HSP.out (by omega)] at l5
          have L5 := Lib.hid l5; clear l5
          have K5 := Lib.hid (Fr.only_new K4.out f5 HB.out); clear f5
          go_wp2_with fail
          refine (all_any L5.out (by simp [backL])).mono ?_
          rintro e w6 ⟨v6, rfl, r6, k6⟩
          have L6 := Lib.hid (L5.out.bl k6)
          have K6 := Lib.hid (K5.out.trans k6); clear k6
          obtain ⟨A6, cap6, hv6⟩ := r6.shape
          subst hv6
          clear r6
          rw [show (backL p).length = 1 from rfl]
          go_wp2_with fail
          refine (pages_any L6.out (back_rs p).nm.so (by simp [backL])).mono ?_
          rintro e w7 ⟨rfl, k7⟩
          have L7 := Lib.hid (L6.out.bl k7)
          have K7 := Lib.hid (K6.out.trans k7); clear k7
          have ht : tot (backL p) / 4096 = 100 := by simp [tot, backL]
          rw [ht]; clear ht
          go_wp2_with fail
          refine ⟨⟨k + 2, by omega, by go_num, L7.out, K7.out⟩, ?_⟩
          simp only [intOf]; omega
    · have hdo : (decide ((k : Int) + 1 < (len0 : Int)) && decide ((k : Int) < 40)) = false := by
        by_cases h1 : (k : Int) + 1 < (len0 : Int)
        · have h2 : ¬ (k : Int) < 40 := by omega
          simp [h2]
        · simp [h1]
      by_cases h1 : (k : Int) + 1 < (len0 : Int)
      · have h2 : 40 ≤ (k : Int) := by omega
        clear hgo hdo
        go_wp2_with fail
        refine (at_any HL.out (back_rs p).nm.so 5000 (by simp [backL])).mono ?_
        rintro e w9 ⟨rr, ok, rfl, hrr, k9⟩
        have K9 := Lib.hid (HBL.out.trans k9); clear k9
        have hrr2 : rr = ⟨4096, 413696, p⟩ ∧ ok = true := by
          rcases hrr with ⟨rfl, h1, h2, h3⟩ | ⟨rfl, rfl, h1⟩
          · simp [backL] at h1; exact ⟨h1, rfl⟩
          · exact absurd (back_in.2 ⟨by omega, by omega, rfl⟩) (h1 p)
        obtain ⟨rfl, rfl⟩ := hrr2
        clear hrr
        unfold rgV
        simp only
        go_wp2_with fail
        go_ret
        exact ⟨rfl, K9.out.alloc _⟩
      · have h2 : (len0 : Int) ≤ (k : Int) + 1 := by omega
        clear hgo hdo
        go_wp2_with fail
        refine (at_any HL.out (back_rs p).nm.so 5000 (by simp [backL])).mono ?_
        rintro e w9 ⟨rr, ok, rfl, hrr, k9⟩
        have K9 := Lib.hid (HBL.out.trans k9); clear k9
        have hrr2 : rr = ⟨4096, 413696, p⟩ ∧ ok = true := by
          rcases hrr with ⟨rfl, h1, h2, h3⟩ | ⟨rfl, rfl, h1⟩
          · simp [backL] at h1; exact ⟨h1, rfl⟩
          · exact absurd (back_in.2 ⟨by omega, by omega, rfl⟩) (h1 p)
        obtain ⟨rfl, rfl⟩ := hrr2
        clear hrr
        unfold rgV
        simp only
        go_wp2_with fail
        go_ret
        exact ⟨rfl, K9.out.alloc _⟩

/-! ### The row's step -/
set_option maxRecDepth 100000 in
theorem lifted (os : Os) (started : os.Started) (H : Type) (enc : TypeId × Value → H) :
    ReturnsInHanded {} Try.checked os 8 .any (Rows.regionBackSpec.pre6 enc Try.prog Try.f8 Rows.regionBackRow.domain false) (Rows.regionBackSpec.post enc Try.prog Try.f8 false true false false) := by
  refine returnsInHanded_of_change (C := Try.checked) own started (by kernel_rfl) Try.func8
    (ChangeSpec.witness6 (enc := enc) (C := Try.checked) false ⟨#[], #[.slice none 0 0, .int .u8 0], []⟩ 8 (by kernel_rfl) (by kernel_rfl) (by kernel_rfl) (by kernel_rfl)) ?_
  intro W base args ds gs before hval0 hW hcnd _
  have hval : ∀ (j : Nat) t v, Try.f8.params[j]? = some t → args[j]? = some v → Value.okWide Try.prog W .any base t v := hval0
  have hW' := hW
  obtain ⟨p, q, hA0, hV, rfl, hfz, hnd⟩ := hW
  have hA : DataW.TrodAll enc Try.prog W 0 (fun _ => true) true Try.f8.params.toList args.toList ds p := hA0
  rw [Try.params8] at hA hval
  obtain ⟨v0, vs0, d0, ds0, p0, q0, hargs, rfl, rfl, h0, r0⟩ := trodAll_cons hA
  obtain ⟨v1, vs1, d1, ds1, p1, q1, rfl, rfl, rfl, h1, r1⟩ := trodAll_cons r0
  obtain ⟨rfl, rfl, rfl⟩ := trodAll_nil r1
  obtain rfl : args = #[v0, v1] := by cases args; simp_all
  obtain ⟨rfl, rfl⟩ := trodVars_none hV
  obtain ⟨a0, len0, cap0, rfl⟩ := okWide_slice Try.underlying46 (hval 0 46 v0 rfl rfl)
  have k0 := h0
  have lt0 : ∀ x ∈ p0, x.block < W.heap.size := by obtain ⟨m, hm⟩ := k0; exact DataW.trod_lt m _ _ _ hm
  obtain ⟨z0, w0⟩ : ∃ zs, IsRow .u8 W a0 len0 cap0 zs := by
    obtain ⟨fuel, hf⟩ := h0
    rcases open_ints Try.underlying46 Try.underlying5 (by kernel_rfl) hf with ⟨hcs, _⟩ | ⟨x, l, c, zs, hcs, _, hl, hm, hz, _, hcell, hwz⟩
    · simp [Value.cells] at hcs
      obtain ⟨rfl, rfl, rfl⟩ := hcs
      exact ⟨[], .inl ⟨rfl, rfl, rfl, rfl⟩⟩
    · simp [Value.cells] at hcs
      obtain ⟨rfl, rfl, rfl⟩ := hcs
      exact ⟨zs, .inr ⟨_, rfl, hl, hm, by simpa using hz, hcell, hwz⟩⟩
  obtain ⟨a1, rfl, rfl, rfl, w1⟩ := open_int Try.underlying5 (hval 1 5 v1 rfl rfl) h1
  clear hA0 hval0
  refine (walk a0 len0 cap0 z0 a1 W w0 w1).mono fun e W' ⟨he, bel⟩ => ?_
  subst he
  exact ⟨_, rfl, _, _, _, [], _, [], hW', trodAll_mk1 (shut_bool Try.underlying4 _), (trodAll_cons_mk (Below.trod laidOut (by kernel_rfl) (of_decide_eq_true (by kernel_rfl)) k0 bel lt0) (trodAll_cons_mk (shut_int Try.underlying5 w1) trodAll_mk0)), rfl, bel.frame _, fun h => by cases h⟩

theorem over : Rows.regionBackRow.holds Try.pinned (OpenSpec.ofChange Rows.regionBackSpec) :=
  OpenClaim.holds_of_wide 8 Try.f8 rfl rfl rfl rfl rfl rfl rfl ⟨rfl, rfl, rfl, rfl, rfl⟩ rfl rfl rfl rfl rfl (by kernel_rfl) Try.func8 (by kernel_rfl)
    (of_decide_eq_true (by kernel_rfl)) (by unfold Func.isWrapper; first | (rw [if_pos (by decide +kernel)]; kernel_rfl) | (rw [if_neg (by decide +kernel)]; exact ⟨rfl, rfl⟩))
    (fun os started H enc _ => lifted os started H enc)

/-- The statement. -/
theorem proved : Rows.RegionBackSaid := over
end Go.Proofs.Ytilahffbfephbaa.regionBack

namespace Go.Proofs.Ytilahffbfephbaa
/-- The statement, proved. -/
theorem regionBack_holds : Rows.RegionBackSaid := regionBack.proved
#print axioms regionBack_holds
end Go.Proofs.Ytilahffbfephbaa
