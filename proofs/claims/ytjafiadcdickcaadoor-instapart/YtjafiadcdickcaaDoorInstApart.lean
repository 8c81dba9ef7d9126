/-
  InstApart, tied: two instructions that are not the same do not have the same word: for every two; the arrays of operators as the text lays them.
-/
import Derived.Test.YtjafiadcdickcaaDoorFacts
import Derived.Test.YtjafiadcdickcaaDoorTie
import Derived.Test.YtjafiadcdickcaaDoorCards
import Derived.SevenTiedAt
set_option linter.unusedVariables false
namespace Go.Proofs.YtjafiadcdickcaaDoor
open Go.ChangeShapes Go.WideShapes Go.ChangeAt Go.RowKit

set_option maxHeartbeats 1000000 in
/-- The law's text returns true. -/
theorem instApart_walk (a : Ins) (ha : a.Fits) (b : Ins) (hb : b.Fits) (w : World) (hT : Tabs w) :
    Calls Tryd.prog 7 #[.agg a.cells, .agg b.cells] w fun e w' => e = .returned (.bool true) ∧ Kp none w w' := by
  have k0 := ((Kp.refl none w).alloc a.cells 24).alloc b.cells 24
  have ba := (Has.new w a.cells 24).alloc (.cells b.cells 24)
  have bb := Has.new (w.alloc (.cells a.cells 24)) b.cells 24
  have esz : (w.alloc (.cells a.cells 24)).heap.size = w.heap.size + 1 := by simp
  rw [esz] at bb
  have HE := Lib.hid (encode_any a _ (hT.kp k0))
  have HF := Lib.hid (fun w h => encode_any b w h)
  have HA := Lib.hid (fun w h => answers_any w h)
  unfold EncPost at HE HF
  clear ha hb
  cases hA : encB a with
  | false =>
    rw [hA] at HE
    clear hA
    generalize encB b = Y at *
    generalize (if Y = true then encS b else 0) = u at *
    obtain ⟨a0, a1, a2, a3, a4, a5, a6⟩ := a
    obtain ⟨c0, c1, c2, c3, c4, c5, c6⟩ := b
    go_enter Tryd.func7, Tryd.ntmps7
    go_wp2_with fail
    refine HE.out.mono ?_
    rintro e w1 ⟨rfl, k1⟩
    have K1 := k0.trans k1
    have ba1 := ba.kp k1 (by simp)
    have bb1 := bb.kp k1 (by simp)
    obtain ⟨p0, p1, p2, p3, p4, p5, p6⟩ := bb1.seven
    clear k0 k1 ba bb
    go_wp2_with fail
    refine (HF.out _ (hT.kp K1)).mono ?_
    rintro e w2 ⟨rfl, k2⟩
    have K2 := K1.trans k2
    go_wp2_with fail
    refine (HA.out _ (hT.kp K2)).mono ?_
    rintro e w3 ⟨rfl, k3⟩
    have K3 := K2.trans k3
    clear p0 p1 p2 p3 p4 p5 p6
    obtain ⟨p0, p1, p2, p3, p4, p5, p6⟩ := ((ba1.kp k2 (by simp)).kp k3 (by simp)).seven
    obtain ⟨q0, q1, q2, q3, q4, q5, q6⟩ := ((bb1.kp k2 (by simp)).kp k3 (by simp)).seven
    clear ba1 bb1 K1 K2 k2 k3
    go_wp2
    go_ret
    exact ⟨rfl, K3⟩
  | true =>
   cases hB : encB b with
   | false =>
    rw [hA] at HE
    rw [hB] at HF
    rw [if_pos rfl] at HE
    clear hA hB
    generalize encS a = v at *
    obtain ⟨a0, a1, a2, a3, a4, a5, a6⟩ := a
    obtain ⟨c0, c1, c2, c3, c4, c5, c6⟩ := b
    go_enter Tryd.func7, Tryd.ntmps7
    go_wp2_with fail
    refine HE.out.mono ?_
    rintro e w1 ⟨rfl, k1⟩
    have K1 := k0.trans k1
    have ba1 := ba.kp k1 (by simp)
    have bb1 := bb.kp k1 (by simp)
    obtain ⟨p0, p1, p2, p3, p4, p5, p6⟩ := bb1.seven
    clear k0 k1 ba bb
    go_wp2_with fail
    refine (HF.out _ (hT.kp K1)).mono ?_
    rintro e w2 ⟨rfl, k2⟩
    have K2 := K1.trans k2
    go_wp2_with fail
    refine (HA.out _ (hT.kp K2)).mono ?_
    rintro e w3 ⟨rfl, k3⟩
    have K3 := K2.trans k3
    clear p0 p1 p2 p3 p4 p5 p6
    obtain ⟨p0, p1, p2, p3, p4, p5, p6⟩ := ((ba1.kp k2 (by simp)).kp k3 (by simp)).seven
    obtain ⟨q0, q1, q2, q3, q4, q5, q6⟩ := ((bb1.kp k2 (by simp)).kp k3 (by simp)).seven
    clear ba1 bb1 K1 K2 k2 k3
    go_wp2
    go_ret
    exact ⟨rfl, K3⟩
   | true =>
    rw [hA] at HE
    rw [hB] at HF
    rw [if_pos rfl] at HE HF
    by_cases hab : a = b
    · subst hab
      clear hA hB
      generalize encS a = v at *
      obtain ⟨a0, a1, a2, a3, a4, a5, a6⟩ := a
      go_enter Tryd.func7, Tryd.ntmps7
      go_wp2_with fail
      refine HE.out.mono ?_
      rintro e w1 ⟨rfl, k1⟩
      have K1 := k0.trans k1
      have ba1 := ba.kp k1 (by simp)
      have bb1 := bb.kp k1 (by simp)
      obtain ⟨p0, p1, p2, p3, p4, p5, p6⟩ := bb1.seven
      clear k0 k1 ba bb
      go_wp2_with fail
      refine (HF.out _ (hT.kp K1)).mono ?_
      rintro e w2 ⟨rfl, k2⟩
      have K2 := K1.trans k2
      go_wp2_with fail
      refine (HA.out _ (hT.kp K2)).mono ?_
      rintro e w3 ⟨rfl, k3⟩
      have K3 := K2.trans k3
      clear p0 p1 p2 p3 p4 p5 p6
      obtain ⟨p0, p1, p2, p3, p4, p5, p6⟩ := ((ba1.kp k2 (by simp)).kp k3 (by simp)).seven
      obtain ⟨q0, q1, q2, q3, q4, q5, q6⟩ := ((bb1.kp k2 (by simp)).kp k3 (by simp)).seven
      clear ba1 bb1 K1 K2 k2 k3
      go_wp2
      go_ret
      exact ⟨rfl, K3⟩

    · have hne : encS a ≠ encS b := fun h => hab (by rw [← (enc_true hA).2, ← (enc_true hB).2, h])
      have e1 : ((encS a : Int) == (encS b : Int)) = false := by simp; omega
      clear hA hB hne
      generalize encS a = v at *
      generalize encS b = u at *
      obtain ⟨a0, a1, a2, a3, a4, a5, a6⟩ := a
      obtain ⟨c0, c1, c2, c3, c4, c5, c6⟩ := b
      have hq := eql_of hab
      clear hab
      go_enter Tryd.func7, Tryd.ntmps7
      go_wp2_with fail
      refine HE.out.mono ?_
      rintro e w1 ⟨rfl, k1⟩
      have K1 := k0.trans k1
      have ba1 := ba.kp k1 (by simp)
      have bb1 := bb.kp k1 (by simp)
      obtain ⟨p0, p1, p2, p3, p4, p5, p6⟩ := bb1.seven
      clear k0 k1 ba bb
      go_wp2_with fail
      refine (HF.out _ (hT.kp K1)).mono ?_
      rintro e w2 ⟨rfl, k2⟩
      have K2 := K1.trans k2
      go_wp2_with fail
      refine (HA.out _ (hT.kp K2)).mono ?_
      rintro e w3 ⟨rfl, k3⟩
      have K3 := K2.trans k3
      clear p0 p1 p2 p3 p4 p5 p6
      obtain ⟨p0, p1, p2, p3, p4, p5, p6⟩ := ((ba1.kp k2 (by simp)).kp k3 (by simp)).seven
      obtain ⟨q0, q1, q2, q3, q4, q5, q6⟩ := ((bb1.kp k2 (by simp)).kp k3 (by simp)).seven
      clear ba1 bb1 K1 K2 k2 k3
      go_wp2
      go_ret
      exact ⟨rfl, K3⟩

set_option maxRecDepth 100000 in
theorem instApart_lifted (os : Os) (started : os.Started) (H : Type) (enc : TypeId × Value → H) :
    ReturnsInHanded {} Tryd.checked os 7 .any (fun w args => (Rows.instApartSpec.pre enc Tryd.prog Tryd.f7 [] false w args ∧ laidMetH Tryd.prog laidL w) ∧ sizedMet enc Tryd.prog Tryd.f7 (OpenSpec.ofChange Rows.instApartSpec) false w args)
      (Rows.instApartSpec.post enc Tryd.prog Tryd.f7 false true false false) := by
  refine returnsInHanded_of_change_and (C := Tryd.checked) (X := fun w _ => laidMetH Tryd.prog laidL w) (fun _ _ _ hh h => h.of_heap hh) own started (by kernel_rfl) Tryd.func7
    (ChangeSpec.witness_shaped (enc := enc) (C := Tryd.checked) (os := os) (X := fun w _ => laidMetH Tryd.prog laidL w) false (World.doorLaid Tryd.prog 104 os) #[.agg (I7 0 0 0 0 0 0 0), .agg (I7 0 0 0 0 0 0 0)] 8 rfl (World.shaped_of_RefB (by kernel_rfl) (by kernel_rfl)) (by kernel_rfl) (by kernel_rfl) (by kernel_rfl) (door_met os _)) ?_
  intro W base args ds gs before hval0 hW _ _ hL _
  have hval : ∀ (j : Nat) t v, Tryd.f7.params[j]? = some t → args[j]? = some v → Value.okWide Tryd.prog W .any base t v := hval0
  have hW' := hW
  obtain ⟨p, q, hA0, hV, rfl, hfz, hnd⟩ := hW
  have hA : DataW.TrodAll enc Tryd.prog W 0 (fun _ => true) true Tryd.f7.params.toList args.toList ds p := hA0
  rw [Tryd.params7] at hA hval
  obtain ⟨v0, vs0, d0, ds0, p0, q0, hargs, rfl, rfl, h0, r0⟩ := trodAll_cons hA
  obtain ⟨v1, vs1, d1, ds1, p1, q1, hz1, rfl, rfl, h1, r1⟩ := trodAll_cons r0
  obtain ⟨rfl, rfl, rfl⟩ := trodAll_nil r1
  obtain rfl : args = #[v0, v1] := by cases args; simp_all
  obtain ⟨rfl, rfl⟩ := trodVars_none hV
  obtain ⟨a, ha, rfl, rfl, rfl⟩ := open_inst (hval 0 24 v0 rfl rfl) h0
  obtain ⟨b, hb, rfl, rfl, rfl⟩ := open_inst (hval 1 24 v1 rfl rfl) h1
  have hTb := of_laid hL
  clear hA0 hval0
  simp only [List.append_nil] at hW'
  refine (instApart_walk a ha b hb W hTb).mono fun e W' ⟨he, hg0⟩ => ?_
  have hg := hg0.grown
  subst he
  exact ⟨_, rfl, post_of_same (pa := []) (pv := []) hW' (fun _ _ _ => (trodAll_cons_mk (shut_bool Tryd.underlying4 _) trodAll_mk0)) (fun sp _ => (trodAll_cons_mk (shut_inst ha) (trodAll_cons_mk (shut_inst hb) trodAll_mk0))) (fun _ _ => rfl) rfl
    (hg.frame _) hg.2.1 (ok_one (by kernel_rfl) rfl (okWide_bool_mk Tryd.underlying4 _))⟩

theorem instApart_row : Rows.InstApartSaid :=
  OpenClaim.holds_of_wide 7 Tryd.f7 rfl rfl rfl rfl rfl rfl rfl ⟨rfl, rfl, rfl, rfl, rfl⟩ rfl rfl rfl rfl rfl (by kernel_rfl) Tryd.func7 (by kernel_rfl)
    (of_decide_eq_true (by kernel_rfl)) (by unfold Func.isWrapper; first | (rw [if_pos (by decide +kernel)]; kernel_rfl) | (rw [if_neg (by decide +kernel)]; exact ⟨rfl, rfl⟩))
    (fun os started H enc _ => instApart_lifted os started H enc)

/-- The statement: the tied card. -/
theorem instApart_holds : Rows.InstApartCardSaid :=
  Claim7.holds_tied_plain_at .later [] _ true _ false
    instApart_row (fun _ h => by cases h) (by kernel_rfl) (fun _ h => by cases h) instApart_row_tie rfl ⟨rfl, rfl⟩ (by kernel_rfl) rfl
    (fun f fn hf hfn => by
      obtain rfl : f = 7 := Option.some.inj ((show Tryd.prog.funcNamed "marionette/marionettelaw03.InstApart" = some 7 by kernel_rfl).symm.trans hf) |>.symm
      obtain rfl : fn = Tryd.f7 := (Option.some.inj (Tryd.func7.symm.trans hfn)).symm
      exact ⟨by kernel_rfl, fun j t ht => by
        rw [Tryd.params7] at ht
        have hm : t ∈ [24, 24] := by simpa using Array.mem_of_getElem? ht
        have hall : ([24, 24].all fun u => !Tryd.prog.wantsStandIn u) = true := by kernel_rfl
        exact (show Tryd.prog.wantsStandIn t = false by simpa using List.all_eq_true.1 hall t hm)⟩)
    (by kernel_rfl)
#print axioms instApart_holds
end Go.Proofs.YtjafiadcdickcaaDoor
