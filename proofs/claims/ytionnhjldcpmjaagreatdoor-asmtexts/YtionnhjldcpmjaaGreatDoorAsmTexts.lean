/-
  Law AsmTexts: for every instruction the law returns true: its text is that of the document, and is read as it. Tied card; the listed variables are those of the program text.
-/
import Derived.Test.YtionnhjldcpmjaaGreatDoorWrap
import Derived.Test.YtionnhjldcpmjaaGreatDoorRefTy
import Derived.Test.YtionnhjldcpmjaaGreatDoorTie
import Derived.Test.YtionnhjldcpmjaaGreatDoorCards
import Derived.SevenTiedAt
set_option linter.unusedVariables false
set_option linter.unusedSimpArgs false
namespace Go.Proofs.YtionnhjldcpmjaaGreatDoor
open Go.RowKit

open Go.ChangeShapes Go.WideShapes Go.ChangeAt
theorem self_eq (i : Ins) (w : World) : (Go.binOp .eql 28 (.agg (I7 i.op i.rd i.r1 i.r2 i.im i.od i.sz)) (.agg (I7 i.op i.rd i.r1 i.r2 i.im i.od i.sz))).run Tryz.prog w = .ok (.bool true) w := by
  rw [struct_eql]
  simp

set_option maxRecDepth 100000 in
set_option maxHeartbeats 4000000 in
/-- The law's text returns true. -/
theorem asmTexts_walk (i : Ins) (hi : i.Fits) (a : Addr) (w : World) (hE : Env a w) :
    Calls Tryz.prog 4 #[.agg i.cells] w fun e w' => e = .returned (.bool true) ∧ Bl w w' := by
  have hi := hi.in64
  have k0 := (Bl.refl w).alloc i.cells 28
  have hx := Has.new w i.cells 28
  obtain ⟨b0, b1, b2, b3, b4, b5, b6⟩ := hx.seven
  have HX := Lib.hid hx
  have HK := Lib.hid k0
  have hE0 := hE.bl k0
  have HE0 := Lib.hid hE0
  cases hB : encB i with
  | false =>
    have hT := text_no i a _ hE0 hB
    have hS : ∀ w, Tabs w → Calls Tryz.prog 13 #[.agg i.cells] w fun e w' => e = .returned (.bool false) ∧ Kp none w w' := by
      rw [← hB]
      exact fun w hT => sound_any i w hT
    have HS := Lib.hid hS
    clear hS hB hE hE0 hx k0 hi
    go_enter Tryz.func4, Tryz.ntmps4
    go_wp2_with fail
    refine hT.mono ?_
    rintro e w1 ⟨rfl, k1⟩
    have K1 := Lib.hid (HK.out.trans k1)
    have HE1 := Lib.hid (HE0.out.bl k1)
    have HX1 := Lib.hid (HX.out.bl k1)
    clear k1 hT b0 b1 b2 b3 b4 b5 b6
    go_wp2_with fail
    refine (answers_any a _ HE1.out).mono ?_
    rintro e w2 ⟨rfl, k2⟩
    have K2 := Lib.hid (K1.out.trans k2)
    have HE2 := Lib.hid (HE1.out.bl k2)
    obtain ⟨b0, b1, b2, b3, b4, b5, b6⟩ := (HX1.out.bl k2).seven
    clear k2
    go_wp2_with fail
    refine (HS.out _ HE2.out.tabs).mono ?_
    rintro e w3 ⟨rfl, k3⟩
    have K3 := Lib.hid (K2.out.trans k3.bl)
    clear k3
    go_wp2
    go_ret
    exact ⟨rfl, K3.out⟩
  | true =>
    have hg := good_of hB
    obtain ⟨n, hod⟩ : ∃ n : Nat, i.od = (n : Int) := ⟨i.od.toNat, by have := hg.regs.od0; omega⟩
    have hT := text_yes i a _ hE0 hi hB n (by have := hg.regs.od1; omega) hod
    have hS : ∀ w, Tabs w → Calls Tryz.prog 13 #[.agg i.cells] w fun e w' => e = .returned (.bool true) ∧ Kp none w w' := by
      rw [← hB]
      exact fun w hT => sound_any i w hT
    have hP : ∀ w, Env a w → Calls Tryz.prog 14 #[str (textL i)] w fun e w' => e = .returned (.tuple #[.agg i.cells, .bool true]) ∧ Bl w w' := by
      intro w hE
      have := Parse_yes (textL i) a w hE (by have := textL_len i hi; omega) (okP_text i hB)
      rw [read_text i hg] at this
      exact this
    have hR := fun w => refText_any i hg w
    have hself := self_eq i
    have hss := beq_true (rfl : textL i = textL i)
    generalize textL i = T at *
    have HS := Lib.hid hS
    have HP := Lib.hid hP
    have HR := Lib.hid hR
    clear hS hP hR hB hE hE0 hx k0 hi hg hod
    go_enter Tryz.func4, Tryz.ntmps4
    go_wp2_with fail
    refine hT.mono ?_
    rintro e w1 ⟨rfl, k1⟩
    have K1 := Lib.hid (HK.out.trans k1)
    have HE1 := Lib.hid (HE0.out.bl k1)
    have HX1 := Lib.hid (HX.out.bl k1)
    clear k1 hT b0 b1 b2 b3 b4 b5 b6
    go_wp2_with fail
    refine (answers_any a _ HE1.out).mono ?_
    rintro e w2 ⟨rfl, k2⟩
    have K2 := Lib.hid (K1.out.trans k2)
    have HE2 := Lib.hid (HE1.out.bl k2)
    have HX2 := Lib.hid (HX1.out.bl k2)
    obtain ⟨b0, b1, b2, b3, b4, b5, b6⟩ := HX2.out.seven
    clear k2
    go_wp2_with fail
    refine (HS.out _ HE2.out.tabs).mono ?_
    rintro e w3 ⟨rfl, k3⟩
    have K3 := Lib.hid (K2.out.trans k3.bl)
    have HE3 := Lib.hid (HE2.out.bl k3.bl)
    have HX3 := Lib.hid (HX2.out.bl k3.bl)
    clear k3 b0 b1 b2 b3 b4 b5 b6
    go_wp2_with fail
    refine (HP.out _ HE3.out).mono ?_
    rintro e w4 ⟨rfl, k4⟩
    have K4 := Lib.hid (K3.out.trans k4)
    have HX4 := Lib.hid (HX3.out.bl k4)
    have k5 := (Bl.refl w4).alloc i.cells 28
    have K5 := Lib.hid (K4.out.trans k5)
    have HJ5 := Lib.hid (Has.new w4 i.cells 28)
    have HX5 := Lib.hid (HX4.out.bl k5)
    obtain ⟨b0, b1, b2, b3, b4, b5, b6⟩ := HX5.out.seven
    clear k4 k5
    go_wp2_with fail
    refine (HR.out _).mono ?_
    rintro e w6 ⟨rfl, k6⟩
    have K6 := Lib.hid (K5.out.trans k6)
    clear b0 b1 b2 b3 b4 b5 b6
    obtain ⟨b0, b1, b2, b3, b4, b5, b6⟩ := (HX5.out.bl k6).seven
    obtain ⟨c0, c1, c2, c3, c4, c5, c6⟩ := (HJ5.out.bl k6).seven
    clear k6
    go_wp2
    go_ret
    exact ⟨rfl, K6.out⟩

set_option maxRecDepth 100000 in
theorem asmTexts_lifted (os : Os) (started : os.Started) (H : Type) (enc : TypeId × Value → H) :
    ReturnsInHanded {} Tryz.checked os 4 .any (fun w args => (Rows.asmTextsSpec.pre enc Tryz.prog Tryz.f4 [] false w args ∧ laidMetH Tryz.prog laidA w) ∧ sizedMet enc Tryz.prog Tryz.f4 (OpenSpec.ofChange Rows.asmTextsSpec) false w args)
      (Rows.asmTextsSpec.post enc Tryz.prog Tryz.f4 false true false false) := by
  refine returnsIn_laid (C := Tryz.checked) (X := fun w _ => laidMetH Tryz.prog laidA w) (fun _ _ _ hh h => h.of_heap hh) own started (by kernel_rfl) Tryz.func4
    (ChangeSpec.witness_shaped (enc := enc) (C := Tryz.checked) (os := os) (X := fun w _ => laidMetH Tryz.prog laidA w) false (World.doorLaid Tryz.prog 181 os) #[.agg (I7 0 0 0 0 0 0 0)] 8 rfl (World.shaped_of_RefB (by kernel_rfl) (by kernel_rfl)) (by kernel_rfl) (by kernel_rfl) (by kernel_rfl) (door_metA os _)) ?_
  intro W base args ds gs before hval0 hW hL hsh
  have hval : ∀ (j : Nat) t v, Tryz.f4.params[j]? = some t → args[j]? = some v → Value.okWide Tryz.prog W .any base t v := hval0
  have hW' := hW
  obtain ⟨p, q, hA0, hV, rfl, hfz, hnd⟩ := hW
  have hA : DataW.TrodAll enc Tryz.prog W 0 (fun _ => true) true Tryz.f4.params.toList args.toList ds p := hA0
  rw [Tryz.params4] at hA hval
  obtain ⟨v0, vs0, d0, ds0, p0, q0, hargs, rfl, rfl, h0, r0⟩ := trodAll_cons hA
  obtain ⟨rfl, rfl, rfl⟩ := trodAll_nil r0
  obtain rfl : args = #[v0] := by cases args; simp_all
  obtain ⟨rfl, rfl⟩ := trodVars_none hV
  obtain ⟨i, hi, rfl, rfl, rfl⟩ := open_inst (hval 0 28 v0 rfl rfl) h0
  obtain ⟨ae, hEn⟩ := of_laidA hL (some_max hsh)
  clear hA0 hval0
  have hC := asmTexts_walk i hi ae W hEn
  refine hC.mono fun e W' ⟨he, bel⟩ => ?_
  subst he
  exact ⟨_, rfl, _, _, _, [], _, [], hW', trodAll_mk1 (shut_bool Tryz.underlying4 _), (trodAll_cons_mk (shut_inst hi) trodAll_mk0), rfl, bel.frame _, fun h => by cases h⟩

theorem asmTexts_row : Rows.AsmTextsSaid :=
  OpenClaim.holds_of_wide 4 Tryz.f4 rfl rfl rfl rfl rfl rfl rfl ⟨rfl, rfl, rfl, rfl, rfl⟩ rfl rfl rfl rfl rfl (by kernel_rfl) Tryz.func4 (by kernel_rfl)
    (of_decide_eq_true (by kernel_rfl)) (by unfold Func.isWrapper; first | (rw [if_pos (by decide +kernel)]; kernel_rfl) | (rw [if_neg (by decide +kernel)]; exact ⟨rfl, rfl⟩))
    (fun os started H enc _ => asmTexts_lifted os started H enc)

/-- The statement: the tied card. -/
theorem asmTexts_holds : Rows.AsmTextsCardSaid :=
  Claim7.holds_tied_plain_at .later [] _ true _ true
    asmTexts_row (fun _ h => by cases h) (by kernel_rfl) (fun _ h => by cases h) asmTexts_row_tie rfl ⟨rfl, rfl⟩ (by kernel_rfl) rfl
    (fun f fn hf hfn => by
      obtain rfl : f = 4 := Option.some.inj ((show Tryz.prog.funcNamed "marionette/marionettelaw05.AsmTexts" = some 4 by kernel_rfl).symm.trans hf) |>.symm
      obtain rfl : fn = Tryz.f4 := (Option.some.inj (Tryz.func4.symm.trans hfn)).symm
      exact ⟨by kernel_rfl, fun j t ht => by
        rw [Tryz.params4] at ht
        have hm : t ∈ [28] := by simpa using Array.mem_of_getElem? ht
        have hall : ([28].all fun u => !Tryz.prog.wantsStandIn u) = true := by kernel_rfl
        exact (show Tryz.prog.wantsStandIn t = false by simpa using List.all_eq_true.1 hall t hm)⟩)
    (by kernel_rfl)
#print axioms asmTexts_holds

end Go.Proofs.YtionnhjldcpmjaaGreatDoor
