/-
  Law AsmReads: for every text the law returns true: what is read of it has just this text; other texts are none. Tied card; the listed variables are those of the program text.
-/
import Derived.Test.YtionnhjldcpmjaaGreatDoorWrap
import Derived.Test.YtionnhjldcpmjaaGreatDoorRefTy
import Derived.Test.YtionnhjldcpmjaaGreatDoorTie
import Derived.Test.YtionnhjldcpmjaaGreatDoorCards
import Derived.SevenTiedAt
set_option linter.unusedVariables false
set_option linter.unusedSimpArgs false
namespace Go.Proofs.YtionnhjldcpmjaaGreatDoor
open Go.RowKit

open Go.ChangeShapes Go.WideShapes Go.ChangeAt
theorem self_eq (i : Ins) (w : World) : (Go.binOp .eql 28 (.agg (I7 i.op i.rd i.r1 i.r2 i.im i.od i.sz)) (.agg (I7 i.op i.rd i.r1 i.r2 i.im i.od i.sz))).run Tryz.prog w = .ok (.bool true) w := by
  rw [struct_eql]
  simp
theorem size_str (s : List UInt8) : ((⟨s.toArray⟩ : ByteArray).size : Int) = (s.length : Int) := by simp [ByteArray.size]

set_option maxRecDepth 100000 in
set_option maxHeartbeats 4000000 in
/-- The law's text returns true. -/
theorem asmReads_walk (s : List UInt8) (hs : s.length ≤ 9223372036854775807) (a : Addr) (w : World) (hE : Env a w) :
    Calls Tryz.prog 5 #[str s] w fun e w' => e = .returned (.bool true) ∧ Bl w w' := by
  by_cases hlen : (1000 : Int) < (s.length : Int)
  · have hA := answers_any a w hE
    have hsz := size_str s
    have HS := Lib.hid hs
    clear hE hs
    go_enter Tryz.func5, Tryz.ntmps5
    go_wp2_with fail
    refine hA.mono ?_
    rintro e w1 ⟨rfl, k1⟩
    have K1 := Lib.hid k1
    clear k1 hA
    go_wp2
    go_ret
    exact ⟨rfl, K1.out⟩
  · have HE := Lib.hid hE
    have hsz := size_str s
    have HS := Lib.hid hs
    have hl : s.length < 4294967281 := by omega
    cases hok : okP s with
    | false =>
      have hP := Parse_no s a w hE hl hok
      have hself := self_eq ⟨0, 0, 0, 0, 0, 0, 0⟩
      dsimp only at hself
      clear hE hok hs hl
      go_enter Tryz.func5, Tryz.ntmps5
      go_wp2_with fail
      refine hP.mono ?_
      rintro e w1 ⟨rfl, k1⟩
      have k2 := (Bl.refl w1).alloc (I7 0 0 0 0 0 0 0) 28
      have HE2 := Lib.hid (HE.out.bl (k1.trans k2))
      have K2 := Lib.hid (k1.trans k2)
      have HX2 := Lib.hid (Has.new w1 (I7 0 0 0 0 0 0 0) 28)
      clear k1 k2 hP
      go_wp2_with fail
      refine (answers_any a _ HE2.out).mono ?_
      rintro e w3 ⟨rfl, k3⟩
      have K3 := Lib.hid (K2.out.trans k3)
      obtain ⟨b0, b1, b2, b3, b4, b5, b6⟩ := (HX2.out.bl k3).seven
      clear k3
      go_wp2
      go_ret
      exact ⟨rfl, K3.out⟩
    | true =>
      have hP := Parse_yes s a w hE hl hok
      obtain ⟨hB, hTs⟩ : encB (readL s) = true ∧ textL (readL s) = s := by
        simp only [okP, Bool.and_eq_true, decide_eq_true_eq] at hok
        exact hok
      have hg := good_of hB
      obtain ⟨n, hod⟩ : ∃ n : Nat, (readL s).od = (n : Int) := ⟨(readL s).od.toNat, by have := hg.regs.od0; omega⟩
      have hT := fun w hE => text_yes (readL s) a w hE (readL_in s) hB n (by have := hg.regs.od1; omega) hod
      have hR := fun w => refText_any (readL s) hg w
      rw [hTs] at hT hR
      have hss := beq_true (rfl : s = s)
      generalize readL s = i at *
      have HT := Lib.hid hT
      have HR := Lib.hid hR
      clear hE hok hs hl hB hTs hg hod hT hR
      go_enter Tryz.func5, Tryz.ntmps5
      go_wp2_with fail
      refine hP.mono ?_
      rintro e w1 ⟨rfl, k1⟩
      have k2 := (Bl.refl w1).alloc i.cells 28
      have HE2 := Lib.hid (HE.out.bl (k1.trans k2))
      have K2 := Lib.hid (k1.trans k2)
      have HX2 := Lib.hid (Has.new w1 i.cells 28)
      obtain ⟨b0, b1, b2, b3, b4, b5, b6⟩ := HX2.out.seven
      clear k1 k2 hP
      go_wp2_with fail
      refine (HT.out _ HE2.out).mono ?_
      rintro e w3 ⟨rfl, k3⟩
      have K3 := Lib.hid (K2.out.trans k3)
      have HE3 := Lib.hid (HE2.out.bl k3)
      have HX3 := Lib.hid (HX2.out.bl k3)
      clear k3 b0 b1 b2 b3 b4 b5 b6
      go_wp2_with fail
      refine (answers_any a _ HE3.out).mono ?_
      rintro e w4 ⟨rfl, k4⟩
      have K4 := Lib.hid (K3.out.trans k4)
      obtain ⟨b0, b1, b2, b3, b4, b5, b6⟩ := (HX3.out.bl k4).seven
      clear k4
      go_wp2_with fail
      refine (HR.out _).mono ?_
      rintro e w5 ⟨rfl, k5⟩
      have K5 := Lib.hid (K4.out.trans k5)
      clear k5
      go_wp2
      go_ret
      exact ⟨rfl, K5.out⟩

set_option maxRecDepth 100000 in
theorem asmReads_lifted (os : Os) (started : os.Started) (H : Type) (enc : TypeId × Value → H) :
    ReturnsInHanded {} Tryz.checked os 5 .any (fun w args => (Rows.asmReadsSpec.pre enc Tryz.prog Tryz.f5 [] false w args ∧ laidMetH Tryz.prog laidA w) ∧ sizedMet enc Tryz.prog Tryz.f5 (OpenSpec.ofChange Rows.asmReadsSpec) false w args)
      (Rows.asmReadsSpec.post enc Tryz.prog Tryz.f5 false true false false) := by
  refine returnsIn_laid (C := Tryz.checked) (X := fun w _ => laidMetH Tryz.prog laidA w) (fun _ _ _ hh h => h.of_heap hh) own started (by kernel_rfl) Tryz.func5
    (ChangeSpec.witness_shaped (enc := enc) (C := Tryz.checked) (os := os) (X := fun w _ => laidMetH Tryz.prog laidA w) false (World.doorLaid Tryz.prog 181 os) #[.string ⟨#[]⟩] 8 rfl (World.shaped_of_RefB (by kernel_rfl) (by kernel_rfl)) (by kernel_rfl) (by kernel_rfl) (by kernel_rfl) (door_metA os _)) ?_
  intro W base args ds gs before hval0 hW hL hsh
  have hval : ∀ (j : Nat) t v, Tryz.f5.params[j]? = some t → args[j]? = some v → Value.okWide Tryz.prog W .any base t v := hval0
  have hW' := hW
  obtain ⟨p, q, hA0, hV, rfl, hfz, hnd⟩ := hW
  have hA : DataW.TrodAll enc Tryz.prog W 0 (fun _ => true) true Tryz.f5.params.toList args.toList ds p := hA0
  rw [Tryz.params5] at hA hval
  obtain ⟨v0, vs0, d0, ds0, p0, q0, hargs, rfl, rfl, h0, r0⟩ := trodAll_cons hA
  obtain ⟨rfl, rfl, rfl⟩ := trodAll_nil r0
  obtain rfl : args = #[v0] := by cases args; simp_all
  obtain ⟨rfl, rfl⟩ := trodVars_none hV
  obtain ⟨s, rfl, rfl, rfl, hs⟩ := ChangeMaps.open_string Tryz.underlying9 (hval 0 9 v0 rfl rfl) h0
  obtain ⟨ae, hEn⟩ := of_laidA hL (some_max hsh)
  clear hA0 hval0
  have hC := asmReads_walk s.data.toList (len_of hs) ae W hEn
  rw [← str_of s] at hC
  refine hC.mono fun e W' ⟨he, bel⟩ => ?_
  subst he
  exact ⟨_, rfl, _, _, _, [], _, [], hW', trodAll_mk1 (shut_bool Tryz.underlying4 _), (trodAll_cons_mk (ChangeMaps.shut_string Tryz.underlying9 hs) trodAll_mk0), rfl, bel.frame _, fun h => by cases h⟩

theorem asmReads_row : Rows.AsmReadsSaid :=
  OpenClaim.holds_of_wide 5 Tryz.f5 rfl rfl rfl rfl rfl rfl rfl ⟨rfl, rfl, rfl, rfl, rfl⟩ rfl rfl rfl rfl rfl (by kernel_rfl) Tryz.func5 (by kernel_rfl)
    (of_decide_eq_true (by kernel_rfl)) (by unfold Func.isWrapper; first | (rw [if_pos (by decide +kernel)]; kernel_rfl) | (rw [if_neg (by decide +kernel)]; exact ⟨rfl, rfl⟩))
    (fun os started H enc _ => asmReads_lifted os started H enc)

/-- The statement: the tied card. -/
theorem asmReads_holds : Rows.AsmReadsCardSaid :=
  Claim7.holds_tied_plain_at .later [] _ true _ true
    asmReads_row (fun _ h => by cases h) (by kernel_rfl) (fun _ h => by cases h) asmReads_row_tie rfl ⟨rfl, rfl⟩ (by kernel_rfl) rfl
    (fun f fn hf hfn => by
      obtain rfl : f = 5 := Option.some.inj ((show Tryz.prog.funcNamed "marionette/marionettelaw05.AsmReads" = some 5 by kernel_rfl).symm.trans hf) |>.symm
      obtain rfl : fn = Tryz.f5 := (Option.some.inj (Tryz.func5.symm.trans hfn)).symm
      exact ⟨by kernel_rfl, fun j t ht => by
        rw [Tryz.params5] at ht
        have hm : t ∈ [9] := by simpa using Array.mem_of_getElem? ht
        have hall : ([9].all fun u => !Tryz.prog.wantsStandIn u) = true := by kernel_rfl
        exact (show Tryz.prog.wantsStandIn t = false by simpa using List.all_eq_true.1 hall t hm)⟩)
    (by kernel_rfl)
#print axioms asmReads_holds

end Go.Proofs.YtionnhjldcpmjaaGreatDoor
