/-
  InstDecodes, tied: which instruction a word is, or that it is none: for every word; the arrays of operators as the text lays them.
-/
import Derived.Test.YtjafiadcdickcaaDoorArgs
import Derived.Test.YtjafiadcdickcaaDoorTie
import Derived.Test.YtjafiadcdickcaaDoorCards
import Derived.SevenTiedAt
set_option linter.unusedVariables false
namespace Go.Proofs.YtjafiadcdickcaaDoor
open Go.ChangeShapes Go.WideShapes Go.ChangeAt Go.RowKit

set_option maxHeartbeats 1000000 in
/-- The law's text returns true. -/
theorem instDecodes_walk (a : Int) (ha : (Lit.int .u32 a).wf = true) (w : World) (hT : Tabs w) :
    Calls Tryd.prog 3 #[.int .u32 a] w fun e w' => e = .returned (.bool true) ∧ Kp none w w' := by
  obtain ⟨h0, h1⟩ := u32_bd a ha
  obtain ⟨s, rfl⟩ := Int.eq_ofNat_of_zero_le h0
  have hs : s < 4294967296 := by omega
  clear ha h0 h1
  have HD := Lib.hid (decode_any s w hs hT)
  have HR := Lib.hid (fun w => ref_any s w hs)
  have HA := Lib.hid (fun w h => answers_any w h)
  unfold DecPost at HR
  generalize dec s = D at *
  generalize decide (opW s ≠ 0) = B at *
  obtain ⟨d0, d1, d2, d3, d4, d5, d6⟩ := D
  go_enter Tryd.func3, Tryd.ntmps3
  go_wp2_with fail
  refine HD.out.mono ?_
  rintro e w1 ⟨rfl, k1⟩
  go_wp2_with fail
  refine (HR.out _).mono ?_
  rintro e w2 ⟨rfl, k2⟩
  have b1 := (Has.new w1 (I7 d0 d1 d2 d3 d4 d5 d6) 24).kp k2 (by simp)
  have K2 := (k1.alloc (I7 d0 d1 d2 d3 d4 d5 d6) 24).trans k2
  have b1' := b1.alloc (.cells (I7 d0 d1 d2 d3 d4 d5 d6) 24)
  have b2 := Has.new w2 (I7 d0 d1 d2 d3 d4 d5 d6) 24
  have K3 := K2.alloc (I7 d0 d1 d2 d3 d4 d5 d6) 24
  go_wp2_with fail
  refine (HA.out _ (hT.kp K3)).mono ?_
  rintro e w3 ⟨rfl, k3⟩
  obtain ⟨p0, p1, p2, p3, p4, p5, p6⟩ := (b1'.kp k3 (by simp)).seven
  obtain ⟨q0, q1, q2, q3, q4, q5, q6⟩ := (b2.kp k3 (by simp)).seven
  have K4 := K3.trans k3
  clear b1 b1' b2 K2 k1 k2 k3 K3
  go_wp2
  go_ret
  exact ⟨rfl, K4⟩

set_option maxRecDepth 100000 in
theorem instDecodes_lifted (os : Os) (started : os.Started) (H : Type) (enc : TypeId × Value → H) :
    ReturnsInHanded {} Tryd.checked os 3 .any (fun w args => (Rows.instDecodesSpec.pre enc Tryd.prog Tryd.f3 [] false w args ∧ laidMetH Tryd.prog laidL w) ∧ sizedMet enc Tryd.prog Tryd.f3 (OpenSpec.ofChange Rows.instDecodesSpec) false w args)
      (Rows.instDecodesSpec.post enc Tryd.prog Tryd.f3 false true false false) := by
  refine returnsInHanded_of_change_and (C := Tryd.checked) (X := fun w _ => laidMetH Tryd.prog laidL w) (fun _ _ _ hh h => h.of_heap hh) own started (by kernel_rfl) Tryd.func3
    (ChangeSpec.witness_shaped (enc := enc) (C := Tryd.checked) (os := os) (X := fun w _ => laidMetH Tryd.prog laidL w) false (World.doorLaid Tryd.prog 104 os) #[.int .u32 0] 8 rfl (World.shaped_of_RefB (by kernel_rfl) (by kernel_rfl)) (by kernel_rfl) (by kernel_rfl) (by kernel_rfl) (door_met os _)) ?_
  intro W base args ds gs before hval0 hW _ _ hL _
  have hval : ∀ (j : Nat) t v, Tryd.f3.params[j]? = some t → args[j]? = some v → Value.okWide Tryd.prog W .any base t v := hval0
  have hW' := hW
  obtain ⟨p, q, hA0, hV, rfl, hfz, hnd⟩ := hW
  have hA : DataW.TrodAll enc Tryd.prog W 0 (fun _ => true) true Tryd.f3.params.toList args.toList ds p := hA0
  rw [Tryd.params3] at hA hval
  obtain ⟨v0, vs0, d0, ds0, p0, q0, hargs, rfl, rfl, h0, r0⟩ := trodAll_cons hA
  obtain ⟨rfl, rfl, rfl⟩ := trodAll_nil r0
  obtain rfl : args = #[v0] := by cases args; simp_all
  obtain ⟨rfl, rfl⟩ := trodVars_none hV
  obtain ⟨a, rfl, rfl, rfl, ha⟩ := open_int Tryd.underlying22 (hval 0 22 v0 rfl rfl) h0
  have hTb := of_laid hL
  clear hA0 hval0
  simp only [List.append_nil] at hW'
  refine (instDecodes_walk a ha W hTb).mono fun e W' ⟨he, hg0⟩ => ?_
  have hg := hg0.grown
  subst he
  exact ⟨_, rfl, post_of_same (pa := []) (pv := []) hW' (fun _ _ _ => (trodAll_cons_mk (shut_bool Tryd.underlying4 _) trodAll_mk0)) (fun sp _ => (trodAll_cons_mk (shut_int Tryd.underlying22 ha) trodAll_mk0)) (fun _ _ => rfl) rfl
    (hg.frame _) hg.2.1 (ok_one (by kernel_rfl) rfl (okWide_bool_mk Tryd.underlying4 _))⟩

theorem instDecodes_row : Rows.InstDecodesSaid :=
  OpenClaim.holds_of_wide 3 Tryd.f3 rfl rfl rfl rfl rfl rfl rfl ⟨rfl, rfl, rfl, rfl, rfl⟩ rfl rfl rfl rfl rfl (by kernel_rfl) Tryd.func3 (by kernel_rfl)
    (of_decide_eq_true (by kernel_rfl)) (by unfold Func.isWrapper; first | (rw [if_pos (by decide +kernel)]; kernel_rfl) | (rw [if_neg (by decide +kernel)]; exact ⟨rfl, rfl⟩))
    (fun os started H enc _ => instDecodes_lifted os started H enc)

/-- The statement: the tied card. -/
theorem instDecodes_holds : Rows.InstDecodesCardSaid :=
  Claim7.holds_tied_plain_at .later [] _ true _ false
    instDecodes_row (fun _ h => by cases h) (by kernel_rfl) (fun _ h => by cases h) instDecodes_row_tie rfl ⟨rfl, rfl⟩ (by kernel_rfl) rfl
    (fun f fn hf hfn => by
      obtain rfl : f = 3 := Option.some.inj ((show Tryd.prog.funcNamed "marionette/marionettelaw03.InstDecodes" = some 3 by kernel_rfl).symm.trans hf) |>.symm
      obtain rfl : fn = Tryd.f3 := (Option.some.inj (Tryd.func3.symm.trans hfn)).symm
      exact ⟨by kernel_rfl, fun j t ht => by
        rw [Tryd.params3] at ht
        have hm : t ∈ [22] := by simpa using Array.mem_of_getElem? ht
        have hall : ([22].all fun u => !Tryd.prog.wantsStandIn u) = true := by kernel_rfl
        exact (show Tryd.prog.wantsStandIn t = false by simpa using List.all_eq_true.1 hall t hm)⟩)
    (by kernel_rfl)
#print axioms instDecodes_holds
end Go.Proofs.YtjafiadcdickcaaDoor
