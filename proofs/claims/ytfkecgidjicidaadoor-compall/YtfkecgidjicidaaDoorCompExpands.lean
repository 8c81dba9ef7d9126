/-
  CompExpands, tied: which instruction a short one is, or that it is none: for every half word; the two arrays of operators as the text lays them.
-/
import Derived.Test.YtfkecgidjicidaaDoorLaidC
import Derived.Test.YtfkecgidjicidaaDoorRefY
import Derived.Test.YtfkecgidjicidaaDoorTie
import Derived.Test.YtfkecgidjicidaaDoorCards
import Derived.SevenTiedAt
set_option linter.unusedVariables false
namespace Go.Proofs.YtfkecgidjicidaaDoor
open Go.ChangeShapes Go.WideShapes Go.ChangeAt Go.RowKit
theorem exI_form (s : Nat) : ∃ d0 d1 d2 d3 d4 d5 d6 : Int, exI s = I7 d0 d1 d2 d3 d4 d5 d6 := by
  unfold exI
  split
  · exact ⟨_, _, _, _, _, _, _, rfl⟩
  · exact ⟨_, _, _, _, _, _, _, rfl⟩
set_option maxHeartbeats 2000000 in
theorem expands_yes (s : Nat) (w : World) (hs : s < 65536) (hT : TabsC w) (h : ((s : Int) % 4 != 3) = true) :
    Calls Tryd.prog 3 #[.int .u16 s] w fun e w' => e = .returned (.bool true) ∧ Kp none w w' := by
  have HD := Lib.hid (expand_any s w hs hT)
  have HR := Lib.hid (fun w => refx_any s w hs)
  have HS := Lib.hid (fun w => short_yes s w hs h)
  have HA := Lib.hid (fun w h => answers_any w h)
  unfold RefPost at HR
  obtain ⟨d0, d1, d2, d3, d4, d5, d6, hI⟩ := exI_form s
  rw [hI] at HD HR
  generalize exB s = B at *
  clear hI hs
  go_enter Tryd.func3, Tryd.ntmps3
  go_wp2_with fail
  refine HD.out.mono ?_
  rintro e w1 ⟨rfl, k1⟩
  go_wp2_with fail
  refine (HR.out _).mono ?_
  rintro e w2 ⟨rfl, k2⟩
  have b1 := (Has.new w1 (I7 d0 d1 d2 d3 d4 d5 d6) 24).kp k2 (by simp)
  have K2 := (k1.alloc (I7 d0 d1 d2 d3 d4 d5 d6) 24).trans k2
  have b1' := b1.alloc (.cells (I7 d0 d1 d2 d3 d4 d5 d6) 24)
  have b2 := Has.new w2 (I7 d0 d1 d2 d3 d4 d5 d6) 24
  have K3 := K2.alloc (I7 d0 d1 d2 d3 d4 d5 d6) 24
  go_wp2_with fail
  refine (HA.out _ (hT.kp K3)).mono ?_
  rintro e w3 ⟨rfl, k3⟩
  obtain ⟨p0, p1, p2, p3, p4, p5, p6⟩ := (b1'.kp k3 (by simp)).seven
  obtain ⟨q0, q1, q2, q3, q4, q5, q6⟩ := (b2.kp k3 (by simp)).seven
  have K4 := K3.trans k3
  clear b1 b1' b2 K2 k1 k2 k3 K3 hT
  go_wp2_with fail
  refine (HS.out _).mono ?_
  rintro e w4 ⟨rfl, k4⟩
  have K5 := K4.trans k4
  go_wp2
  go_ret
  exact ⟨rfl, K5⟩
set_option maxHeartbeats 2000000 in
theorem expands_no (s : Nat) (w : World) (hs : s < 65536) (hT : TabsC w) (h : ((s : Int) % 4 != 3) = false) :
    Calls Tryd.prog 3 #[.int .u16 s] w fun e w' => e = .returned (.bool true) ∧ Kp none w w' := by
  have HD := Lib.hid (expand_any s w hs hT)
  have HR := Lib.hid (fun w => refx_any s w hs)
  have HS := Lib.hid (fun w => short_no s w hs h)
  have HA := Lib.hid (fun w h => answers_any w h)
  unfold RefPost at HR
  obtain ⟨d0, d1, d2, d3, d4, d5, d6, hI⟩ := exI_form s
  rw [hI] at HD HR
  generalize exB s = B at *
  clear hI hs
  go_enter Tryd.func3, Tryd.ntmps3
  go_wp2_with fail
  refine HD.out.mono ?_
  rintro e w1 ⟨rfl, k1⟩
  go_wp2_with fail
  refine (HR.out _).mono ?_
  rintro e w2 ⟨rfl, k2⟩
  have b1 := (Has.new w1 (I7 d0 d1 d2 d3 d4 d5 d6) 24).kp k2 (by simp)
  have K2 := (k1.alloc (I7 d0 d1 d2 d3 d4 d5 d6) 24).trans k2
  have b1' := b1.alloc (.cells (I7 d0 d1 d2 d3 d4 d5 d6) 24)
  have b2 := Has.new w2 (I7 d0 d1 d2 d3 d4 d5 d6) 24
  have K3 := K2.alloc (I7 d0 d1 d2 d3 d4 d5 d6) 24
  go_wp2_with fail
  refine (HA.out _ (hT.kp K3)).mono ?_
  rintro e w3 ⟨rfl, k3⟩
  obtain ⟨p0, p1, p2, p3, p4, p5, p6⟩ := (b1'.kp k3 (by simp)).seven
  obtain ⟨q0, q1, q2, q3, q4, q5, q6⟩ := (b2.kp k3 (by simp)).seven
  have K4 := K3.trans k3
  clear b1 b1' b2 K2 k1 k2 k3 K3 hT
  go_wp2_with fail
  refine (HS.out _).mono ?_
  rintro e w4 ⟨rfl, k4⟩
  have K5 := K4.trans k4
  go_wp2
  go_ret
  exact ⟨rfl, K5⟩

set_option maxHeartbeats 1000000 in
/-- The law's text returns true. -/
theorem compExpands_walk (a : Int) (ha : (Lit.int .u16 a).wf = true) (w : World) (hT : TabsC w) :
    Calls Tryd.prog 3 #[.int .u16 a] w fun e w' => e = .returned (.bool true) ∧ Kp none w w' := by
  obtain ⟨h0, h1⟩ := u16_bd a ha
  obtain ⟨s, rfl⟩ := Int.eq_ofNat_of_zero_le h0
  have hs : s < 65536 := by omega
  clear ha h0 h1
  cases h : ((s : Int) % 4 != 3) with
  | true => exact expands_yes s w hs hT h
  | false => exact expands_no s w hs hT h

set_option maxRecDepth 100000 in
theorem compExpands_lifted (os : Os) (started : os.Started) (H : Type) (enc : TypeId × Value → H) :
    ReturnsInHanded {} Tryd.checked os 3 .any (fun w args => (Rows.compExpandsSpec.pre enc Tryd.prog Tryd.f3 [] false w args ∧ laidMetH Tryd.prog laidC w) ∧ sizedMet enc Tryd.prog Tryd.f3 (OpenSpec.ofChange Rows.compExpandsSpec) false w args)
      (Rows.compExpandsSpec.post enc Tryd.prog Tryd.f3 false true false false) := by
  refine returnsInHanded_of_change_and (C := Tryd.checked) (X := fun w _ => laidMetH Tryd.prog laidC w) (fun _ _ _ hh h => h.of_heap hh) own started (by kernel_rfl) Tryd.func3
    (ChangeSpec.witness_shaped (enc := enc) (C := Tryd.checked) (os := os) (X := fun w _ => laidMetH Tryd.prog laidC w) false (World.doorLaid Tryd.prog 117 os) #[.int .u16 0] 8 rfl (World.shaped_of_RefB (by kernel_rfl) (by kernel_rfl)) (by kernel_rfl) (by kernel_rfl) (by kernel_rfl) (door_metC os _)) ?_
  intro W base args ds gs before hval0 hW _ _ hL _
  have hval : ∀ (j : Nat) t v, Tryd.f3.params[j]? = some t → args[j]? = some v → Value.okWide Tryd.prog W .any base t v := hval0
  have hW' := hW
  obtain ⟨p, q, hA0, hV, rfl, hfz, hnd⟩ := hW
  have hA : DataW.TrodAll enc Tryd.prog W 0 (fun _ => true) true Tryd.f3.params.toList args.toList ds p := hA0
  rw [Tryd.params3] at hA hval
  obtain ⟨v0, vs0, d0, ds0, p0, q0, hargs, rfl, rfl, h0, r0⟩ := trodAll_cons hA
  obtain ⟨rfl, rfl, rfl⟩ := trodAll_nil r0
  obtain rfl : args = #[v0] := by cases args; simp_all
  obtain ⟨rfl, rfl⟩ := trodVars_none hV
  obtain ⟨a, rfl, rfl, rfl, ha⟩ := open_int Tryd.underlying22 (hval 0 22 v0 rfl rfl) h0
  have hTb := of_laidC hL
  clear hA0 hval0
  simp only [List.append_nil] at hW'
  refine (compExpands_walk a ha W hTb).mono fun e W' ⟨he, hg0⟩ => ?_
  have hg := hg0.grown
  subst he
  exact ⟨_, rfl, post_of_same (pa := []) (pv := []) hW' (fun _ _ _ => (trodAll_cons_mk (shut_bool Tryd.underlying4 _) trodAll_mk0)) (fun sp _ => (trodAll_cons_mk (shut_int Tryd.underlying22 ha) trodAll_mk0)) (fun _ _ => rfl) rfl
    (hg.frame _) hg.2.1 (ok_one (by kernel_rfl) rfl (okWide_bool_mk Tryd.underlying4 _))⟩

theorem compExpands_row : Rows.CompExpandsSaid :=
  OpenClaim.holds_of_wide 3 Tryd.f3 rfl rfl rfl rfl rfl rfl rfl ⟨rfl, rfl, rfl, rfl, rfl⟩ rfl rfl rfl rfl rfl (by kernel_rfl) Tryd.func3 (by kernel_rfl)
    (of_decide_eq_true (by kernel_rfl)) (by unfold Func.isWrapper; first | (rw [if_pos (by decide +kernel)]; kernel_rfl) | (rw [if_neg (by decide +kernel)]; exact ⟨rfl, rfl⟩))
    (fun os started H enc _ => compExpands_lifted os started H enc)

/-- The statement: the tied card. -/
theorem compExpands_holds : Rows.CompExpandsCardSaid :=
  Claim7.holds_tied_plain_at .later [] _ true _ false
    compExpands_row (fun _ h => by cases h) (by kernel_rfl) (fun _ h => by cases h) compExpands_row_tie rfl ⟨rfl, rfl⟩ (by kernel_rfl) rfl
    (fun f fn hf hfn => by
      obtain rfl : f = 3 := Option.some.inj ((show Tryd.prog.funcNamed "marionette/marionettelaw04.CompExpands" = some 3 by kernel_rfl).symm.trans hf) |>.symm
      obtain rfl : fn = Tryd.f3 := (Option.some.inj (Tryd.func3.symm.trans hfn)).symm
      exact ⟨by kernel_rfl, fun j t ht => by
        rw [Tryd.params3] at ht
        have hm : t ∈ [22] := by simpa using Array.mem_of_getElem? ht
        have hall : ([22].all fun u => !Tryd.prog.wantsStandIn u) = true := by kernel_rfl
        exact (show Tryd.prog.wantsStandIn t = false by simpa using List.all_eq_true.1 hall t hm)⟩)
    (by kernel_rfl)
#print axioms compExpands_holds
end Go.Proofs.YtfkecgidjicidaaDoor
