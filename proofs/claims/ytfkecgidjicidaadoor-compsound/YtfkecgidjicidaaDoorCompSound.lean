/-
  CompSound, tied: a short instruction is one of 32 bits, but for its size: for every half word; the arrays of operators of both packages as the text lays them.
-/
import Derived.Test.YtfkecgidjicidaaDoorLaidS
import Derived.Test.YtfkecgidjicidaaDoorSoundE
import Derived.Test.YtfkecgidjicidaaDoorTie
import Derived.Test.YtfkecgidjicidaaDoorCards
import Derived.SevenTiedAt
set_option linter.unusedVariables false
namespace Go.Proofs.YtfkecgidjicidaaDoor
open Go.ChangeShapes Go.WideShapes Go.ChangeAt Go.RowKit
set_option maxHeartbeats 2000000 in
theorem sound_yes (s : Nat) (op rd r1 r2 im : Int) (w : World) (hT : TabsS w) (hE : encB ⟨op, rd, r1, r2, im, 0, 4⟩ = true)
    (HD : Calls Tryd.prog 7 #[.int .u16 s] w fun e w' => e = .returned (.tuple #[.agg (I7 op rd r1 r2 im 0 2), .bool true]) ∧ Kp none w w') :
    Calls Tryd.prog 5 #[.int .u16 s] w fun e w' => e = .returned (.bool true) ∧ Kp none w w' := by
  have HX := Lib.hid HD
  have HA := Lib.hid (fun w h => answers_any w h)
  have HS := Lib.hid (fun w h => sound_any ⟨op, rd, r1, r2, im, 0, 4⟩ w h)
  rw [hE] at HS
  have HT := Lib.hid hT
  clear HD hE hT
  go_enter Tryd.func5, Tryd.ntmps5
  go_wp2_with fail
  refine HX.out.mono ?_
  rintro e w1 ⟨rfl, k1⟩
  have b1 := Has.new w1 (I7 op rd r1 r2 im 0 4) 24
  have K1 := k1.alloc (I7 op rd r1 r2 im 0 4) 24
  go_wp2_with fail
  refine (HA.out _ (HT.out.c.kp K1)).mono ?_
  rintro e w2 ⟨rfl, k2⟩
  obtain ⟨p0, p1, p2, p3, p4, p5, p6⟩ := (b1.kp k2 (by simp)).seven
  have K2 := K1.trans k2
  clear b1 K1 k1 k2 HX HA
  go_wp2_with fail
  refine (HS.out _ (HT.out.i.kp K2)).mono ?_
  rintro e w3 ⟨rfl, k3⟩
  have K3 := K2.trans k3
  clear HS HT
  go_wp2
  go_ret
  exact ⟨rfl, K3⟩
set_option maxHeartbeats 2000000 in
theorem sound_no (s : Nat) (w : World) (hT : TabsS w)
    (HD : Calls Tryd.prog 7 #[.int .u16 s] w fun e w' => e = .returned (.tuple #[.agg (I7 0 0 0 0 0 0 0), .bool false]) ∧ Kp none w w') :
    Calls Tryd.prog 5 #[.int .u16 s] w fun e w' => e = .returned (.bool true) ∧ Kp none w w' := by
  have HX := Lib.hid HD
  have HA := Lib.hid (fun w h => answers_any w h)
  have HT := Lib.hid hT
  clear HD hT
  go_enter Tryd.func5, Tryd.ntmps5
  go_wp2_with fail
  refine HX.out.mono ?_
  rintro e w1 ⟨rfl, k1⟩
  have b1 := Has.new w1 (I7 0 0 0 0 0 0 0) 24
  have K1 := k1.alloc (I7 0 0 0 0 0 0 0) 24
  go_wp2_with fail
  refine (HA.out _ (HT.out.c.kp K1)).mono ?_
  rintro e w2 ⟨rfl, k2⟩
  obtain ⟨p0, p1, p2, p3, p4, p5, p6⟩ := (b1.kp k2 (by simp)).seven
  have K2 := K1.trans k2
  clear b1 K1 k1 k2 HX HA HT
  go_wp2
  go_ret
  exact ⟨rfl, K2⟩

set_option maxHeartbeats 1000000 in
/-- The law's text returns true. -/
theorem compSound_walk (a : Int) (ha : (Lit.int .u16 a).wf = true) (w : World) (hT : TabsS w) :
    Calls Tryd.prog 5 #[.int .u16 a] w fun e w' => e = .returned (.bool true) ∧ Kp none w w' := by
  obtain ⟨h0, h1⟩ := u16_bd a ha
  obtain ⟨s, rfl⟩ := Int.eq_ofNat_of_zero_le h0
  have hs : s < 65536 := by omega
  clear ha h0 h1
  have HD := expand_any s w hs hT.c
  have hF := sound_ok s
  unfold exI exB at HD
  generalize ex s = i at *
  obtain ⟨op, rd, r1, r2, im⟩ := i
  unfold SoOk at hF
  dsimp only at hF HD
  by_cases h0 : op = 0
  · rw [if_pos h0, decide_eq_false (by simpa using h0)] at HD
    exact sound_no s w hT HD
  rw [if_neg h0, decide_eq_true h0] at HD
  exact sound_yes s op rd r1 r2 im w hT (hF h0) HD

set_option maxRecDepth 100000 in
theorem compSound_lifted (os : Os) (started : os.Started) (H : Type) (enc : TypeId × Value → H) :
    ReturnsInHanded {} Tryd.checked os 5 .any (fun w args => (Rows.compSoundSpec.pre enc Tryd.prog Tryd.f5 [] false w args ∧ laidMetH Tryd.prog laidS w) ∧ sizedMet enc Tryd.prog Tryd.f5 (OpenSpec.ofChange Rows.compSoundSpec) false w args)
      (Rows.compSoundSpec.post enc Tryd.prog Tryd.f5 false true false false) := by
  refine returnsInHanded_of_change_and (C := Tryd.checked) (X := fun w _ => laidMetH Tryd.prog laidS w) (fun _ _ _ hh h => h.of_heap hh) own started (by kernel_rfl) Tryd.func5
    (ChangeSpec.witness_shaped (enc := enc) (C := Tryd.checked) (os := os) (X := fun w _ => laidMetH Tryd.prog laidS w) false (World.doorLaid Tryd.prog 117 os) #[.int .u16 0] 8 rfl (World.shaped_of_RefB (by kernel_rfl) (by kernel_rfl)) (by kernel_rfl) (by kernel_rfl) (by kernel_rfl) (door_metS os _)) ?_
  intro W base args ds gs before hval0 hW _ _ hL _
  have hval : ∀ (j : Nat) t v, Tryd.f5.params[j]? = some t → args[j]? = some v → Value.okWide Tryd.prog W .any base t v := hval0
  have hW' := hW
  obtain ⟨p, q, hA0, hV, rfl, hfz, hnd⟩ := hW
  have hA : DataW.TrodAll enc Tryd.prog W 0 (fun _ => true) true Tryd.f5.params.toList args.toList ds p := hA0
  rw [Tryd.params5] at hA hval
  obtain ⟨v0, vs0, d0, ds0, p0, q0, hargs, rfl, rfl, h0, r0⟩ := trodAll_cons hA
  obtain ⟨rfl, rfl, rfl⟩ := trodAll_nil r0
  obtain rfl : args = #[v0] := by cases args; simp_all
  obtain ⟨rfl, rfl⟩ := trodVars_none hV
  obtain ⟨a, rfl, rfl, rfl, ha⟩ := open_int Tryd.underlying22 (hval 0 22 v0 rfl rfl) h0
  have hTb := of_laidS hL
  clear hA0 hval0
  simp only [List.append_nil] at hW'
  refine (compSound_walk a ha W hTb).mono fun e W' ⟨he, hg0⟩ => ?_
  have hg := hg0.grown
  subst he
  exact ⟨_, rfl, post_of_same (pa := []) (pv := []) hW' (fun _ _ _ => (trodAll_cons_mk (shut_bool Tryd.underlying4 _) trodAll_mk0)) (fun sp _ => (trodAll_cons_mk (shut_int Tryd.underlying22 ha) trodAll_mk0)) (fun _ _ => rfl) rfl
    (hg.frame _) hg.2.1 (ok_one (by kernel_rfl) rfl (okWide_bool_mk Tryd.underlying4 _))⟩

theorem compSound_row : Rows.CompSoundSaid :=
  OpenClaim.holds_of_wide 5 Tryd.f5 rfl rfl rfl rfl rfl rfl rfl ⟨rfl, rfl, rfl, rfl, rfl⟩ rfl rfl rfl rfl rfl (by kernel_rfl) Tryd.func5 (by kernel_rfl)
    (of_decide_eq_true (by kernel_rfl)) (by unfold Func.isWrapper; first | (rw [if_pos (by decide +kernel)]; kernel_rfl) | (rw [if_neg (by decide +kernel)]; exact ⟨rfl, rfl⟩))
    (fun os started H enc _ => compSound_lifted os started H enc)

/-- The statement: the tied card. -/
theorem compSound_holds : Rows.CompSoundCardSaid :=
  Claim7.holds_tied_plain_at .later [] _ true _ false
    compSound_row (fun _ h => by cases h) (by kernel_rfl) (fun _ h => by cases h) compSound_row_tie rfl ⟨rfl, rfl⟩ (by kernel_rfl) rfl
    (fun f fn hf hfn => by
      obtain rfl : f = 5 := Option.some.inj ((show Tryd.prog.funcNamed "marionette/marionettelaw04.CompSound" = some 5 by kernel_rfl).symm.trans hf) |>.symm
      obtain rfl : fn = Tryd.f5 := (Option.some.inj (Tryd.func5.symm.trans hfn)).symm
      exact ⟨by kernel_rfl, fun j t ht => by
        rw [Tryd.params5] at ht
        have hm : t ∈ [22] := by simpa using Array.mem_of_getElem? ht
        have hall : ([22].all fun u => !Tryd.prog.wantsStandIn u) = true := by kernel_rfl
        exact (show Tryd.prog.wantsStandIn t = false by simpa using List.all_eq_true.1 hall t hm)⟩)
    (by kernel_rfl)
#print axioms compSound_holds
end Go.Proofs.YtfkecgidjicidaaDoor
