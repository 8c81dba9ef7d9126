/-
  CompAll, tied: all that begin with the same upper byte, which instructions they are: for every upper byte; the two arrays of operators as the text lays them.
-/
import Derived.Test.YtfkecgidjicidaaDoorCompExpands
import Derived.Test.YtfkecgidjicidaaDoorTie
import Derived.Test.YtfkecgidjicidaaDoorCards
import Derived.SevenTiedAt
set_option linter.unusedVariables false
set_option linter.unusedSimpArgs false
namespace Go.Proofs.YtfkecgidjicidaaDoor
open Go.ChangeShapes Go.WideShapes Go.ChangeAt Go.RowKit

set_option maxRecDepth 100000 in
set_option maxHeartbeats 2000001 in
/-- The law's text returns true. -/
theorem compAll_walk (a : Int) (ha : (Lit.int .u8 a).wf = true) (w : World) (hT : TabsC w) :
    Calls Tryd.prog 4 #[.int .u8 a] w fun e w' => e = .returned (.bool true) ∧ Kp none w w' := by
  obtain ⟨h0, h1⟩ := u8_bd a ha
  obtain ⟨u, rfl⟩ := Int.eq_ofNat_of_zero_le h0
  clear ha h0
  have HA := Lib.hid (fun w h => answers_any w h)
  have HT := Lib.hid hT
  have HX := Lib.hid (fun (s : Nat) (hs : s < 65536) (w : World) (h : TabsC w) => expand_any s w hs h)
  have HR := Lib.hid (fun (s : Nat) (hs : s < 65536) (w : World) => refx_any s w hs)
  clear hT
  go_enter Tryd.func4, Tryd.ntmps4
  go_wp2_with fail
  go_loopw [3] (fun i wr => ∃ k : Nat, k ≤ 256 ∧ i = .int .i64 k ∧ Kp none w wr) (fun i wr => 256 - (intOf i).toNat)
  case atStart => exact ⟨0, by omega, rfl, Kp.refl _ _⟩
  case round =>
    obtain ⟨k, hk, rfl, hKp⟩ := hrel
    have HK := Lib.hid hKp; clear hKp
    by_cases hlt : k < 256
    · have hk1 : (k : Int) < 256 := by omega
      go_wp2_with fail
      obtain ⟨H, hH⟩ : ∃ H : Nat, (u : Int) * 256 + (k : Int) = (H : Int) := ⟨u * 256 + k, by simp⟩
      have hs : H < 65536 := by omega
      rw [hH]
      have XD := Lib.hid (HX.out H hs)
      have XR := Lib.hid (HR.out H hs)
      unfold RefPost at XR
      obtain ⟨d0, d1, d2, d3, d4, d5, d6, hI⟩ := exI_form H
      rw [hI] at XD XR
      generalize exB H = B at *
      clear hI hs hH
      refine (XD.out _ (HT.out.kp HK.out)).mono ?_
      rintro e w1 ⟨rfl, k1⟩
      go_wp2_with fail
      refine (XR.out _).mono ?_
      rintro e w2 ⟨rfl, k2⟩
      have b1 := ((Has.new w1 (I7 d0 d1 d2 d3 d4 d5 d6) 24).kp k2 (by simp)).alloc (.cells (I7 d0 d1 d2 d3 d4 d5 d6) 24)
      have K2 := ((HK.out.trans k1).alloc (I7 d0 d1 d2 d3 d4 d5 d6) 24).trans k2
      have b2 := Has.new w2 (I7 d0 d1 d2 d3 d4 d5 d6) 24
      have K3 := K2.alloc (I7 d0 d1 d2 d3 d4 d5 d6) 24
      obtain ⟨p0, p1, p2, p3, p4, p5, p6⟩ := b1.seven
      obtain ⟨q0, q1, q2, q3, q4, q5, q6⟩ := b2.seven
      have HK3 := Lib.hid K3
      clear b1 b2 K2 K3 k1 k2 XD XR
      go_wp2
      go_roundw
      case rel => exact ⟨k + 1, by omega, by go_num, HK3.out⟩
      case measure => simp [intOf]; omega
    · obtain rfl : k = 256 := by omega
      go_wp2_with fail
      refine (HA.out _ (HT.out.kp HK.out)).mono ?_
      rintro e w2 ⟨rfl, k2⟩
      go_wp2
      go_ret
      exact ⟨rfl, HK.out.trans k2⟩

set_option maxRecDepth 100000 in
theorem compAll_lifted (os : Os) (started : os.Started) (H : Type) (enc : TypeId × Value → H) :
    ReturnsInHanded {} Tryd.checked os 4 .any (fun w args => (Rows.compAllSpec.pre enc Tryd.prog Tryd.f4 [] false w args ∧ laidMetH Tryd.prog laidC w) ∧ sizedMet enc Tryd.prog Tryd.f4 (OpenSpec.ofChange Rows.compAllSpec) false w args)
      (Rows.compAllSpec.post enc Tryd.prog Tryd.f4 false true false false) := by
  refine returnsInHanded_of_change_and (C := Tryd.checked) (X := fun w _ => laidMetH Tryd.prog laidC w) (fun _ _ _ hh h => h.of_heap hh) own started (by kernel_rfl) Tryd.func4
    (ChangeSpec.witness_shaped (enc := enc) (C := Tryd.checked) (os := os) (X := fun w _ => laidMetH Tryd.prog laidC w) false (World.doorLaid Tryd.prog 117 os) #[.int .u8 0] 8 rfl (World.shaped_of_RefB (by kernel_rfl) (by kernel_rfl)) (by kernel_rfl) (by kernel_rfl) (by kernel_rfl) (door_metC os _)) ?_
  intro W base args ds gs before hval0 hW _ _ hL _
  have hval : ∀ (j : Nat) t v, Tryd.f4.params[j]? = some t → args[j]? = some v → Value.okWide Tryd.prog W .any base t v := hval0
  have hW' := hW
  obtain ⟨p, q, hA0, hV, rfl, hfz, hnd⟩ := hW
  have hA : DataW.TrodAll enc Tryd.prog W 0 (fun _ => true) true Tryd.f4.params.toList args.toList ds p := hA0
  rw [Tryd.params4] at hA hval
  obtain ⟨v0, vs0, d0, ds0, p0, q0, hargs, rfl, rfl, h0, r0⟩ := trodAll_cons hA
  obtain ⟨rfl, rfl, rfl⟩ := trodAll_nil r0
  obtain rfl : args = #[v0] := by cases args; simp_all
  obtain ⟨rfl, rfl⟩ := trodVars_none hV
  obtain ⟨a, rfl, rfl, rfl, ha⟩ := open_int Tryd.underlying5 (hval 0 5 v0 rfl rfl) h0
  have hTb := of_laidC hL
  clear hA0 hval0
  simp only [List.append_nil] at hW'
  refine (compAll_walk a ha W hTb).mono fun e W' ⟨he, hg0⟩ => ?_
  have hg := hg0.grown
  subst he
  exact ⟨_, rfl, post_of_same (pa := []) (pv := []) hW' (fun _ _ _ => (trodAll_cons_mk (shut_bool Tryd.underlying4 _) trodAll_mk0)) (fun sp _ => (trodAll_cons_mk (shut_int Tryd.underlying5 ha) trodAll_mk0)) (fun _ _ => rfl) rfl
    (hg.frame _) hg.2.1 (ok_one (by kernel_rfl) rfl (okWide_bool_mk Tryd.underlying4 _))⟩

theorem compAll_row : Rows.CompAllSaid :=
  OpenClaim.holds_of_wide 4 Tryd.f4 rfl rfl rfl rfl rfl rfl rfl ⟨rfl, rfl, rfl, rfl, rfl⟩ rfl rfl rfl rfl rfl (by kernel_rfl) Tryd.func4 (by kernel_rfl)
    (of_decide_eq_true (by kernel_rfl)) (by unfold Func.isWrapper; first | (rw [if_pos (by decide +kernel)]; kernel_rfl) | (rw [if_neg (by decide +kernel)]; exact ⟨rfl, rfl⟩))
    (fun os started H enc _ => compAll_lifted os started H enc)

/-- The statement: the tied card. -/
theorem compAll_holds : Rows.CompAllCardSaid :=
  Claim7.holds_tied_plain_at .later [] _ true _ false
    compAll_row (fun _ h => by cases h) (by kernel_rfl) (fun _ h => by cases h) compAll_row_tie rfl ⟨rfl, rfl⟩ (by kernel_rfl) rfl
    (fun f fn hf hfn => by
      obtain rfl : f = 4 := Option.some.inj ((show Tryd.prog.funcNamed "marionette/marionettelaw04.CompAll" = some 4 by kernel_rfl).symm.trans hf) |>.symm
      obtain rfl : fn = Tryd.f4 := (Option.some.inj (Tryd.func4.symm.trans hfn)).symm
      exact ⟨by kernel_rfl, fun j t ht => by
        rw [Tryd.params4] at ht
        have hm : t ∈ [5] := by simpa using Array.mem_of_getElem? ht
        have hall : ([5].all fun u => !Tryd.prog.wantsStandIn u) = true := by kernel_rfl
        exact (show Tryd.prog.wantsStandIn t = false by simpa using List.all_eq_true.1 hall t hm)⟩)
    (by kernel_rfl)
#print axioms compAll_holds
end Go.Proofs.YtfkecgidjicidaaDoor
