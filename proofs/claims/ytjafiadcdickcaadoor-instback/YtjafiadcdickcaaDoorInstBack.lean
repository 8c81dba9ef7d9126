/-
  InstBack, tied: each word that is an instruction's: the instruction is sound, and its word is the same one, but of fences: for every word; the arrays of operators as the text lays them.
-/
import Derived.Test.YtjafiadcdickcaaDoorInstP
import Derived.Test.YtjafiadcdickcaaDoorTie
import Derived.Test.YtjafiadcdickcaaDoorCards
import Derived.SevenTiedAt
set_option linter.unusedVariables false
namespace Go.Proofs.YtjafiadcdickcaaDoor
open Go.ChangeShapes Go.WideShapes Go.ChangeAt Go.RowKit

set_option maxHeartbeats 1000000 in
/-- The law's text returns true. -/
theorem instBack_walk (a : Int) (ha : (Lit.int .u32 a).wf = true) (w : World) (hT : Tabs w) :
    Calls Tryd.prog 5 #[.int .u32 a] w fun e w' => e = .returned (.bool true) ∧ Kp none w w' := by
  obtain ⟨h0, h1⟩ := u32_bd a ha
  obtain ⟨s, rfl⟩ := Int.eq_ofNat_of_zero_le h0
  have hs : s < 4294967296 := by omega
  clear ha h0 h1
  have HR := Lib.hid (fun w => ref_any s w hs)
  unfold DecPost at HR
  have HA := Lib.hid (fun w h => answers_any w h)
  by_cases ho : opW s = 0
  · have e1 : decide (opW s ≠ 0) = false := by simp [ho]
    rw [e1] at HR
    clear e1 ho
    generalize dec s = D at *
    obtain ⟨d0, d1, d2, d3, d4, d5, d6⟩ := D
    go_enter Tryd.func5, Tryd.ntmps5
    go_wp2_with fail
    refine (HR.out _).mono ?_
    rintro e w1 ⟨rfl, k1⟩
    have K1 := k1.alloc (I7 d0 d1 d2 d3 d4 d5 d6) 24
    go_wp2_with fail
    refine (HA.out _ (hT.kp K1)).mono ?_
    rintro e w2 ⟨rfl, k2⟩
    go_wp2
    go_ret
    exact ⟨rfl, K1.trans k2⟩
  by_cases ho85 : opW s = 85
  · have hd := dec_fence s 85 ho85 (by decide) hs
    rw [hd, ho85] at HR
    have e1 : decide ((85 : Int) ≠ 0) = true := by decide
    rw [e1] at HR
    have HE := Lib.hid (fun w h => encode_any ⟨85, 0, 0, 0, 0, 0, 4⟩ w h)
    have HS := Lib.hid (fun w h => sound_any ⟨85, 0, 0, 0, 0, 0, 4⟩ w h)
    have HD := Lib.hid (fun w h => decode_any 267386895 w (by decide) h)
    unfold EncPost at HE
    have eB : encB ⟨85, 0, 0, 0, 0, 0, 4⟩ = true := by decide +kernel
    have eS : encS ⟨85, 0, 0, 0, 0, 0, 4⟩ = 267386895 := by decide +kernel
    have eD : dec 267386895 = ⟨85, 0, 0, 0, 0, 0, 4⟩ := by decide +kernel
    have eO : decide (opW 267386895 ≠ 0) = true := by decide +kernel
    rw [eB, if_pos rfl, eS] at HE
    rw [eB] at HS
    rw [eD, eO] at HD
    clear eB eS eD eO hd ho85 ho e1
    go_enter Tryd.func5, Tryd.ntmps5
    go_wp2_with fail
    refine (HR.out _).mono ?_
    rintro e w1 ⟨rfl, k1⟩
    have K1 := k1.alloc (I7 85 0 0 0 0 0 4) 24
    have b1 := Has.new w1 (I7 85 0 0 0 0 0 4) 24
    go_wp2_with fail
    refine (HE.out _ (hT.kp K1)).mono ?_
    rintro e w2 ⟨rfl, k2⟩
    have K2 := K1.trans k2
    have b2 := b1.kp k2 (by simp)
    go_wp2_with fail
    refine (HD.out _ (hT.kp K2)).mono ?_
    rintro e w3 ⟨rfl, k3⟩
    have K3 := (K2.trans k3).alloc (I7 85 0 0 0 0 0 4) 24
    have b3 := (b2.kp k3 (by simp)).alloc (.cells (I7 85 0 0 0 0 0 4) 24)
    have c3 := Has.new w3 (I7 85 0 0 0 0 0 4) 24
    go_wp2_with fail
    refine (HA.out _ (hT.kp K3)).mono ?_
    rintro e w4 ⟨rfl, k4⟩
    have K4 := K3.trans k4
    have b4 := b3.kp k4 (by simp)
    obtain ⟨p0, p1, p2, p3, p4, p5, p6⟩ := b4.seven
    obtain ⟨q0, q1, q2, q3, q4, q5, q6⟩ := (c3.kp k4 (by simp)).seven
    clear k1 k2 k3 k4 K1 K2 K3 b1 b2 b3 c3
    go_wp2_with fail
    refine (HS.out _ (hT.kp K4)).mono ?_
    rintro e w5 ⟨rfl, k5⟩
    have K5 := K4.trans k5
    clear p0 p1 p2 p3 p4 p5 p6 q0 q1 q2 q3 q4 q5 q6
    obtain ⟨p0, p1, p2, p3, p4, p5, p6⟩ := (b4.kp k5 (by simp)).seven
    clear b4 K4 k5
    go_wp2
    go_ret
    exact ⟨rfl, K5⟩
  by_cases ho86 : opW s = 86
  · have hd := dec_fence s 86 ho86 (by decide) hs
    rw [hd, ho86] at HR
    have e1 : decide ((86 : Int) ≠ 0) = true := by decide
    rw [e1] at HR
    have HE := Lib.hid (fun w h => encode_any ⟨86, 0, 0, 0, 0, 0, 4⟩ w h)
    have HS := Lib.hid (fun w h => sound_any ⟨86, 0, 0, 0, 0, 0, 4⟩ w h)
    have HD := Lib.hid (fun w h => decode_any 4111 w (by decide) h)
    unfold EncPost at HE
    have eB : encB ⟨86, 0, 0, 0, 0, 0, 4⟩ = true := by decide +kernel
    have eS : encS ⟨86, 0, 0, 0, 0, 0, 4⟩ = 4111 := by decide +kernel
    have eD : dec 4111 = ⟨86, 0, 0, 0, 0, 0, 4⟩ := by decide +kernel
    have eO : decide (opW 4111 ≠ 0) = true := by decide +kernel
    rw [eB, if_pos rfl, eS] at HE
    rw [eB] at HS
    rw [eD, eO] at HD
    clear eB eS eD eO hd ho86 ho e1
    go_enter Tryd.func5, Tryd.ntmps5
    go_wp2_with fail
    refine (HR.out _).mono ?_
    rintro e w1 ⟨rfl, k1⟩
    have K1 := k1.alloc (I7 86 0 0 0 0 0 4) 24
    have b1 := Has.new w1 (I7 86 0 0 0 0 0 4) 24
    go_wp2_with fail
    refine (HE.out _ (hT.kp K1)).mono ?_
    rintro e w2 ⟨rfl, k2⟩
    have K2 := K1.trans k2
    have b2 := b1.kp k2 (by simp)
    go_wp2_with fail
    refine (HD.out _ (hT.kp K2)).mono ?_
    rintro e w3 ⟨rfl, k3⟩
    have K3 := (K2.trans k3).alloc (I7 86 0 0 0 0 0 4) 24
    have b3 := (b2.kp k3 (by simp)).alloc (.cells (I7 86 0 0 0 0 0 4) 24)
    have c3 := Has.new w3 (I7 86 0 0 0 0 0 4) 24
    go_wp2_with fail
    refine (HA.out _ (hT.kp K3)).mono ?_
    rintro e w4 ⟨rfl, k4⟩
    have K4 := K3.trans k4
    have b4 := b3.kp k4 (by simp)
    obtain ⟨p0, p1, p2, p3, p4, p5, p6⟩ := b4.seven
    obtain ⟨q0, q1, q2, q3, q4, q5, q6⟩ := (c3.kp k4 (by simp)).seven
    clear k1 k2 k3 k4 K1 K2 K3 b1 b2 b3 c3
    go_wp2_with fail
    refine (HS.out _ (hT.kp K4)).mono ?_
    rintro e w5 ⟨rfl, k5⟩
    have K5 := K4.trans k5
    clear p0 p1 p2 p3 p4 p5 p6 q0 q1 q2 q3 q4 q5 q6
    obtain ⟨p0, p1, p2, p3, p4, p5, p6⟩ := (b4.kp k5 (by simp)).seven
    clear b4 K4 k5
    go_wp2
    go_ret
    exact ⟨rfl, K5⟩
  have eS := back_eq s hs ho ho85 ho86
  have hop := dec_op ho
  have eB : encB (dec s) = true := by unfold encB; rw [eS]; exact decide_eq_true ⟨ho, rfl⟩
  have HE := Lib.hid (fun w h => encode_any (dec s) w h)
  have HS := Lib.hid (fun w h => sound_any (dec s) w h)
  have HD := Lib.hid (fun w h => decode_any s w hs h)
  unfold EncPost at HE
  have eO : decide (opW s ≠ 0) = true := by simp [ho]
  rw [eB, if_pos rfl, eS] at HE
  rw [eB] at HS
  rw [eO] at HD HR
  have n85 : ((dec s).op == 85) = false := by rw [hop]; simpa using ho85
  have n86 : ((dec s).op == 86) = false := by rw [hop]; simpa using ho86
  clear eB eS eO hop ho ho85 ho86
  generalize dec s = D at *
  obtain ⟨d0, d1, d2, d3, d4, d5, d6⟩ := D
  simp only at n85 n86
  go_enter Tryd.func5, Tryd.ntmps5
  go_wp2_with fail
  refine (HR.out _).mono ?_
  rintro e w1 ⟨rfl, k1⟩
  have K1 := k1.alloc (I7 d0 d1 d2 d3 d4 d5 d6) 24
  have b1 := Has.new w1 (I7 d0 d1 d2 d3 d4 d5 d6) 24
  go_wp2_with fail
  refine (HE.out _ (hT.kp K1)).mono ?_
  rintro e w2 ⟨rfl, k2⟩
  have K2 := K1.trans k2
  have b2 := b1.kp k2 (by simp)
  go_wp2_with fail
  refine (HD.out _ (hT.kp K2)).mono ?_
  rintro e w3 ⟨rfl, k3⟩
  have K3 := (K2.trans k3).alloc (I7 d0 d1 d2 d3 d4 d5 d6) 24
  have b3 := (b2.kp k3 (by simp)).alloc (.cells (I7 d0 d1 d2 d3 d4 d5 d6) 24)
  have c3 := Has.new w3 (I7 d0 d1 d2 d3 d4 d5 d6) 24
  go_wp2_with fail
  refine (HA.out _ (hT.kp K3)).mono ?_
  rintro e w4 ⟨rfl, k4⟩
  have K4 := K3.trans k4
  have b4 := b3.kp k4 (by simp)
  obtain ⟨p0, p1, p2, p3, p4, p5, p6⟩ := b4.seven
  obtain ⟨q0, q1, q2, q3, q4, q5, q6⟩ := (c3.kp k4 (by simp)).seven
  clear k1 k2 k3 k4 K1 K2 K3 b1 b2 b3 c3
  go_wp2_with fail
  refine (HS.out _ (hT.kp K4)).mono ?_
  rintro e w5 ⟨rfl, k5⟩
  have K5 := K4.trans k5
  clear p0 p1 p2 p3 p4 p5 p6 q0 q1 q2 q3 q4 q5 q6
  obtain ⟨p0, p1, p2, p3, p4, p5, p6⟩ := (b4.kp k5 (by simp)).seven
  clear b4 K4 k5
  go_wp2
  go_ret
  exact ⟨rfl, K5⟩

set_option maxRecDepth 100000 in
theorem instBack_lifted (os : Os) (started : os.Started) (H : Type) (enc : TypeId × Value → H) :
    ReturnsInHanded {} Tryd.checked os 5 .any (fun w args => (Rows.instBackSpec.pre enc Tryd.prog Tryd.f5 [] false w args ∧ laidMetH Tryd.prog laidL w) ∧ sizedMet enc Tryd.prog Tryd.f5 (OpenSpec.ofChange Rows.instBackSpec) false w args)
      (Rows.instBackSpec.post enc Tryd.prog Tryd.f5 false true false false) := by
  refine returnsInHanded_of_change_and (C := Tryd.checked) (X := fun w _ => laidMetH Tryd.prog laidL w) (fun _ _ _ hh h => h.of_heap hh) own started (by kernel_rfl) Tryd.func5
    (ChangeSpec.witness_shaped (enc := enc) (C := Tryd.checked) (os := os) (X := fun w _ => laidMetH Tryd.prog laidL w) false (World.doorLaid Tryd.prog 104 os) #[.int .u32 0] 8 rfl (World.shaped_of_RefB (by kernel_rfl) (by kernel_rfl)) (by kernel_rfl) (by kernel_rfl) (by kernel_rfl) (door_met os _)) ?_
  intro W base args ds gs before hval0 hW _ _ hL _
  have hval : ∀ (j : Nat) t v, Tryd.f5.params[j]? = some t → args[j]? = some v → Value.okWide Tryd.prog W .any base t v := hval0
  have hW' := hW
  obtain ⟨p, q, hA0, hV, rfl, hfz, hnd⟩ := hW
  have hA : DataW.TrodAll enc Tryd.prog W 0 (fun _ => true) true Tryd.f5.params.toList args.toList ds p := hA0
  rw [Tryd.params5] at hA hval
  obtain ⟨v0, vs0, d0, ds0, p0, q0, hargs, rfl, rfl, h0, r0⟩ := trodAll_cons hA
  obtain ⟨rfl, rfl, rfl⟩ := trodAll_nil r0
  obtain rfl : args = #[v0] := by cases args; simp_all
  obtain ⟨rfl, rfl⟩ := trodVars_none hV
  obtain ⟨a, rfl, rfl, rfl, ha⟩ := open_int Tryd.underlying22 (hval 0 22 v0 rfl rfl) h0
  have hTb := of_laid hL
  clear hA0 hval0
  simp only [List.append_nil] at hW'
  refine (instBack_walk a ha W hTb).mono fun e W' ⟨he, hg0⟩ => ?_
  have hg := hg0.grown
  subst he
  exact ⟨_, rfl, post_of_same (pa := []) (pv := []) hW' (fun _ _ _ => (trodAll_cons_mk (shut_bool Tryd.underlying4 _) trodAll_mk0)) (fun sp _ => (trodAll_cons_mk (shut_int Tryd.underlying22 ha) trodAll_mk0)) (fun _ _ => rfl) rfl
    (hg.frame _) hg.2.1 (ok_one (by kernel_rfl) rfl (okWide_bool_mk Tryd.underlying4 _))⟩

theorem instBack_row : Rows.InstBackSaid :=
  OpenClaim.holds_of_wide 5 Tryd.f5 rfl rfl rfl rfl rfl rfl rfl ⟨rfl, rfl, rfl, rfl, rfl⟩ rfl rfl rfl rfl rfl (by kernel_rfl) Tryd.func5 (by kernel_rfl)
    (of_decide_eq_true (by kernel_rfl)) (by unfold Func.isWrapper; first | (rw [if_pos (by decide +kernel)]; kernel_rfl) | (rw [if_neg (by decide +kernel)]; exact ⟨rfl, rfl⟩))
    (fun os started H enc _ => instBack_lifted os started H enc)

/-- The statement: the tied card. -/
theorem instBack_holds : Rows.InstBackCardSaid :=
  Claim7.holds_tied_plain_at .later [] _ true _ false
    instBack_row (fun _ h => by cases h) (by kernel_rfl) (fun _ h => by cases h) instBack_row_tie rfl ⟨rfl, rfl⟩ (by kernel_rfl) rfl
    (fun f fn hf hfn => by
      obtain rfl : f = 5 := Option.some.inj ((show Tryd.prog.funcNamed "marionette/marionettelaw03.InstBack" = some 5 by kernel_rfl).symm.trans hf) |>.symm
      obtain rfl : fn = Tryd.f5 := (Option.some.inj (Tryd.func5.symm.trans hfn)).symm
      exact ⟨by kernel_rfl, fun j t ht => by
        rw [Tryd.params5] at ht
        have hm : t ∈ [22] := by simpa using Array.mem_of_getElem? ht
        have hall : ([22].all fun u => !Tryd.prog.wantsStandIn u) = true := by kernel_rfl
        exact (show Tryd.prog.wantsStandIn t = false by simpa using List.all_eq_true.1 hall t hm)⟩)
    (by kernel_rfl)
#print axioms instBack_holds
end Go.Proofs.YtjafiadcdickcaaDoor
