/-
  InstEncodes, tied: an instruction that has a word is what this word is; one that has none is no word's: for every seven numbers; the arrays of operators as the text lays them.
-/
import Derived.Test.YtjafiadcdickcaaDoorFacts
import Derived.Test.YtjafiadcdickcaaDoorTie
import Derived.Test.YtjafiadcdickcaaDoorCards
import Derived.SevenTiedAt
set_option linter.unusedVariables false
namespace Go.Proofs.YtjafiadcdickcaaDoor
open Go.ChangeShapes Go.WideShapes Go.ChangeAt Go.RowKit

set_option maxHeartbeats 1000000 in
/-- The law's text returns true. -/
theorem instEncodes_walk (i : Ins) (hi : i.Fits) (w : World) (hT : Tabs w) :
    Calls Tryd.prog 4 #[.agg i.cells] w fun e w' => e = .returned (.bool true) ∧ Kp none w w' := by
  have k0 := (Kp.refl none w).alloc i.cells 24
  have b0 := Has.new w i.cells 24
  have HE := Lib.hid (encode_any i _ (hT.kp k0))
  have HS := Lib.hid (fun w h => sound_any i w h)
  have HA := Lib.hid (fun w h => answers_any w h)
  unfold EncPost at HE
  cases hB : encB i with
  | false =>
    rw [hB] at HE HS
    obtain ⟨op, rd, r1, r2, im, od, sz⟩ := i
    clear hB hi
    go_enter Tryd.func4, Tryd.ntmps4
    go_wp2_with fail
    refine HE.out.mono ?_
    rintro e w1 ⟨rfl, k1⟩
    have K1 := k0.trans k1
    have b1 := b0.kp k1 (by simp)
    go_wp2_with fail
    refine (HA.out _ (hT.kp K1)).mono ?_
    rintro e w2 ⟨rfl, k2⟩
    have K2 := K1.trans k2
    obtain ⟨p0, p1, p2, p3, p4, p5, p6⟩ := (b1.kp k2 (by simp)).seven
    clear k0 k1 k2 b0 b1 K1
    go_wp2_with fail
    refine (HS.out _ (hT.kp K2)).mono ?_
    rintro e w3 ⟨rfl, k3⟩
    go_wp2
    go_ret
    exact ⟨rfl, K2.trans k3⟩
  | true =>
    rw [hB] at HE HS
    obtain ⟨ho, hd⟩ := enc_true hB
    have HR := Lib.hid (fun w => ref_any (encS i) w (encS_lt i))
    unfold DecPost at HR
    rw [hd, decide_eq_true ho] at HR
    rw [if_pos rfl] at HE
    generalize encS i = v at *
    obtain ⟨op, rd, r1, r2, im, od, sz⟩ := i
    clear hB hi hd ho
    go_enter Tryd.func4, Tryd.ntmps4
    go_wp2_with fail
    refine HE.out.mono ?_
    rintro e w1 ⟨rfl, k1⟩
    have K1 := k0.trans k1
    have b1 := b0.kp k1 (by simp)
    go_wp2_with fail
    refine (HA.out _ (hT.kp K1)).mono ?_
    rintro e w2 ⟨rfl, k2⟩
    have K2 := K1.trans k2
    have b2 := b1.kp k2 (by simp)
    obtain ⟨p0, p1, p2, p3, p4, p5, p6⟩ := b2.seven
    clear k0 k1 k2 b0 b1 K1
    go_wp2_with fail
    refine (HS.out _ (hT.kp K2)).mono ?_
    rintro e w3 ⟨rfl, k3⟩
    have K3 := K2.trans k3
    have b3 := b2.kp k3 (by simp)
    go_wp2_with fail
    refine (HR.out _).mono ?_
    rintro e w4 ⟨rfl, k4⟩
    have K4 := K3.trans k4
    have b4 := b3.kp k4 (by simp)
    clear p0 p1 p2 p3 p4 p5 p6 K2 k3 b2 b3 K3 k4
    have n0 : ∀ o, (w4.alloc o).cell? ⟨w.heap.size, 0, none⟩ = some (.int .i64 op) := fun o => (b4.alloc o).cell 0
    have n1 : ∀ o, (w4.alloc o).cell? ⟨w.heap.size, 1, none⟩ = some (.int .i64 rd) := fun o => (b4.alloc o).cell 1
    have n2 : ∀ o, (w4.alloc o).cell? ⟨w.heap.size, 2, none⟩ = some (.int .i64 r1) := fun o => (b4.alloc o).cell 2
    have n3 : ∀ o, (w4.alloc o).cell? ⟨w.heap.size, 3, none⟩ = some (.int .i64 r2) := fun o => (b4.alloc o).cell 3
    have n4 : ∀ o, (w4.alloc o).cell? ⟨w.heap.size, 4, none⟩ = some (.int .i64 im) := fun o => (b4.alloc o).cell 4
    have n5 : ∀ o, (w4.alloc o).cell? ⟨w.heap.size, 5, none⟩ = some (.int .i64 od) := fun o => (b4.alloc o).cell 5
    have n6 : ∀ o, (w4.alloc o).cell? ⟨w.heap.size, 6, none⟩ = some (.int .i64 sz) := fun o => (b4.alloc o).cell 6
    go_wp2
    go_ret
    exact ⟨rfl, K4.alloc _ _⟩

set_option maxRecDepth 100000 in
theorem instEncodes_lifted (os : Os) (started : os.Started) (H : Type) (enc : TypeId × Value → H) :
    ReturnsInHanded {} Tryd.checked os 4 .any (fun w args => (Rows.instEncodesSpec.pre enc Tryd.prog Tryd.f4 [] false w args ∧ laidMetH Tryd.prog laidL w) ∧ sizedMet enc Tryd.prog Tryd.f4 (OpenSpec.ofChange Rows.instEncodesSpec) false w args)
      (Rows.instEncodesSpec.post enc Tryd.prog Tryd.f4 false true false false) := by
  refine returnsInHanded_of_change_and (C := Tryd.checked) (X := fun w _ => laidMetH Tryd.prog laidL w) (fun _ _ _ hh h => h.of_heap hh) own started (by kernel_rfl) Tryd.func4
    (ChangeSpec.witness_shaped (enc := enc) (C := Tryd.checked) (os := os) (X := fun w _ => laidMetH Tryd.prog laidL w) false (World.doorLaid Tryd.prog 104 os) #[.agg (I7 0 0 0 0 0 0 0)] 8 rfl (World.shaped_of_RefB (by kernel_rfl) (by kernel_rfl)) (by kernel_rfl) (by kernel_rfl) (by kernel_rfl) (door_met os _)) ?_
  intro W base args ds gs before hval0 hW _ _ hL _
  have hval : ∀ (j : Nat) t v, Tryd.f4.params[j]? = some t → args[j]? = some v → Value.okWide Tryd.prog W .any base t v := hval0
  have hW' := hW
  obtain ⟨p, q, hA0, hV, rfl, hfz, hnd⟩ := hW
  have hA : DataW.TrodAll enc Tryd.prog W 0 (fun _ => true) true Tryd.f4.params.toList args.toList ds p := hA0
  rw [Tryd.params4] at hA hval
  obtain ⟨v0, vs0, d0, ds0, p0, q0, hargs, rfl, rfl, h0, r0⟩ := trodAll_cons hA
  obtain ⟨rfl, rfl, rfl⟩ := trodAll_nil r0
  obtain rfl : args = #[v0] := by cases args; simp_all
  obtain ⟨rfl, rfl⟩ := trodVars_none hV
  obtain ⟨i, hi, rfl, rfl, rfl⟩ := open_inst (hval 0 24 v0 rfl rfl) h0
  have hTb := of_laid hL
  clear hA0 hval0
  simp only [List.append_nil] at hW'
  refine (instEncodes_walk i hi W hTb).mono fun e W' ⟨he, hg0⟩ => ?_
  have hg := hg0.grown
  subst he
  exact ⟨_, rfl, post_of_same (pa := []) (pv := []) hW' (fun _ _ _ => (trodAll_cons_mk (shut_bool Tryd.underlying4 _) trodAll_mk0)) (fun sp _ => (trodAll_cons_mk (shut_inst hi) trodAll_mk0)) (fun _ _ => rfl) rfl
    (hg.frame _) hg.2.1 (ok_one (by kernel_rfl) rfl (okWide_bool_mk Tryd.underlying4 _))⟩

theorem instEncodes_row : Rows.InstEncodesSaid :=
  OpenClaim.holds_of_wide 4 Tryd.f4 rfl rfl rfl rfl rfl rfl rfl ⟨rfl, rfl, rfl, rfl, rfl⟩ rfl rfl rfl rfl rfl (by kernel_rfl) Tryd.func4 (by kernel_rfl)
    (of_decide_eq_true (by kernel_rfl)) (by unfold Func.isWrapper; first | (rw [if_pos (by decide +kernel)]; kernel_rfl) | (rw [if_neg (by decide +kernel)]; exact ⟨rfl, rfl⟩))
    (fun os started H enc _ => instEncodes_lifted os started H enc)

/-- The statement: the tied card. -/
theorem instEncodes_holds : Rows.InstEncodesCardSaid :=
  Claim7.holds_tied_plain_at .later [] _ true _ false
    instEncodes_row (fun _ h => by cases h) (by kernel_rfl) (fun _ h => by cases h) instEncodes_row_tie rfl ⟨rfl, rfl⟩ (by kernel_rfl) rfl
    (fun f fn hf hfn => by
      obtain rfl : f = 4 := Option.some.inj ((show Tryd.prog.funcNamed "marionette/marionettelaw03.InstEncodes" = some 4 by kernel_rfl).symm.trans hf) |>.symm
      obtain rfl : fn = Tryd.f4 := (Option.some.inj (Tryd.func4.symm.trans hfn)).symm
      exact ⟨by kernel_rfl, fun j t ht => by
        rw [Tryd.params4] at ht
        have hm : t ∈ [24] := by simpa using Array.mem_of_getElem? ht
        have hall : ([24].all fun u => !Tryd.prog.wantsStandIn u) = true := by kernel_rfl
        exact (show Tryd.prog.wantsStandIn t = false by simpa using List.all_eq_true.1 hall t hm)⟩)
    (by kernel_rfl)
#print axioms instEncodes_holds
end Go.Proofs.YtjafiadcdickcaaDoor
