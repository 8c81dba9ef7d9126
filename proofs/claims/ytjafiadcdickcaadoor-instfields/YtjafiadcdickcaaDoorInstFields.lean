/-
  InstFields, tied: registers out of their range, immediates that are too far, odd, or not of whole pages, another size, and fields that an instruction does not have are not sound: for every word, choice and number; the arrays of operators as the text lays them.
-/
import Derived.Test.YtjafiadcdickcaaDoorFacts
import Derived.Test.YtjafiadcdickcaaDoorTie
import Derived.Test.YtjafiadcdickcaaDoorCards
import Derived.SevenTiedAt
set_option linter.unusedVariables false
namespace Go.Proofs.YtjafiadcdickcaaDoor
open Go.ChangeShapes Go.WideShapes Go.ChangeAt Go.RowKit

set_option maxHeartbeats 1000000 in
/-- The law's text returns true. -/
theorem instFields_walk (a : Int) (ha : (Lit.int .u32 a).wf = true) (b : Int) (hb : (Lit.int .u8 b).wf = true) (far : Int) (hfar : (Lit.int .i64 far).wf = true) (w : World) (hT : Tabs w) :
    Calls Tryd.prog 6 #[.int .u32 a, .int .u8 b, .int .i64 far] w fun e w' => e = .returned (.bool true) ∧ Kp none w w' := by
  obtain ⟨h0, h1⟩ := u32_bd a ha
  obtain ⟨s, rfl⟩ := Int.eq_ofNat_of_zero_le h0
  have hs : s < 4294967296 := by omega
  clear ha h0 h1
  have HR := Lib.hid (fun w => ref_any s w hs)
  unfold DecPost at HR
  have HA := Lib.hid (fun w h => answers_any w h)
  by_cases ho : opW s = 0
  · have e1 : decide (opW s ≠ 0) = false := by simp [ho]
    rw [e1] at HR
    clear e1 ho
    generalize dec s = D at *
    obtain ⟨d0, d1, d2, d3, d4, d5, d6⟩ := D
    go_enter Tryd.func6, Tryd.ntmps6
    go_wp2_with fail
    refine (HR.out _).mono ?_
    rintro e w1 ⟨rfl, k1⟩
    have K1 := k1.alloc (I7 d0 d1 d2 d3 d4 d5 d6) 24
    go_wp2_with fail
    refine (HA.out _ (hT.kp K1)).mono ?_
    rintro e w2 ⟨rfl, k2⟩
    have K2 := K1.trans k2
    go_wp2_with fail
    refine (HA.out _ (hT.kp K2)).mono ?_
    rintro e w3 ⟨rfl, k3⟩
    go_wp2
    go_ret
    exact ⟨rfl, K2.trans k3⟩
  have e1 : decide (opW s ≠ 0) = true := by simp [ho]
  have hI := dec_in ho
  rw [e1] at HR
  clear e1 ho
  generalize dec s = D at *
  obtain ⟨d0, d1, d2, d3, d4, d5, d6⟩ := D
  obtain ⟨i1, i2, i3, i4, i5, i6, i7, i8, i9⟩ := hI
  simp only at i1 i2 i3 i4 i5 i6 i7 i8 i9
  obtain ⟨hb0, hb1⟩ := u8_bd b hb
  clear hb i9
  have hk : b % 6 = 0 ∨ b % 6 = 1 ∨ b % 6 = 2 ∨ b % 6 = 3 ∨ b % 6 = 4 ∨ b % 6 = 5 := by omega
  rcases hk with hk | hk | hk | hk | hk | hk
  · have hf : encB ⟨d0, d1 + 32, d2, d3, d4, d5, d6⟩ = false := enc_false (fun h => by have h1 := h.rd1; simp at h1 <;> omega)
    have HE := Lib.hid (fun w h => encode_any ⟨d0, d1 + 32, d2, d3, d4, d5, d6⟩ w h)
    unfold EncPost at HE
    rw [hf] at HE
    clear hf
    have hm6 : b % 6 = 0 := hk
    have hm7 : b.tmod 6 = 0 := by rw [Int.tmod_eq_emod_of_nonneg hb0]; exact hk
    clear hk
    go_enter Tryd.func6, Tryd.ntmps6
    go_wp2_with fail
    refine (HR.out _).mono ?_
    rintro e w1 ⟨rfl, k1⟩
    have K1 := k1.alloc (I7 d0 d1 d2 d3 d4 d5 d6) 24
    have b1 := Has.new w1 (I7 d0 d1 d2 d3 d4 d5 d6) 24
    go_wp2_with fail
    refine (HA.out _ (hT.kp K1)).mono ?_
    rintro e w2 ⟨rfl, k2⟩
    have K2 := K1.trans k2
    have b2 := b1.kp k2 (by simp)
    obtain ⟨p0, p1, p2, p3, p4, p5, p6⟩ := b2.seven
    clear k1 K1 b1 k2
    have K3 := K2.alloc (I7 d0 (d1 + 32) d2 d3 d4 d5 d6) 24
    have b3 := Has.new w2 (I7 d0 (d1 + 32) d2 d3 d4 d5 d6) 24
    go_wp2_with fail
    refine (HE.out _ (hT.kp K3)).mono ?_
    rintro e w3 ⟨rfl, k3⟩
    have K4 := K3.trans k3
    go_wp2
    go_ret
    exact ⟨rfl, K4⟩
  · have hf : encB ⟨d0, d1, -1, d3, d4, d5, d6⟩ = false := enc_false (fun h => by have h1 := h.r10; simp at h1 <;> omega)
    have HE := Lib.hid (fun w h => encode_any ⟨d0, d1, -1, d3, d4, d5, d6⟩ w h)
    unfold EncPost at HE
    rw [hf] at HE
    clear hf
    have hm6 : b % 6 = 1 := hk
    have hm7 : b.tmod 6 = 1 := by rw [Int.tmod_eq_emod_of_nonneg hb0]; exact hk
    clear hk
    go_enter Tryd.func6, Tryd.ntmps6
    go_wp2_with fail
    refine (HR.out _).mono ?_
    rintro e w1 ⟨rfl, k1⟩
    have K1 := k1.alloc (I7 d0 d1 d2 d3 d4 d5 d6) 24
    have b1 := Has.new w1 (I7 d0 d1 d2 d3 d4 d5 d6) 24
    go_wp2_with fail
    refine (HA.out _ (hT.kp K1)).mono ?_
    rintro e w2 ⟨rfl, k2⟩
    have K2 := K1.trans k2
    have b2 := b1.kp k2 (by simp)
    obtain ⟨p0, p1, p2, p3, p4, p5, p6⟩ := b2.seven
    clear k1 K1 b1 k2
    have K3 := K2.alloc (I7 d0 d1 (-1) d3 d4 d5 d6) 24
    have b3 := Has.new w2 (I7 d0 d1 (-1) d3 d4 d5 d6) 24
    go_wp2_with fail
    refine (HE.out _ (hT.kp K3)).mono ?_
    rintro e w3 ⟨rfl, k3⟩
    have K4 := K3.trans k3
    go_wp2
    go_ret
    exact ⟨rfl, K4⟩
  · have hf : encB ⟨d0, d1, d2, 32 + d3, d4, d5, d6⟩ = false := enc_false (fun h => by have h1 := h.r21; simp at h1 <;> omega)
    have HE := Lib.hid (fun w h => encode_any ⟨d0, d1, d2, 32 + d3, d4, d5, d6⟩ w h)
    unfold EncPost at HE
    rw [hf] at HE
    clear hf
    have hm6 : b % 6 = 2 := hk
    have hm7 : b.tmod 6 = 2 := by rw [Int.tmod_eq_emod_of_nonneg hb0]; exact hk
    clear hk
    go_enter Tryd.func6, Tryd.ntmps6
    go_wp2_with fail
    refine (HR.out _).mono ?_
    rintro e w1 ⟨rfl, k1⟩
    have K1 := k1.alloc (I7 d0 d1 d2 d3 d4 d5 d6) 24
    have b1 := Has.new w1 (I7 d0 d1 d2 d3 d4 d5 d6) 24
    go_wp2_with fail
    refine (HA.out _ (hT.kp K1)).mono ?_
    rintro e w2 ⟨rfl, k2⟩
    have K2 := K1.trans k2
    have b2 := b1.kp k2 (by simp)
    obtain ⟨p0, p1, p2, p3, p4, p5, p6⟩ := b2.seven
    clear k1 K1 b1 k2
    have K3 := K2.alloc (I7 d0 d1 d2 (32 + d3) d4 d5 d6) 24
    have b3 := Has.new w2 (I7 d0 d1 d2 (32 + d3) d4 d5 d6) 24
    go_wp2_with fail
    refine (HE.out _ (hT.kp K3)).mono ?_
    rintro e w3 ⟨rfl, k3⟩
    have K4 := K3.trans k3
    go_wp2
    go_ret
    exact ⟨rfl, K4⟩
  · have hf : encB ⟨d0, d1, d2, d3, d4, d5, 2⟩ = false := enc_false (fun h => by have h1 := h.sz; simp at h1 <;> omega)
    have HE := Lib.hid (fun w h => encode_any ⟨d0, d1, d2, d3, d4, d5, 2⟩ w h)
    unfold EncPost at HE
    rw [hf] at HE
    clear hf
    have hm6 : b % 6 = 3 := hk
    have hm7 : b.tmod 6 = 3 := by rw [Int.tmod_eq_emod_of_nonneg hb0]; exact hk
    clear hk
    go_enter Tryd.func6, Tryd.ntmps6
    go_wp2_with fail
    refine (HR.out _).mono ?_
    rintro e w1 ⟨rfl, k1⟩
    have K1 := k1.alloc (I7 d0 d1 d2 d3 d4 d5 d6) 24
    have b1 := Has.new w1 (I7 d0 d1 d2 d3 d4 d5 d6) 24
    go_wp2_with fail
    refine (HA.out _ (hT.kp K1)).mono ?_
    rintro e w2 ⟨rfl, k2⟩
    have K2 := K1.trans k2
    have b2 := b1.kp k2 (by simp)
    obtain ⟨p0, p1, p2, p3, p4, p5, p6⟩ := b2.seven
    clear k1 K1 b1 k2
    have K3 := K2.alloc (I7 d0 d1 d2 d3 d4 d5 2) 24
    have b3 := Has.new w2 (I7 d0 d1 d2 d3 d4 d5 2) 24
    go_wp2_with fail
    refine (HE.out _ (hT.kp K3)).mono ?_
    rintro e w3 ⟨rfl, k3⟩
    have K4 := K3.trans k3
    go_wp2
    go_ret
    exact ⟨rfl, K4⟩
  · have hf : encB ⟨d0, d1, d2, d3, d4, 4, d6⟩ = false := enc_false (fun h => by have h1 := h.od1; simp at h1 <;> omega)
    have HE := Lib.hid (fun w h => encode_any ⟨d0, d1, d2, d3, d4, 4, d6⟩ w h)
    unfold EncPost at HE
    rw [hf] at HE
    clear hf
    have hm6 : b % 6 = 4 := hk
    have hm7 : b.tmod 6 = 4 := by rw [Int.tmod_eq_emod_of_nonneg hb0]; exact hk
    clear hk
    go_enter Tryd.func6, Tryd.ntmps6
    go_wp2_with fail
    refine (HR.out _).mono ?_
    rintro e w1 ⟨rfl, k1⟩
    have K1 := k1.alloc (I7 d0 d1 d2 d3 d4 d5 d6) 24
    have b1 := Has.new w1 (I7 d0 d1 d2 d3 d4 d5 d6) 24
    go_wp2_with fail
    refine (HA.out _ (hT.kp K1)).mono ?_
    rintro e w2 ⟨rfl, k2⟩
    have K2 := K1.trans k2
    have b2 := b1.kp k2 (by simp)
    obtain ⟨p0, p1, p2, p3, p4, p5, p6⟩ := b2.seven
    clear k1 K1 b1 k2
    have K3 := K2.alloc (I7 d0 d1 d2 d3 d4 4 d6) 24
    have b3 := Has.new w2 (I7 d0 d1 d2 d3 d4 4 d6) 24
    go_wp2_with fail
    refine (HE.out _ (hT.kp K3)).mono ?_
    rintro e w3 ⟨rfl, k3⟩
    have K4 := K3.trans k3
    go_wp2
    go_ret
    exact ⟨rfl, K4⟩
  · have HE := Lib.hid (fun w h => encode_any ⟨d0, d1, d2, d3, far, d5, d6⟩ w h)
    unfold EncPost at HE
    have hm6 : b % 6 = 5 := hk
    have hm7 : b.tmod 6 = 5 := by rw [Int.tmod_eq_emod_of_nonneg hb0]; exact hk
    clear hk
    cases hB : encB ⟨d0, d1, d2, d3, far, d5, d6⟩ with
    | false =>
      rw [hB] at HE
      have HQ := Lib.hid (fun w => ref_any 0 w (by decide))
      unfold DecPost at HQ
      clear hB
      generalize dec 0 = E at *
      generalize decide (opW 0 ≠ 0) = F at *
      obtain ⟨e0, e1, e2, e3, e4, e5, e6⟩ := E
      go_enter Tryd.func6, Tryd.ntmps6
      go_wp2_with fail
      refine (HR.out _).mono ?_
      rintro e w1 ⟨rfl, k1⟩
      have K1 := k1.alloc (I7 d0 d1 d2 d3 d4 d5 d6) 24
      have b1 := Has.new w1 (I7 d0 d1 d2 d3 d4 d5 d6) 24
      go_wp2_with fail
      refine (HA.out _ (hT.kp K1)).mono ?_
      rintro e w2 ⟨rfl, k2⟩
      have K2 := K1.trans k2
      have b2 := b1.kp k2 (by simp)
      obtain ⟨p0, p1, p2, p3, p4, p5, p6⟩ := b2.seven
      clear k1 K1 b1 k2
      have K3 := K2.alloc (I7 d0 d1 d2 d3 far d5 d6) 24
      have b3 := Has.new w2 (I7 d0 d1 d2 d3 far d5 d6) 24
      go_wp2_with fail
      refine (HE.out _ (hT.kp K3)).mono ?_
      rintro e w3 ⟨rfl, k3⟩
      have K4 := K3.trans k3
      go_wp2_with fail
      refine (HQ.out _).mono ?_
      rintro e w4 ⟨rfl, k4⟩
      go_wp2
      go_ret
      exact ⟨rfl, (K4.trans k4).alloc _ _⟩
    | true =>
      rw [hB] at HE
      obtain ⟨ho, hd⟩ := enc_true hB
      have HQ := Lib.hid (fun w => ref_any (encS ⟨d0, d1, d2, d3, far, d5, d6⟩) w (encS_lt _))
      unfold DecPost at HQ
      rw [hd, decide_eq_true ho] at HQ
      rw [if_pos rfl] at HE
      clear ho hd hB
      generalize encS ⟨d0, d1, d2, d3, far, d5, d6⟩ = v at *
      go_enter Tryd.func6, Tryd.ntmps6
      go_wp2_with fail
      refine (HR.out _).mono ?_
      rintro e w1 ⟨rfl, k1⟩
      have K1 := k1.alloc (I7 d0 d1 d2 d3 d4 d5 d6) 24
      have b1 := Has.new w1 (I7 d0 d1 d2 d3 d4 d5 d6) 24
      go_wp2_with fail
      refine (HA.out _ (hT.kp K1)).mono ?_
      rintro e w2 ⟨rfl, k2⟩
      have K2 := K1.trans k2
      have b2 := b1.kp k2 (by simp)
      obtain ⟨p0, p1, p2, p3, p4, p5, p6⟩ := b2.seven
      clear k1 K1 b1 k2
      have K3 := K2.alloc (I7 d0 d1 d2 d3 far d5 d6) 24
      have b3 := Has.new w2 (I7 d0 d1 d2 d3 far d5 d6) 24
      go_wp2_with fail
      refine (HE.out _ (hT.kp K3)).mono ?_
      rintro e w3 ⟨rfl, k3⟩
      have K4 := K3.trans k3
      have b4 := b3.kp k3 (by simp)
      go_wp2_with fail
      refine (HQ.out _).mono ?_
      rintro e w4 ⟨rfl, k4⟩
      have b5 := b4.kp k4 (by simp)
      have n0 : ∀ o, (w4.alloc o).cell? ⟨w2.heap.size, 0, none⟩ = some (.int .i64 d0) := fun o => (b5.alloc o).cell 0
      have n1 : ∀ o, (w4.alloc o).cell? ⟨w2.heap.size, 1, none⟩ = some (.int .i64 d1) := fun o => (b5.alloc o).cell 1
      have n2 : ∀ o, (w4.alloc o).cell? ⟨w2.heap.size, 2, none⟩ = some (.int .i64 d2) := fun o => (b5.alloc o).cell 2
      have n3 : ∀ o, (w4.alloc o).cell? ⟨w2.heap.size, 3, none⟩ = some (.int .i64 d3) := fun o => (b5.alloc o).cell 3
      have n4 : ∀ o, (w4.alloc o).cell? ⟨w2.heap.size, 4, none⟩ = some (.int .i64 far) := fun o => (b5.alloc o).cell 4
      have n5 : ∀ o, (w4.alloc o).cell? ⟨w2.heap.size, 5, none⟩ = some (.int .i64 d5) := fun o => (b5.alloc o).cell 5
      have n6 : ∀ o, (w4.alloc o).cell? ⟨w2.heap.size, 6, none⟩ = some (.int .i64 d6) := fun o => (b5.alloc o).cell 6
      go_wp2
      go_ret
      exact ⟨rfl, (K4.trans k4).alloc _ _⟩

set_option maxRecDepth 100000 in
theorem instFields_lifted (os : Os) (started : os.Started) (H : Type) (enc : TypeId × Value → H) :
    ReturnsInHanded {} Tryd.checked os 6 .any (fun w args => (Rows.instFieldsSpec.pre enc Tryd.prog Tryd.f6 [] false w args ∧ laidMetH Tryd.prog laidL w) ∧ sizedMet enc Tryd.prog Tryd.f6 (OpenSpec.ofChange Rows.instFieldsSpec) false w args)
      (Rows.instFieldsSpec.post enc Tryd.prog Tryd.f6 false true false false) := by
  refine returnsInHanded_of_change_and (C := Tryd.checked) (X := fun w _ => laidMetH Tryd.prog laidL w) (fun _ _ _ hh h => h.of_heap hh) own started (by kernel_rfl) Tryd.func6
    (ChangeSpec.witness_shaped (enc := enc) (C := Tryd.checked) (os := os) (X := fun w _ => laidMetH Tryd.prog laidL w) false (World.doorLaid Tryd.prog 104 os) #[.int .u32 0, .int .u8 0, .int .i64 0] 8 rfl (World.shaped_of_RefB (by kernel_rfl) (by kernel_rfl)) (by kernel_rfl) (by kernel_rfl) (by kernel_rfl) (door_met os _)) ?_
  intro W base args ds gs before hval0 hW _ _ hL _
  have hval : ∀ (j : Nat) t v, Tryd.f6.params[j]? = some t → args[j]? = some v → Value.okWide Tryd.prog W .any base t v := hval0
  have hW' := hW
  obtain ⟨p, q, hA0, hV, rfl, hfz, hnd⟩ := hW
  have hA : DataW.TrodAll enc Tryd.prog W 0 (fun _ => true) true Tryd.f6.params.toList args.toList ds p := hA0
  rw [Tryd.params6] at hA hval
  obtain ⟨v0, vs0, d0, ds0, p0, q0, hargs, rfl, rfl, h0, r0⟩ := trodAll_cons hA
  obtain ⟨v1, vs1, d1, ds1, p1, q1, hz1, rfl, rfl, h1, r1⟩ := trodAll_cons r0
  obtain ⟨v2, vs2, d2, ds2, p2, q2, hz2, rfl, rfl, h2, r2⟩ := trodAll_cons r1
  obtain ⟨rfl, rfl, rfl⟩ := trodAll_nil r2
  obtain rfl : args = #[v0, v1, v2] := by cases args; simp_all
  obtain ⟨rfl, rfl⟩ := trodVars_none hV
  obtain ⟨a, rfl, rfl, rfl, ha⟩ := open_int Tryd.underlying22 (hval 0 22 v0 rfl rfl) h0
  obtain ⟨b, rfl, rfl, rfl, hb⟩ := open_int Tryd.underlying5 (hval 1 5 v1 rfl rfl) h1
  obtain ⟨far, rfl, rfl, rfl, hfar⟩ := open_int Tryd.underlying3 (hval 2 3 v2 rfl rfl) h2
  have hTb := of_laid hL
  clear hA0 hval0
  simp only [List.append_nil] at hW'
  refine (instFields_walk a ha b hb far hfar W hTb).mono fun e W' ⟨he, hg0⟩ => ?_
  have hg := hg0.grown
  subst he
  exact ⟨_, rfl, post_of_same (pa := []) (pv := []) hW' (fun _ _ _ => (trodAll_cons_mk (shut_bool Tryd.underlying4 _) trodAll_mk0)) (fun sp _ => (trodAll_cons_mk (shut_int Tryd.underlying22 ha) (trodAll_cons_mk (shut_int Tryd.underlying5 hb) (trodAll_cons_mk (shut_int Tryd.underlying3 hfar) trodAll_mk0)))) (fun _ _ => rfl) rfl
    (hg.frame _) hg.2.1 (ok_one (by kernel_rfl) rfl (okWide_bool_mk Tryd.underlying4 _))⟩

theorem instFields_row : Rows.InstFieldsSaid :=
  OpenClaim.holds_of_wide 6 Tryd.f6 rfl rfl rfl rfl rfl rfl rfl ⟨rfl, rfl, rfl, rfl, rfl⟩ rfl rfl rfl rfl rfl (by kernel_rfl) Tryd.func6 (by kernel_rfl)
    (of_decide_eq_true (by kernel_rfl)) (by unfold Func.isWrapper; first | (rw [if_pos (by decide +kernel)]; kernel_rfl) | (rw [if_neg (by decide +kernel)]; exact ⟨rfl, rfl⟩))
    (fun os started H enc _ => instFields_lifted os started H enc)

/-- The statement: the tied card. -/
theorem instFields_holds : Rows.InstFieldsCardSaid :=
  Claim7.holds_tied_plain_at .later [] _ true _ false
    instFields_row (fun _ h => by cases h) (by kernel_rfl) (fun _ h => by cases h) instFields_row_tie rfl ⟨rfl, rfl⟩ (by kernel_rfl) rfl
    (fun f fn hf hfn => by
      obtain rfl : f = 6 := Option.some.inj ((show Tryd.prog.funcNamed "marionette/marionettelaw03.InstFields" = some 6 by kernel_rfl).symm.trans hf) |>.symm
      obtain rfl : fn = Tryd.f6 := (Option.some.inj (Tryd.func6.symm.trans hfn)).symm
      exact ⟨by kernel_rfl, fun j t ht => by
        rw [Tryd.params6] at ht
        have hm : t ∈ [22, 5, 3] := by simpa using Array.mem_of_getElem? ht
        have hall : ([22, 5, 3].all fun u => !Tryd.prog.wantsStandIn u) = true := by kernel_rfl
        exact (show Tryd.prog.wantsStandIn t = false by simpa using List.all_eq_true.1 hall t hm)⟩)
    (by kernel_rfl)
#print axioms instFields_holds
end Go.Proofs.YtjafiadcdickcaaDoor
