/-
  CompFar, tied: short jumps and branches go to even places, within a span, to both sides; short loads and stores never reach back: for every half word; the two arrays of operators as the text lays them.
-/
import Derived.Test.YtfkecgidjicidaaDoorLaidC
import Derived.Test.YtfkecgidjicidaaDoorFarC
import Derived.Test.YtfkecgidjicidaaDoorTie
import Derived.Test.YtfkecgidjicidaaDoorCards
import Derived.SevenTiedAt
set_option linter.unusedVariables false
namespace Go.Proofs.YtfkecgidjicidaaDoor
open Go.ChangeShapes Go.WideShapes Go.ChangeAt Go.RowKit
set_option maxHeartbeats 2000000 in
theorem far_jal (s : Nat) (rd r1 r2 im : Int) (w : World) (hT : TabsC w) (ht : (im.tmod 2 == 0) = true) (hm : (im % 2 == 0) = true) (h1 : -2048 ≤ im) (h2 : im < 2048)
    (HD : Calls Tryd.prog 7 #[.int .u16 s] w fun e w' => e = .returned (.tuple #[.agg (I7 3 rd r1 r2 im 0 2), .bool true]) ∧ Kp none w w') :
    Calls Tryd.prog 6 #[.int .u16 s] w fun e w' => e = .returned (.bool true) ∧ Kp none w w' := by
  have HX := Lib.hid HD
  have HA := Lib.hid (fun w h => answers_any w h)
  clear HD
  go_enter Tryd.func6, Tryd.ntmps6
  go_wp2_with fail
  refine HX.out.mono ?_
  rintro e w1 ⟨rfl, k1⟩
  have b1 := Has.new w1 (I7 3 rd r1 r2 im 0 2) 24
  have K1 := k1.alloc (I7 3 rd r1 r2 im 0 2) 24
  go_wp2_with fail
  refine (HA.out _ (hT.kp K1)).mono ?_
  rintro e w2 ⟨rfl, k2⟩
  obtain ⟨p0, p1, p2, p3, p4, p5, p6⟩ := (b1.kp k2 (by simp)).seven
  have K2 := K1.trans k2
  clear b1 K1 k1 k2 hT HX HA
  go_wp2
  go_ret
  exact ⟨rfl, K2⟩

set_option maxHeartbeats 2000000 in
theorem far_b5 (s : Nat) (rd r1 r2 im : Int) (w : World) (hT : TabsC w) (ht : (im.tmod 2 == 0) = true) (hm : (im % 2 == 0) = true) (h1 : -256 ≤ im) (h2 : im < 256) (h3 : 8 ≤ r1) (h4 : r1 < 16)
    (HD : Calls Tryd.prog 7 #[.int .u16 s] w fun e w' => e = .returned (.tuple #[.agg (I7 5 rd r1 r2 im 0 2), .bool true]) ∧ Kp none w w') :
    Calls Tryd.prog 6 #[.int .u16 s] w fun e w' => e = .returned (.bool true) ∧ Kp none w w' := by
  have HX := Lib.hid HD
  have HA := Lib.hid (fun w h => answers_any w h)
  clear HD
  go_enter Tryd.func6, Tryd.ntmps6
  go_wp2_with fail
  refine HX.out.mono ?_
  rintro e w1 ⟨rfl, k1⟩
  have b1 := Has.new w1 (I7 5 rd r1 r2 im 0 2) 24
  have K1 := k1.alloc (I7 5 rd r1 r2 im 0 2) 24
  go_wp2_with fail
  refine (HA.out _ (hT.kp K1)).mono ?_
  rintro e w2 ⟨rfl, k2⟩
  obtain ⟨p0, p1, p2, p3, p4, p5, p6⟩ := (b1.kp k2 (by simp)).seven
  have K2 := K1.trans k2
  clear b1 K1 k1 k2 hT HX HA
  go_wp2
  go_ret
  exact ⟨rfl, K2⟩

set_option maxHeartbeats 2000000 in
theorem far_b6 (s : Nat) (rd r1 r2 im : Int) (w : World) (hT : TabsC w) (ht : (im.tmod 2 == 0) = true) (hm : (im % 2 == 0) = true) (h1 : -256 ≤ im) (h2 : im < 256) (h3 : 8 ≤ r1) (h4 : r1 < 16)
    (HD : Calls Tryd.prog 7 #[.int .u16 s] w fun e w' => e = .returned (.tuple #[.agg (I7 6 rd r1 r2 im 0 2), .bool true]) ∧ Kp none w w') :
    Calls Tryd.prog 6 #[.int .u16 s] w fun e w' => e = .returned (.bool true) ∧ Kp none w w' := by
  have HX := Lib.hid HD
  have HA := Lib.hid (fun w h => answers_any w h)
  clear HD
  go_enter Tryd.func6, Tryd.ntmps6
  go_wp2_with fail
  refine HX.out.mono ?_
  rintro e w1 ⟨rfl, k1⟩
  have b1 := Has.new w1 (I7 6 rd r1 r2 im 0 2) 24
  have K1 := k1.alloc (I7 6 rd r1 r2 im 0 2) 24
  go_wp2_with fail
  refine (HA.out _ (hT.kp K1)).mono ?_
  rintro e w2 ⟨rfl, k2⟩
  obtain ⟨p0, p1, p2, p3, p4, p5, p6⟩ := (b1.kp k2 (by simp)).seven
  have K2 := K1.trans k2
  clear b1 K1 k1 k2 hT HX HA
  go_wp2
  go_ret
  exact ⟨rfl, K2⟩

set_option maxHeartbeats 2000000 in
theorem far_w13 (s : Nat) (rd r1 r2 im : Int) (w : World) (hT : TabsC w) (ht : (im.tmod 4 == 0) = true) (hm : (im % 4 == 0) = true) (h1 : 0 ≤ im) (h2 : im < 256)
    (HD : Calls Tryd.prog 7 #[.int .u16 s] w fun e w' => e = .returned (.tuple #[.agg (I7 13 rd r1 r2 im 0 2), .bool true]) ∧ Kp none w w') :
    Calls Tryd.prog 6 #[.int .u16 s] w fun e w' => e = .returned (.bool true) ∧ Kp none w w' := by
  have HX := Lib.hid HD
  have HA := Lib.hid (fun w h => answers_any w h)
  clear HD
  go_enter Tryd.func6, Tryd.ntmps6
  go_wp2_with fail
  refine HX.out.mono ?_
  rintro e w1 ⟨rfl, k1⟩
  have b1 := Has.new w1 (I7 13 rd r1 r2 im 0 2) 24
  have K1 := k1.alloc (I7 13 rd r1 r2 im 0 2) 24
  go_wp2_with fail
  refine (HA.out _ (hT.kp K1)).mono ?_
  rintro e w2 ⟨rfl, k2⟩
  obtain ⟨p0, p1, p2, p3, p4, p5, p6⟩ := (b1.kp k2 (by simp)).seven
  have K2 := K1.trans k2
  clear b1 K1 k1 k2 hT HX HA
  go_wp2
  go_ret
  exact ⟨rfl, K2⟩

set_option maxHeartbeats 2000000 in
theorem far_w20 (s : Nat) (rd r1 r2 im : Int) (w : World) (hT : TabsC w) (ht : (im.tmod 4 == 0) = true) (hm : (im % 4 == 0) = true) (h1 : 0 ≤ im) (h2 : im < 256)
    (HD : Calls Tryd.prog 7 #[.int .u16 s] w fun e w' => e = .returned (.tuple #[.agg (I7 20 rd r1 r2 im 0 2), .bool true]) ∧ Kp none w w') :
    Calls Tryd.prog 6 #[.int .u16 s] w fun e w' => e = .returned (.bool true) ∧ Kp none w w' := by
  have HX := Lib.hid HD
  have HA := Lib.hid (fun w h => answers_any w h)
  clear HD
  go_enter Tryd.func6, Tryd.ntmps6
  go_wp2_with fail
  refine HX.out.mono ?_
  rintro e w1 ⟨rfl, k1⟩
  have b1 := Has.new w1 (I7 20 rd r1 r2 im 0 2) 24
  have K1 := k1.alloc (I7 20 rd r1 r2 im 0 2) 24
  go_wp2_with fail
  refine (HA.out _ (hT.kp K1)).mono ?_
  rintro e w2 ⟨rfl, k2⟩
  obtain ⟨p0, p1, p2, p3, p4, p5, p6⟩ := (b1.kp k2 (by simp)).seven
  have K2 := K1.trans k2
  clear b1 K1 k1 k2 hT HX HA
  go_wp2
  go_ret
  exact ⟨rfl, K2⟩

set_option maxHeartbeats 2000000 in
theorem far_d14 (s : Nat) (rd r1 r2 im : Int) (w : World) (hT : TabsC w) (ht : (im.tmod 8 == 0) = true) (hm : (im % 8 == 0) = true) (h1 : 0 ≤ im) (h2 : im < 512)
    (HD : Calls Tryd.prog 7 #[.int .u16 s] w fun e w' => e = .returned (.tuple #[.agg (I7 14 rd r1 r2 im 0 2), .bool true]) ∧ Kp none w w') :
    Calls Tryd.prog 6 #[.int .u16 s] w fun e w' => e = .returned (.bool true) ∧ Kp none w w' := by
  have HX := Lib.hid HD
  have HA := Lib.hid (fun w h => answers_any w h)
  clear HD
  go_enter Tryd.func6, Tryd.ntmps6
  go_wp2_with fail
  refine HX.out.mono ?_
  rintro e w1 ⟨rfl, k1⟩
  have b1 := Has.new w1 (I7 14 rd r1 r2 im 0 2) 24
  have K1 := k1.alloc (I7 14 rd r1 r2 im 0 2) 24
  go_wp2_with fail
  refine (HA.out _ (hT.kp K1)).mono ?_
  rintro e w2 ⟨rfl, k2⟩
  obtain ⟨p0, p1, p2, p3, p4, p5, p6⟩ := (b1.kp k2 (by simp)).seven
  have K2 := K1.trans k2
  clear b1 K1 k1 k2 hT HX HA
  go_wp2
  go_ret
  exact ⟨rfl, K2⟩

set_option maxHeartbeats 2000000 in
theorem far_d21 (s : Nat) (rd r1 r2 im : Int) (w : World) (hT : TabsC w) (ht : (im.tmod 8 == 0) = true) (hm : (im % 8 == 0) = true) (h1 : 0 ≤ im) (h2 : im < 512)
    (HD : Calls Tryd.prog 7 #[.int .u16 s] w fun e w' => e = .returned (.tuple #[.agg (I7 21 rd r1 r2 im 0 2), .bool true]) ∧ Kp none w w') :
    Calls Tryd.prog 6 #[.int .u16 s] w fun e w' => e = .returned (.bool true) ∧ Kp none w w' := by
  have HX := Lib.hid HD
  have HA := Lib.hid (fun w h => answers_any w h)
  clear HD
  go_enter Tryd.func6, Tryd.ntmps6
  go_wp2_with fail
  refine HX.out.mono ?_
  rintro e w1 ⟨rfl, k1⟩
  have b1 := Has.new w1 (I7 21 rd r1 r2 im 0 2) 24
  have K1 := k1.alloc (I7 21 rd r1 r2 im 0 2) 24
  go_wp2_with fail
  refine (HA.out _ (hT.kp K1)).mono ?_
  rintro e w2 ⟨rfl, k2⟩
  obtain ⟨p0, p1, p2, p3, p4, p5, p6⟩ := (b1.kp k2 (by simp)).seven
  have K2 := K1.trans k2
  clear b1 K1 k1 k2 hT HX HA
  go_wp2
  go_ret
  exact ⟨rfl, K2⟩

set_option maxHeartbeats 2000000 in
theorem far_else (s : Nat) (op : Int) (rd r1 r2 im : Int) (w : World) (hT : TabsC w) (n3 : (op == 3) = false) (n5 : (op == 5) = false) (n6 : (op == 6) = false) (n13 : (op == 13) = false) (n20 : (op == 20) = false) (n14 : (op == 14) = false) (n21 : (op == 21) = false) (h1 : 0 ≤ rd) (h2 : rd < 32)
    (HD : Calls Tryd.prog 7 #[.int .u16 s] w fun e w' => e = .returned (.tuple #[.agg (I7 op rd r1 r2 im 0 2), .bool true]) ∧ Kp none w w') :
    Calls Tryd.prog 6 #[.int .u16 s] w fun e w' => e = .returned (.bool true) ∧ Kp none w w' := by
  have HX := Lib.hid HD
  have HA := Lib.hid (fun w h => answers_any w h)
  clear HD
  go_enter Tryd.func6, Tryd.ntmps6
  go_wp2_with fail
  refine HX.out.mono ?_
  rintro e w1 ⟨rfl, k1⟩
  have b1 := Has.new w1 (I7 op rd r1 r2 im 0 2) 24
  have K1 := k1.alloc (I7 op rd r1 r2 im 0 2) 24
  go_wp2_with fail
  refine (HA.out _ (hT.kp K1)).mono ?_
  rintro e w2 ⟨rfl, k2⟩
  obtain ⟨p0, p1, p2, p3, p4, p5, p6⟩ := (b1.kp k2 (by simp)).seven
  have K2 := K1.trans k2
  clear b1 K1 k1 k2 hT HX HA
  go_wp2
  go_ret
  exact ⟨rfl, K2⟩

set_option maxHeartbeats 2000000 in
theorem far_none (s : Nat) (w : World) (hT : TabsC w)
    (HD : Calls Tryd.prog 7 #[.int .u16 s] w fun e w' => e = .returned (.tuple #[.agg (I7 0 0 0 0 0 0 0), .bool false]) ∧ Kp none w w') :
    Calls Tryd.prog 6 #[.int .u16 s] w fun e w' => e = .returned (.bool true) ∧ Kp none w w' := by
  have HX := Lib.hid HD
  have HA := Lib.hid (fun w h => answers_any w h)
  clear HD
  go_enter Tryd.func6, Tryd.ntmps6
  go_wp2_with fail
  refine HX.out.mono ?_
  rintro e w1 ⟨rfl, k1⟩
  have K1 := k1.alloc (I7 0 0 0 0 0 0 0) 24
  go_wp2_with fail
  refine (HA.out _ (hT.kp K1)).mono ?_
  rintro e w2 ⟨rfl, k2⟩
  have K2 := K1.trans k2
  clear K1 k1 k2 hT HX HA
  go_wp2
  go_ret
  exact ⟨rfl, K2⟩
theorem tm {im m : Int} (h : im % m = 0) : (im.tmod m == 0) = true := by
  have hd : m ∣ im := Int.dvd_of_emod_eq_zero h
  have : im.tmod m = 0 := Int.tmod_eq_zero_of_dvd hd
  simp [this]
theorem em {im m : Int} (h : im % m = 0) : (im % m == 0) = true := by simp [h]
theorem beq_no {a b : Int} (h : ¬ a = b) : (a == b) = false := by simp [h]

set_option maxHeartbeats 1000000 in
/-- The law's text returns true. -/
theorem compFar_walk (a : Int) (ha : (Lit.int .u16 a).wf = true) (w : World) (hT : TabsC w) :
    Calls Tryd.prog 6 #[.int .u16 a] w fun e w' => e = .returned (.bool true) ∧ Kp none w w' := by
  obtain ⟨h0, h1⟩ := u16_bd a ha
  obtain ⟨s, rfl⟩ := Int.eq_ofNat_of_zero_le h0
  have hs : s < 65536 := by omega
  clear ha h0 h1
  have HD := expand_any s w hs hT
  have hF := far_ok s
  unfold exI exB at HD
  generalize ex s = i at *
  obtain ⟨op, rd, r1, r2, im⟩ := i
  unfold FarOk at hF
  dsimp only at hF HD
  obtain ⟨f3, f5, f13, f14, g0, g1⟩ := hF
  by_cases h0 : op = 0
  · rw [if_pos h0, decide_eq_false (by simpa using h0)] at HD
    exact far_none s w hT HD
  rw [if_neg h0, decide_eq_true h0] at HD
  by_cases h3 : op = 3
  · subst h3; exact far_jal s rd r1 r2 im w hT (tm (f3 rfl).1) (em (f3 rfl).1) (f3 rfl).2.1 (f3 rfl).2.2 HD
  by_cases h5 : op = 5
  · subst h5; have f := f5 (Or.inl rfl); exact far_b5 s rd r1 r2 im w hT (tm f.1) (em f.1) f.2.1 f.2.2.1 f.2.2.2.1 f.2.2.2.2 HD
  by_cases h6 : op = 6
  · subst h6; have f := f5 (Or.inr rfl); exact far_b6 s rd r1 r2 im w hT (tm f.1) (em f.1) f.2.1 f.2.2.1 f.2.2.2.1 f.2.2.2.2 HD
  by_cases h13 : op = 13
  · subst h13; have f := f13 (Or.inl rfl); exact far_w13 s rd r1 r2 im w hT (tm f.1) (em f.1) f.2.1 f.2.2 HD
  by_cases h20 : op = 20
  · subst h20; have f := f13 (Or.inr rfl); exact far_w20 s rd r1 r2 im w hT (tm f.1) (em f.1) f.2.1 f.2.2 HD
  by_cases h14 : op = 14
  · subst h14; have f := f14 (Or.inl rfl); exact far_d14 s rd r1 r2 im w hT (tm f.1) (em f.1) f.2.1 f.2.2 HD
  by_cases h21 : op = 21
  · subst h21; have f := f14 (Or.inr rfl); exact far_d21 s rd r1 r2 im w hT (tm f.1) (em f.1) f.2.1 f.2.2 HD
  exact far_else s op rd r1 r2 im w hT (beq_no h3) (beq_no h5) (beq_no h6) (beq_no h13) (beq_no h20) (beq_no h14) (beq_no h21) g0 g1 HD

set_option maxRecDepth 100000 in
theorem compFar_lifted (os : Os) (started : os.Started) (H : Type) (enc : TypeId × Value → H) :
    ReturnsInHanded {} Tryd.checked os 6 .any (fun w args => (Rows.compFarSpec.pre enc Tryd.prog Tryd.f6 [] false w args ∧ laidMetH Tryd.prog laidC w) ∧ sizedMet enc Tryd.prog Tryd.f6 (OpenSpec.ofChange Rows.compFarSpec) false w args)
      (Rows.compFarSpec.post enc Tryd.prog Tryd.f6 false true false false) := by
  refine returnsInHanded_of_change_and (C := Tryd.checked) (X := fun w _ => laidMetH Tryd.prog laidC w) (fun _ _ _ hh h => h.of_heap hh) own started (by kernel_rfl) Tryd.func6
    (ChangeSpec.witness_shaped (enc := enc) (C := Tryd.checked) (os := os) (X := fun w _ => laidMetH Tryd.prog laidC w) false (World.doorLaid Tryd.prog 117 os) #[.int .u16 0] 8 rfl (World.shaped_of_RefB (by kernel_rfl) (by kernel_rfl)) (by kernel_rfl) (by kernel_rfl) (by kernel_rfl) (door_metC os _)) ?_
  intro W base args ds gs before hval0 hW _ _ hL _
  have hval : ∀ (j : Nat) t v, Tryd.f6.params[j]? = some t → args[j]? = some v → Value.okWide Tryd.prog W .any base t v := hval0
  have hW' := hW
  obtain ⟨p, q, hA0, hV, rfl, hfz, hnd⟩ := hW
  have hA : DataW.TrodAll enc Tryd.prog W 0 (fun _ => true) true Tryd.f6.params.toList args.toList ds p := hA0
  rw [Tryd.params6] at hA hval
  obtain ⟨v0, vs0, d0, ds0, p0, q0, hargs, rfl, rfl, h0, r0⟩ := trodAll_cons hA
  obtain ⟨rfl, rfl, rfl⟩ := trodAll_nil r0
  obtain rfl : args = #[v0] := by cases args; simp_all
  obtain ⟨rfl, rfl⟩ := trodVars_none hV
  obtain ⟨a, rfl, rfl, rfl, ha⟩ := open_int Tryd.underlying22 (hval 0 22 v0 rfl rfl) h0
  have hTb := of_laidC hL
  clear hA0 hval0
  simp only [List.append_nil] at hW'
  refine (compFar_walk a ha W hTb).mono fun e W' ⟨he, hg0⟩ => ?_
  have hg := hg0.grown
  subst he
  exact ⟨_, rfl, post_of_same (pa := []) (pv := []) hW' (fun _ _ _ => (trodAll_cons_mk (shut_bool Tryd.underlying4 _) trodAll_mk0)) (fun sp _ => (trodAll_cons_mk (shut_int Tryd.underlying22 ha) trodAll_mk0)) (fun _ _ => rfl) rfl
    (hg.frame _) hg.2.1 (ok_one (by kernel_rfl) rfl (okWide_bool_mk Tryd.underlying4 _))⟩

theorem compFar_row : Rows.CompFarSaid :=
  OpenClaim.holds_of_wide 6 Tryd.f6 rfl rfl rfl rfl rfl rfl rfl ⟨rfl, rfl, rfl, rfl, rfl⟩ rfl rfl rfl rfl rfl (by kernel_rfl) Tryd.func6 (by kernel_rfl)
    (of_decide_eq_true (by kernel_rfl)) (by unfold Func.isWrapper; first | (rw [if_pos (by decide +kernel)]; kernel_rfl) | (rw [if_neg (by decide +kernel)]; exact ⟨rfl, rfl⟩))
    (fun os started H enc _ => compFar_lifted os started H enc)

/-- The statement: the tied card. -/
theorem compFar_holds : Rows.CompFarCardSaid :=
  Claim7.holds_tied_plain_at .later [] _ true _ false
    compFar_row (fun _ h => by cases h) (by kernel_rfl) (fun _ h => by cases h) compFar_row_tie rfl ⟨rfl, rfl⟩ (by kernel_rfl) rfl
    (fun f fn hf hfn => by
      obtain rfl : f = 6 := Option.some.inj ((show Tryd.prog.funcNamed "marionette/marionettelaw04.CompFar" = some 6 by kernel_rfl).symm.trans hf) |>.symm
      obtain rfl : fn = Tryd.f6 := (Option.some.inj (Tryd.func6.symm.trans hfn)).symm
      exact ⟨by kernel_rfl, fun j t ht => by
        rw [Tryd.params6] at ht
        have hm : t ∈ [22] := by simpa using Array.mem_of_getElem? ht
        have hall : ([22].all fun u => !Tryd.prog.wantsStandIn u) = true := by kernel_rfl
        exact (show Tryd.prog.wantsStandIn t = false by simpa using List.all_eq_true.1 hall t hm)⟩)
    (by kernel_rfl)
#print axioms compFar_holds
end Go.Proofs.YtfkecgidjicidaaDoor
