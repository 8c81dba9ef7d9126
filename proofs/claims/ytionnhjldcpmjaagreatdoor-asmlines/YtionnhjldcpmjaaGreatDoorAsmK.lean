/-
  Lines that are instructions, and that are none.
-/
import Derived.Test.YtionnhjldcpmjaaGreatDoorAsmJ
import Derived.Test.YtionnhjldcpmjaaGreatDoorAsmP
import Derived.Test.YtionnhjldcpmjaaGreatDoorFacts
set_option linter.unusedVariables false
set_option linter.unusedSimpArgs false
namespace Go.Proofs.YtionnhjldcpmjaaGreatDoor
open Go.RowKit

theorem putB_nil (x : Int) : putB x 0 = [] := by simp [putB]
theorem put_nil (x : Int) (k : Nat) (w : World) (hk : k ≤ 8) :
    Calls Tryz.prog 37 #[.slice none 0 0, .int .u64 x, .int .i64 k] w fun e w' => ∃ B c, e = .returned (.slice B k c) ∧ Rd w' B (putB x k) ∧ Bl w w' ∧ (B = none → c = 0) := by
  rcases Nat.eq_zero_or_pos k with h | h
  · subst h
    refine (put_out none 0 0 [] x (0 : Nat) w Rd.nil_ rfl (by omega) (by omega)).mono ?_
    rintro e w' ⟨B, c, rfl, hr, hb, hc⟩
    exact ⟨B, c, rfl, by rw [putB_nil]; exact hr, hb, hc⟩
  · refine (put_in none 0 0 [] x k w Rd.nil_ rfl (by omega) (by omega) hk).mono ?_
    rintro e w' ⟨B, c, rfl, hr, hb, -, hc⟩
    exact ⟨B, c, by rw [Nat.zero_add], by simpa using hr, hb, hc⟩
set_option maxHeartbeats 1000000 in
theorem line_yes (l : List UInt8) (a : Addr) (w : World) (hE : Env a w) (hs : l.length < 4294967281) (hl : l ≠ []) (hd : isData l = false) (hok : okP l = true) :
    Calls Tryz.prog 36 #[str l] w fun e w' => e = .returned (.tuple #[.int .u64 (encS (readL l) : Nat), .int .i64 4, .nilIface]) ∧ Bl w w' := by
  have hC := cut_any l [32] a w hE hs
  have he : l.isEmpty = false := by simpa using hl
  have hP := fun w hE => parse_yes l a w hE hs hok
  have hB : encB (readL l) = true := by
    simp only [okP, Bool.and_eq_true] at hok
    exact hok.1
  have hEn : ∀ w, Tabs w → Calls Tryz.prog 25 #[.agg (readL l).cells] w fun e w' => e = .returned (.tuple #[.int .u32 (encS (readL l) : Nat), .bool true]) ∧ Kp none w w' := fun w hT =>
    (encode_any (readL l) w hT).mono fun e w' h => by
      obtain ⟨h1, h2⟩ := h
      exact ⟨by rw [h1]; simp [hB], h2⟩
  have hW := encS_lt (readL l)
  have hW0 : (0 : Int) ≤ ((encS (readL l) : Nat) : Int) := by omega
  generalize encS (readL l) = W at *
  generalize readL l = I at *
  have hD := fun w => dataSize_any (Lib.cut l [32]).1 w
  unfold isData at hd
  generalize (Lib.cut l [32]).1 = nam at *
  generalize (Lib.cut l [32]).2.1 = rest at *
  generalize (Lib.cut l [32]).2.2 = fnd at *
  generalize dsz nam = D at *
  have HE := Lib.hid hE
  have HP := Lib.hid hP
  have HEn := Lib.hid hEn
  have HD := Lib.hid hD
  clear hE hl hok hP hEn hD hB
  cases fnd with
  | false =>
    clear hd
    go_enter Tryz.func36, Tryz.ntmps36
    go_wp2_with fail
    refine hC.mono ?_
    rintro e w1 ⟨rfl, k1⟩
    have K1 := Lib.hid k1
    clear k1 hC
    go_wp2_with fail
    refine (HP.out _ (HE.out.bl K1.out)).mono ?_
    rintro e w3 ⟨rfl, k3⟩
    have K3 := Lib.hid (K1.out.trans k3)
    have k4 := K3.out.alloc I.cells 28
    obtain ⟨b0, b1, b2, b3, b4, b5, b6⟩ := (Has.new w3 I.cells 28).seven
    have K4 := Lib.hid k4
    clear k3 k4
    go_wp2_with fail
    refine (HEn.out _ (HE.out.bl K4.out).tabs).mono ?_
    rintro e w5 ⟨rfl, k5⟩
    have K5 := Lib.hid (K4.out.trans k5.bl)
    clear k5
    go_wp2
    (try simp only [Exit.inBlock, Exit.then])
    refine bodyPost_ret (results_tmp3 rfl _ _ _) rfl ?_
    exact ⟨rfl, K5.out⟩
  | true =>
    obtain rfl : D = 0 := by simpa using hd
    clear hd
    go_enter Tryz.func36, Tryz.ntmps36
    go_wp2_with fail
    refine hC.mono ?_
    rintro e w1 ⟨rfl, k1⟩
    have K1 := Lib.hid k1
    clear k1 hC
    go_wp2_with fail
    refine (HD.out _).mono ?_
    rintro e w2 ⟨rfl, rfl⟩
    go_wp2_with fail
    refine (HP.out _ (HE.out.bl K1.out)).mono ?_
    rintro e w3 ⟨rfl, k3⟩
    have K3 := Lib.hid (K1.out.trans k3)
    have k4 := K3.out.alloc I.cells 28
    obtain ⟨b0, b1, b2, b3, b4, b5, b6⟩ := (Has.new w3 I.cells 28).seven
    have K4 := Lib.hid k4
    clear k3 k4
    go_wp2_with fail
    refine (HEn.out _ (HE.out.bl K4.out).tabs).mono ?_
    rintro e w5 ⟨rfl, k5⟩
    have K5 := Lib.hid (K4.out.trans k5.bl)
    clear k5
    go_wp2
    (try simp only [Exit.inBlock, Exit.then])
    refine bodyPost_ret (results_tmp3 rfl _ _ _) rfl ?_
    exact ⟨rfl, K5.out⟩
set_option maxHeartbeats 1000000 in
theorem line_no (l : List UInt8) (a : Addr) (w : World) (hE : Env a w) (hs : l.length < 4294967281) (hl : l ≠ []) (hd : isData l = false) (hok : okP l = false) :
    Calls Tryz.prog 36 #[str l] w fun e w' => (∃ x : Int, e = .returned (.tuple #[.int .u64 x, .int .i64 4, .iface 153 (.pointer (some a))])) ∧ Bl w w' := by
  have hC := cut_any l [32] a w hE hs
  have he : l.isEmpty = false := by simpa using hl
  have hP := fun w hE => parse_no l a w hE hs hok
  have hEn : ∀ w, Tabs w → Calls Tryz.prog 25 #[.agg (I7 0 0 0 0 0 0 0)] w fun e w' => e = .returned (.tuple #[.int .u32 ((if encB ⟨0, 0, 0, 0, 0, 0, 0⟩ = true then encS ⟨0, 0, 0, 0, 0, 0, 0⟩ else 0 : Nat) : Int), .bool (encB ⟨0, 0, 0, 0, 0, 0, 0⟩)]) ∧ Kp none w w' := fun w hT => encode_any ⟨0, 0, 0, 0, 0, 0, 0⟩ w hT
  generalize ((if encB ⟨0, 0, 0, 0, 0, 0, 0⟩ = true then encS ⟨0, 0, 0, 0, 0, 0, 0⟩ else 0 : Nat)) = W at *
  generalize encB ⟨0, 0, 0, 0, 0, 0, 0⟩ = eb at *
  have hD := fun w => dataSize_any (Lib.cut l [32]).1 w
  unfold isData at hd
  generalize (Lib.cut l [32]).1 = nam at *
  generalize (Lib.cut l [32]).2.1 = rest at *
  generalize (Lib.cut l [32]).2.2 = fnd at *
  generalize dsz nam = D at *
  have HE := Lib.hid hE
  have HP := Lib.hid hP
  have HEn := Lib.hid hEn
  have HD := Lib.hid hD
  clear hE hl hok hP hEn hD 
  cases fnd with
  | false =>
    clear hd
    go_enter Tryz.func36, Tryz.ntmps36
    go_wp2_with fail
    refine hC.mono ?_
    rintro e w1 ⟨rfl, k1⟩
    have K1 := Lib.hid k1
    clear k1 hC
    go_wp2_with fail
    refine (HP.out _ (HE.out.bl K1.out)).mono ?_
    rintro e w3 ⟨rfl, k3⟩
    have K3 := Lib.hid (K1.out.trans k3)
    have k4 := K3.out.alloc (I7 0 0 0 0 0 0 0) 28
    obtain ⟨b0, b1, b2, b3, b4, b5, b6⟩ := (Has.new w3 (I7 0 0 0 0 0 0 0) 28).seven
    have K4 := Lib.hid k4
    clear k3 k4
    go_wp2_with fail
    refine (HEn.out _ (HE.out.bl K4.out).tabs).mono ?_
    rintro e w5 ⟨rfl, k5⟩
    have K5 := Lib.hid (K4.out.trans k5.bl)
    clear k5
    go_wp2
    (try simp only [Exit.inBlock, Exit.then])
    refine bodyPost_ret (results_tmp3 rfl _ _ _) rfl ?_
    exact ⟨⟨_, rfl⟩, K5.out⟩
  | true =>
    obtain rfl : D = 0 := by simpa using hd
    clear hd
    go_enter Tryz.func36, Tryz.ntmps36
    go_wp2_with fail
    refine hC.mono ?_
    rintro e w1 ⟨rfl, k1⟩
    have K1 := Lib.hid k1
    clear k1 hC
    go_wp2_with fail
    refine (HD.out _).mono ?_
    rintro e w2 ⟨rfl, rfl⟩
    go_wp2_with fail
    refine (HP.out _ (HE.out.bl K1.out)).mono ?_
    rintro e w3 ⟨rfl, k3⟩
    have K3 := Lib.hid (K1.out.trans k3)
    have k4 := K3.out.alloc (I7 0 0 0 0 0 0 0) 28
    obtain ⟨b0, b1, b2, b3, b4, b5, b6⟩ := (Has.new w3 (I7 0 0 0 0 0 0 0) 28).seven
    have K4 := Lib.hid k4
    clear k3 k4
    go_wp2_with fail
    refine (HEn.out _ (HE.out.bl K4.out).tabs).mono ?_
    rintro e w5 ⟨rfl, k5⟩
    have K5 := Lib.hid (K4.out.trans k5.bl)
    clear k5
    go_wp2
    (try simp only [Exit.inBlock, Exit.then])
    refine bodyPost_ret (results_tmp3 rfl _ _ _) rfl ?_
    exact ⟨⟨_, rfl⟩, K5.out⟩

end Go.Proofs.YtionnhjldcpmjaaGreatDoor
