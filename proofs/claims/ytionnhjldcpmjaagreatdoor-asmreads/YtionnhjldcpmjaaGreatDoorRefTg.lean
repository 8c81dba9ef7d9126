/-
  The text of an instruction, as the reference tells it.
-/
import Derived.Test.YtionnhjldcpmjaaGreatDoorRefT
set_option linter.unusedVariables false
set_option linter.unusedSimpArgs false
namespace Go.Proofs.YtionnhjldcpmjaaGreatDoor
open Go.RowKit
set_option maxRecDepth 100000 in
set_option maxHeartbeats 4000000 in
theorem refText_up1 (i : Ins) (h : Good i) (w : World) (hop : 1 ≤ i.op ∧ i.op ≤ 1) : Calls Tryz.prog 15 #[.agg i.cells] w fun e w' => e = .returned (str (textL i)) ∧ Bl w w' := by
  have hi := h.in64
  obtain ⟨k, hk⟩ : ∃ k : Nat, i.op = (k : Int) := ⟨i.op.toNat, by omega⟩
  have ho := h.op
  have hod : i.od = 0 := h.od (by omega)
  have hf : prt (frm i.op) = [0, 4] := by
    have : frm i.op = 1 := by
      unfold frm
      repeat' split
      all_goals omega
    rw [this]; decide
  have hbl := nm_len i.op
  have hN := refName_any k (by omega) (by omega)
  have hnm : nmT.getD k [] = nm i.op := by rw [hk, nm_nat k (by omega) (by omega)]
  rw [hnm] at hN
  rw [← hk] at hN
  have hT : textL i = ((((nm i.op ++ [32]) ++ (120 :: Lib.itoa i.rd)) ++ [44, 32]) ++ (Lib.itoa (up i.im))) := by
    unfold textL
    rw [hf, hod]
    simp [tl, told, fld, ordOf, ordT, List.append_assoc]
  rw [hT]
  have ln := itoa_len _ hi.im
  have ld := itoa_len _ hi.rd
  have l1 := itoa_len _ hi.r1
  have l2 := itoa_len _ hi.r2
  have hx := Has.new w i.cells 28
  obtain ⟨b0, b1, b2, b3, b4, b5, b6⟩ := hx.seven
  have k0 := (Bl.refl w).alloc i.cells 28
  have cN := fun w => dec_any i.im hi.im w
  have cXd := fun w => x_any i.rd hi.rd w
  have hub : -9223372036854775808 ≤ up i.im ∧ up i.im ≤ 9223372036854775807 := by unfold up; omega
  have lu := itoa_len _ hub
  have cU := fun w => dec_any (up i.im) hub w
  generalize Lib.itoa (up i.im) = U at *
  generalize nm i.op = base at *
  generalize Lib.itoa i.im = N at *
  obtain ⟨Xd, hXd⟩ : ∃ X, X = 120 :: Lib.itoa i.rd := ⟨_, rfl⟩
  have jXd : Xd.length ≤ 22 := by rw [hXd]; simp; omega
  rw [← hXd] at cXd ⊢
  obtain ⟨y0, hy0, ly0, ay0⟩ := add_two base [32] 10 1 hbl (by decide) (by decide) (by decide)
  rw [← hy0]
  obtain ⟨y1, hy1, ly1, ay1⟩ := add_two y0 Xd 11 22 ly0 jXd (by decide) (by decide)
  rw [← hy1]
  obtain ⟨y2, hy2, ly2, ay2⟩ := add_two y1 [44, 32] 33 2 ly1 (by decide) (by decide) (by decide)
  rw [← hy2]
  obtain ⟨y3, hy3, ly3, ay3⟩ := add_two y2 U 35 21 ly2 lu (by decide) (by decide)
  rw [← hy3]
  clear hy0 ly0 hy1 ly1 hy2 ly2 hy3 ly3 ln ld l1 l2 hbl hT hf hnm hXd jXd lu hub
  have HH := Lib.hid hx
  have HK := Lib.hid k0
  have HN := Lib.hid hN
  have HcN := Lib.hid cN
  have HcXd := Lib.hid cXd
  have HcU := Lib.hid cU
  have q1 : (i.op == 1) = true := by rw [beq_iff_eq]; omega
  have q2 : (i.op == 2) = false := by rw [beq_eq_false_iff_ne]; omega
  have q3 : (i.op == 3) = false := by rw [beq_eq_false_iff_ne]; omega
  have hup : i.im % 4096 = 0 := h.up (by unfold frm; rw [if_pos (by omega)])
  have him := h.im
  clear hx k0 hN cN hod h hi hk cXd cU
  obtain ⟨o1, o2⟩ := hop
  rcases Int.lt_or_le i.im 0 with hneg | hpos
  · have htd : i.im.tdiv 4096 = up i.im - 1048576 := by rw [Int.tdiv_eq_ediv_of_dvd (Int.dvd_of_emod_eq_zero hup)]; unfold up; omega
    have hu1 : up i.im < 1048576 := by unfold up; omega
    have hu0 : 0 ≤ up i.im := by unfold up; omega
    generalize up i.im = uu at *
    clear hneg hup
    go_enter Tryz.func15, Tryz.ntmps15
    go_wp2_with fail
    refine (HN.out _).mono ?_
    rintro e w1 ⟨rfl, rfl⟩
    go_wp2_with fail
    refine (HcN.out _).mono ?_
    rintro e w2 ⟨rfl, k2⟩
    have hH2 := HH.out.bl k2
    have K2 := Lib.hid (HK.out.trans k2)
    clear b0 b1 b2 b3 b4 b5 b6 k2
    obtain ⟨b0, b1, b2, b3, b4, b5, b6⟩ := hH2.seven
    have HH2 := Lib.hid hH2
    clear hH2
    go_wp2_with fail
    refine (HcXd.out _).mono ?_
    rintro e w3 ⟨rfl, k3⟩
    have K3 := Lib.hid (K2.out.trans k3)
    clear k3
    go_wp2_with fail
    refine (HcU.out _).mono ?_
    rintro e w4 ⟨rfl, k4⟩
    have K4 := Lib.hid (K3.out.trans k4)
    clear k4
    go_wp2
    go_ret
    exact ⟨rfl, K4.out⟩
  · have htd : i.im.tdiv 4096 = up i.im := by rw [Int.tdiv_eq_ediv_of_dvd (Int.dvd_of_emod_eq_zero hup)]; unfold up; omega
    have hu1 : up i.im < 1048576 := by unfold up; omega
    have hu0 : 0 ≤ up i.im := by unfold up; omega
    generalize up i.im = uu at *
    clear hpos hup
    go_enter Tryz.func15, Tryz.ntmps15
    go_wp2_with fail
    refine (HN.out _).mono ?_
    rintro e w1 ⟨rfl, rfl⟩
    go_wp2_with fail
    refine (HcN.out _).mono ?_
    rintro e w2 ⟨rfl, k2⟩
    have hH2 := HH.out.bl k2
    have K2 := Lib.hid (HK.out.trans k2)
    clear b0 b1 b2 b3 b4 b5 b6 k2
    obtain ⟨b0, b1, b2, b3, b4, b5, b6⟩ := hH2.seven
    have HH2 := Lib.hid hH2
    clear hH2
    go_wp2_with fail
    refine (HcXd.out _).mono ?_
    rintro e w3 ⟨rfl, k3⟩
    have K3 := Lib.hid (K2.out.trans k3)
    clear k3
    go_wp2_with fail
    refine (HcU.out _).mono ?_
    rintro e w4 ⟨rfl, k4⟩
    have K4 := Lib.hid (K3.out.trans k4)
    clear k4
    go_wp2
    go_ret
    exact ⟨rfl, K4.out⟩
set_option maxRecDepth 100000 in
set_option maxHeartbeats 4000000 in
theorem refText_up2 (i : Ins) (h : Good i) (w : World) (hop : 2 ≤ i.op ∧ i.op ≤ 2) : Calls Tryz.prog 15 #[.agg i.cells] w fun e w' => e = .returned (str (textL i)) ∧ Bl w w' := by
  have hi := h.in64
  obtain ⟨k, hk⟩ : ∃ k : Nat, i.op = (k : Int) := ⟨i.op.toNat, by omega⟩
  have ho := h.op
  have hod : i.od = 0 := h.od (by omega)
  have hf : prt (frm i.op) = [0, 4] := by
    have : frm i.op = 1 := by
      unfold frm
      repeat' split
      all_goals omega
    rw [this]; decide
  have hbl := nm_len i.op
  have hN := refName_any k (by omega) (by omega)
  have hnm : nmT.getD k [] = nm i.op := by rw [hk, nm_nat k (by omega) (by omega)]
  rw [hnm] at hN
  rw [← hk] at hN
  have hT : textL i = ((((nm i.op ++ [32]) ++ (120 :: Lib.itoa i.rd)) ++ [44, 32]) ++ (Lib.itoa (up i.im))) := by
    unfold textL
    rw [hf, hod]
    simp [tl, told, fld, ordOf, ordT, List.append_assoc]
  rw [hT]
  have ln := itoa_len _ hi.im
  have ld := itoa_len _ hi.rd
  have l1 := itoa_len _ hi.r1
  have l2 := itoa_len _ hi.r2
  have hx := Has.new w i.cells 28
  obtain ⟨b0, b1, b2, b3, b4, b5, b6⟩ := hx.seven
  have k0 := (Bl.refl w).alloc i.cells 28
  have cN := fun w => dec_any i.im hi.im w
  have cXd := fun w => x_any i.rd hi.rd w
  have hub : -9223372036854775808 ≤ up i.im ∧ up i.im ≤ 9223372036854775807 := by unfold up; omega
  have lu := itoa_len _ hub
  have cU := fun w => dec_any (up i.im) hub w
  generalize Lib.itoa (up i.im) = U at *
  generalize nm i.op = base at *
  generalize Lib.itoa i.im = N at *
  obtain ⟨Xd, hXd⟩ : ∃ X, X = 120 :: Lib.itoa i.rd := ⟨_, rfl⟩
  have jXd : Xd.length ≤ 22 := by rw [hXd]; simp; omega
  rw [← hXd] at cXd ⊢
  obtain ⟨y0, hy0, ly0, ay0⟩ := add_two base [32] 10 1 hbl (by decide) (by decide) (by decide)
  rw [← hy0]
  obtain ⟨y1, hy1, ly1, ay1⟩ := add_two y0 Xd 11 22 ly0 jXd (by decide) (by decide)
  rw [← hy1]
  obtain ⟨y2, hy2, ly2, ay2⟩ := add_two y1 [44, 32] 33 2 ly1 (by decide) (by decide) (by decide)
  rw [← hy2]
  obtain ⟨y3, hy3, ly3, ay3⟩ := add_two y2 U 35 21 ly2 lu (by decide) (by decide)
  rw [← hy3]
  clear hy0 ly0 hy1 ly1 hy2 ly2 hy3 ly3 ln ld l1 l2 hbl hT hf hnm hXd jXd lu hub
  have HH := Lib.hid hx
  have HK := Lib.hid k0
  have HN := Lib.hid hN
  have HcN := Lib.hid cN
  have HcXd := Lib.hid cXd
  have HcU := Lib.hid cU
  have q1 : (i.op == 1) = false := by rw [beq_eq_false_iff_ne]; omega
  have q2 : (i.op == 2) = true := by rw [beq_iff_eq]; omega
  have q3 : (i.op == 3) = false := by rw [beq_eq_false_iff_ne]; omega
  have hup : i.im % 4096 = 0 := h.up (by unfold frm; rw [if_pos (by omega)])
  have him := h.im
  clear hx k0 hN cN hod h hi hk cXd cU
  obtain ⟨o1, o2⟩ := hop
  rcases Int.lt_or_le i.im 0 with hneg | hpos
  · have htd : i.im.tdiv 4096 = up i.im - 1048576 := by rw [Int.tdiv_eq_ediv_of_dvd (Int.dvd_of_emod_eq_zero hup)]; unfold up; omega
    have hu1 : up i.im < 1048576 := by unfold up; omega
    have hu0 : 0 ≤ up i.im := by unfold up; omega
    generalize up i.im = uu at *
    clear hneg hup
    go_enter Tryz.func15, Tryz.ntmps15
    go_wp2_with fail
    refine (HN.out _).mono ?_
    rintro e w1 ⟨rfl, rfl⟩
    go_wp2_with fail
    refine (HcN.out _).mono ?_
    rintro e w2 ⟨rfl, k2⟩
    have hH2 := HH.out.bl k2
    have K2 := Lib.hid (HK.out.trans k2)
    clear b0 b1 b2 b3 b4 b5 b6 k2
    obtain ⟨b0, b1, b2, b3, b4, b5, b6⟩ := hH2.seven
    have HH2 := Lib.hid hH2
    clear hH2
    go_wp2_with fail
    refine (HcXd.out _).mono ?_
    rintro e w3 ⟨rfl, k3⟩
    have K3 := Lib.hid (K2.out.trans k3)
    clear k3
    go_wp2_with fail
    refine (HcU.out _).mono ?_
    rintro e w4 ⟨rfl, k4⟩
    have K4 := Lib.hid (K3.out.trans k4)
    clear k4
    go_wp2
    go_ret
    exact ⟨rfl, K4.out⟩
  · have htd : i.im.tdiv 4096 = up i.im := by rw [Int.tdiv_eq_ediv_of_dvd (Int.dvd_of_emod_eq_zero hup)]; unfold up; omega
    have hu1 : up i.im < 1048576 := by unfold up; omega
    have hu0 : 0 ≤ up i.im := by unfold up; omega
    generalize up i.im = uu at *
    clear hpos hup
    go_enter Tryz.func15, Tryz.ntmps15
    go_wp2_with fail
    refine (HN.out _).mono ?_
    rintro e w1 ⟨rfl, rfl⟩
    go_wp2_with fail
    refine (HcN.out _).mono ?_
    rintro e w2 ⟨rfl, k2⟩
    have hH2 := HH.out.bl k2
    have K2 := Lib.hid (HK.out.trans k2)
    clear b0 b1 b2 b3 b4 b5 b6 k2
    obtain ⟨b0, b1, b2, b3, b4, b5, b6⟩ := hH2.seven
    have HH2 := Lib.hid hH2
    clear hH2
    go_wp2_with fail
    refine (HcXd.out _).mono ?_
    rintro e w3 ⟨rfl, k3⟩
    have K3 := Lib.hid (K2.out.trans k3)
    clear k3
    go_wp2_with fail
    refine (HcU.out _).mono ?_
    rintro e w4 ⟨rfl, k4⟩
    have K4 := Lib.hid (K3.out.trans k4)
    clear k4
    go_wp2
    go_ret
    exact ⟨rfl, K4.out⟩

end Go.Proofs.YtionnhjldcpmjaaGreatDoor
