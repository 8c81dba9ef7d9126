/-
  The text of an instruction, as the reference tells it.
  The text of an instruction, as the reference tells it.
  The text of an instruction, as the reference tells it.
-/
import Derived.Test.YtionnhjldcpmjaaGreatDoorRefT
set_option linter.unusedVariables false
set_option linter.unusedSimpArgs false
namespace Go.Proofs.YtionnhjldcpmjaaGreatDoor
open Go.RowKit
set_option maxRecDepth 100000 in
set_option maxHeartbeats 4000000 in
theorem refText_br (i : Ins) (h : Good i) (w : World) (hop : 5 ≤ i.op ∧ i.op ≤ 10) : Calls Tryz.prog 15 #[.agg i.cells] w fun e w' => e = .returned (str (textL i)) ∧ Bl w w' := by
  have hi := h.in64
  obtain ⟨k, hk⟩ : ∃ k : Nat, i.op = (k : Int) := ⟨i.op.toNat, by omega⟩
  have ho := h.op
  have hod : i.od = 0 := h.od (by omega)
  have hf : prt (frm i.op) = [1, 2, 3] := by
    have : frm i.op = 4 := by
      unfold frm
      repeat' split
      all_goals omega
    rw [this]; decide
  have hbl := nm_len i.op
  have hN := refName_any k (by omega) (by omega)
  have hnm : nmT.getD k [] = nm i.op := by rw [hk, nm_nat k (by omega) (by omega)]
  rw [hnm] at hN
  rw [← hk] at hN
  have hT : textL i = ((((((nm i.op ++ [32]) ++ (120 :: Lib.itoa i.r1)) ++ [44, 32]) ++ (120 :: Lib.itoa i.r2)) ++ [44, 32]) ++ (Lib.itoa i.im)) := by
    unfold textL
    rw [hf, hod]
    simp [tl, told, fld, ordOf, ordT, List.append_assoc]
  rw [hT]
  have ln := itoa_len _ hi.im
  have ld := itoa_len _ hi.rd
  have l1 := itoa_len _ hi.r1
  have l2 := itoa_len _ hi.r2
  have hx := Has.new w i.cells 28
  obtain ⟨b0, b1, b2, b3, b4, b5, b6⟩ := hx.seven
  have k0 := (Bl.refl w).alloc i.cells 28
  have cN := fun w => dec_any i.im hi.im w
  have cX1 := fun w => x_any i.r1 hi.r1 w
  have cX2 := fun w => x_any i.r2 hi.r2 w
  generalize nm i.op = base at *
  generalize Lib.itoa i.im = N at *
  obtain ⟨X1, hX1⟩ : ∃ X, X = 120 :: Lib.itoa i.r1 := ⟨_, rfl⟩
  have jX1 : X1.length ≤ 22 := by rw [hX1]; simp; omega
  rw [← hX1] at cX1 ⊢
  obtain ⟨X2, hX2⟩ : ∃ X, X = 120 :: Lib.itoa i.r2 := ⟨_, rfl⟩
  have jX2 : X2.length ≤ 22 := by rw [hX2]; simp; omega
  rw [← hX2] at cX2 ⊢
  obtain ⟨y0, hy0, ly0, ay0⟩ := add_two base [32] 10 1 hbl (by decide) (by decide) (by decide)
  rw [← hy0]
  obtain ⟨y1, hy1, ly1, ay1⟩ := add_two y0 X1 11 22 ly0 jX1 (by decide) (by decide)
  rw [← hy1]
  obtain ⟨y2, hy2, ly2, ay2⟩ := add_two y1 [44, 32] 33 2 ly1 (by decide) (by decide) (by decide)
  rw [← hy2]
  obtain ⟨y3, hy3, ly3, ay3⟩ := add_two y2 X2 35 22 ly2 jX2 (by decide) (by decide)
  rw [← hy3]
  obtain ⟨y4, hy4, ly4, ay4⟩ := add_two y3 [44, 32] 57 2 ly3 (by decide) (by decide) (by decide)
  rw [← hy4]
  obtain ⟨y5, hy5, ly5, ay5⟩ := add_two y4 N 59 21 ly4 ln (by decide) (by decide)
  rw [← hy5]
  clear hy0 ly0 hy1 ly1 hy2 ly2 hy3 ly3 hy4 ly4 hy5 ly5 ln ld l1 l2 hbl hT hf hnm hX1 jX1 hX2 jX2
  have HH := Lib.hid hx
  have HK := Lib.hid k0
  have HN := Lib.hid hN
  have HcN := Lib.hid cN
  have HcX1 := Lib.hid cX1
  have HcX2 := Lib.hid cX2
  have q1 : (i.op == 1) = false := by rw [beq_eq_false_iff_ne]; omega
  have q2 : (i.op == 2) = false := by rw [beq_eq_false_iff_ne]; omega
  have q3 : (i.op == 3) = false := by rw [beq_eq_false_iff_ne]; omega
  clear hx k0 hN cN hod h hi hk cX1 cX2
  obtain ⟨o1, o2⟩ := hop
  go_enter Tryz.func15, Tryz.ntmps15
  go_wp2_with fail
  refine (HN.out _).mono ?_
  rintro e w1 ⟨rfl, rfl⟩
  go_wp2_with fail
  refine (HcN.out _).mono ?_
  rintro e w2 ⟨rfl, k2⟩
  have hH2 := HH.out.bl k2
  have K2 := Lib.hid (HK.out.trans k2)
  clear b0 b1 b2 b3 b4 b5 b6 k2
  obtain ⟨b0, b1, b2, b3, b4, b5, b6⟩ := hH2.seven
  have HH2 := Lib.hid hH2
  clear hH2
  go_wp2
  go_region_held3 (fun w' => w'.cell? ⟨w.heap.size, 1, none⟩ = some (.int .i64 i.rd) ∧ w'.cell? ⟨w.heap.size, 2, none⟩ = some (.int .i64 i.r1) ∧ w'.cell? ⟨w.heap.size, 3, none⟩ = some (.int .i64 i.r2) ∧ Bl w w') (first | assumption | exact ⟨b1, b2, b3, K2.out⟩ | exact ⟨b1, b2, b3, K2.out.drew⟩) (first | (go_at_call 29; refine (HcX1.out _).mono ?_; rintro e w9 ⟨rfl, k9⟩; have hkk := keep4 (by assumption) k9) | (go_at_call 29; refine (HcX2.out _).mono ?_; rintro e w9 ⟨rfl, k9⟩; have hkk := keep4 (by assumption) k9))
  all_goals go_wp2
  all_goals go_ret
  all_goals exact ⟨rfl, hkk.2.2.2⟩
set_option maxRecDepth 100000 in
set_option maxHeartbeats 4000000 in
theorem refText_im1 (i : Ins) (h : Good i) (w : World) (hop : 4 ≤ i.op ∧ i.op ≤ 4) : Calls Tryz.prog 15 #[.agg i.cells] w fun e w' => e = .returned (str (textL i)) ∧ Bl w w' := by
  have hi := h.in64
  obtain ⟨k, hk⟩ : ∃ k : Nat, i.op = (k : Int) := ⟨i.op.toNat, by omega⟩
  have ho := h.op
  have hod : i.od = 0 := h.od (by omega)
  have hf : prt (frm i.op) = [0, 3, 1] := by
    have : frm i.op = 3 := by
      unfold frm
      repeat' split
      all_goals omega
    rw [this]; decide
  have hbl := nm_len i.op
  have hN := refName_any k (by omega) (by omega)
  have hnm : nmT.getD k [] = nm i.op := by rw [hk, nm_nat k (by omega) (by omega)]
  rw [hnm] at hN
  rw [← hk] at hN
  have hT : textL i = ((((((nm i.op ++ [32]) ++ (120 :: Lib.itoa i.rd)) ++ [44, 32]) ++ (Lib.itoa i.im)) ++ [44, 32]) ++ (120 :: Lib.itoa i.r1)) := by
    unfold textL
    rw [hf, hod]
    simp [tl, told, fld, ordOf, ordT, List.append_assoc]
  rw [hT]
  have ln := itoa_len _ hi.im
  have ld := itoa_len _ hi.rd
  have l1 := itoa_len _ hi.r1
  have l2 := itoa_len _ hi.r2
  have hx := Has.new w i.cells 28
  obtain ⟨b0, b1, b2, b3, b4, b5, b6⟩ := hx.seven
  have k0 := (Bl.refl w).alloc i.cells 28
  have cN := fun w => dec_any i.im hi.im w
  have cXd := fun w => x_any i.rd hi.rd w
  have cX1 := fun w => x_any i.r1 hi.r1 w
  generalize nm i.op = base at *
  generalize Lib.itoa i.im = N at *
  obtain ⟨Xd, hXd⟩ : ∃ X, X = 120 :: Lib.itoa i.rd := ⟨_, rfl⟩
  have jXd : Xd.length ≤ 22 := by rw [hXd]; simp; omega
  rw [← hXd] at cXd ⊢
  obtain ⟨X1, hX1⟩ : ∃ X, X = 120 :: Lib.itoa i.r1 := ⟨_, rfl⟩
  have jX1 : X1.length ≤ 22 := by rw [hX1]; simp; omega
  rw [← hX1] at cX1 ⊢
  obtain ⟨y0, hy0, ly0, ay0⟩ := add_two base [32] 10 1 hbl (by decide) (by decide) (by decide)
  rw [← hy0]
  obtain ⟨y1, hy1, ly1, ay1⟩ := add_two y0 Xd 11 22 ly0 jXd (by decide) (by decide)
  rw [← hy1]
  obtain ⟨y2, hy2, ly2, ay2⟩ := add_two y1 [44, 32] 33 2 ly1 (by decide) (by decide) (by decide)
  rw [← hy2]
  obtain ⟨y3, hy3, ly3, ay3⟩ := add_two y2 N 35 21 ly2 ln (by decide) (by decide)
  rw [← hy3]
  obtain ⟨y4, hy4, ly4, ay4⟩ := add_two y3 [44, 32] 56 2 ly3 (by decide) (by decide) (by decide)
  rw [← hy4]
  obtain ⟨y5, hy5, ly5, ay5⟩ := add_two y4 X1 58 22 ly4 jX1 (by decide) (by decide)
  rw [← hy5]
  clear hy0 ly0 hy1 ly1 hy2 ly2 hy3 ly3 hy4 ly4 hy5 ly5 ln ld l1 l2 hbl hT hf hnm hXd jXd hX1 jX1
  have HH := Lib.hid hx
  have HK := Lib.hid k0
  have HN := Lib.hid hN
  have HcN := Lib.hid cN
  have HcXd := Lib.hid cXd
  have HcX1 := Lib.hid cX1
  have q1 : (i.op == 1) = false := by rw [beq_eq_false_iff_ne]; omega
  have q2 : (i.op == 2) = false := by rw [beq_eq_false_iff_ne]; omega
  have q3 : (i.op == 3) = false := by rw [beq_eq_false_iff_ne]; omega
  clear hx k0 hN cN hod h hi hk cXd cX1
  obtain ⟨o1, o2⟩ := hop
  go_enter Tryz.func15, Tryz.ntmps15
  go_wp2_with fail
  refine (HN.out _).mono ?_
  rintro e w1 ⟨rfl, rfl⟩
  go_wp2_with fail
  refine (HcN.out _).mono ?_
  rintro e w2 ⟨rfl, k2⟩
  have hH2 := HH.out.bl k2
  have K2 := Lib.hid (HK.out.trans k2)
  clear b0 b1 b2 b3 b4 b5 b6 k2
  obtain ⟨b0, b1, b2, b3, b4, b5, b6⟩ := hH2.seven
  have HH2 := Lib.hid hH2
  clear hH2
  go_wp2
  go_region_held3 (fun w' => w'.cell? ⟨w.heap.size, 1, none⟩ = some (.int .i64 i.rd) ∧ w'.cell? ⟨w.heap.size, 2, none⟩ = some (.int .i64 i.r1) ∧ w'.cell? ⟨w.heap.size, 3, none⟩ = some (.int .i64 i.r2) ∧ Bl w w') (first | assumption | exact ⟨b1, b2, b3, K2.out⟩ | exact ⟨b1, b2, b3, K2.out.drew⟩) (first | (go_at_call 29; refine (HcXd.out _).mono ?_; rintro e w9 ⟨rfl, k9⟩; have hkk := keep4 (by assumption) k9) | (go_at_call 29; refine (HcX1.out _).mono ?_; rintro e w9 ⟨rfl, k9⟩; have hkk := keep4 (by assumption) k9))
  all_goals go_wp2
  all_goals go_ret
  all_goals exact ⟨rfl, hkk.2.2.2⟩
set_option maxRecDepth 100000 in
set_option maxHeartbeats 4000000 in
theorem refText_im2 (i : Ins) (h : Good i) (w : World) (hop : 11 ≤ i.op ∧ i.op ≤ 17) : Calls Tryz.prog 15 #[.agg i.cells] w fun e w' => e = .returned (str (textL i)) ∧ Bl w w' := by
  have hi := h.in64
  obtain ⟨k, hk⟩ : ∃ k : Nat, i.op = (k : Int) := ⟨i.op.toNat, by omega⟩
  have ho := h.op
  have hod : i.od = 0 := h.od (by omega)
  have hf : prt (frm i.op) = [0, 3, 1] := by
    have : frm i.op = 3 := by
      unfold frm
      repeat' split
      all_goals omega
    rw [this]; decide
  have hbl := nm_len i.op
  have hN := refName_any k (by omega) (by omega)
  have hnm : nmT.getD k [] = nm i.op := by rw [hk, nm_nat k (by omega) (by omega)]
  rw [hnm] at hN
  rw [← hk] at hN
  have hT : textL i = ((((((nm i.op ++ [32]) ++ (120 :: Lib.itoa i.rd)) ++ [44, 32]) ++ (Lib.itoa i.im)) ++ [44, 32]) ++ (120 :: Lib.itoa i.r1)) := by
    unfold textL
    rw [hf, hod]
    simp [tl, told, fld, ordOf, ordT, List.append_assoc]
  rw [hT]
  have ln := itoa_len _ hi.im
  have ld := itoa_len _ hi.rd
  have l1 := itoa_len _ hi.r1
  have l2 := itoa_len _ hi.r2
  have hx := Has.new w i.cells 28
  obtain ⟨b0, b1, b2, b3, b4, b5, b6⟩ := hx.seven
  have k0 := (Bl.refl w).alloc i.cells 28
  have cN := fun w => dec_any i.im hi.im w
  have cXd := fun w => x_any i.rd hi.rd w
  have cX1 := fun w => x_any i.r1 hi.r1 w
  generalize nm i.op = base at *
  generalize Lib.itoa i.im = N at *
  obtain ⟨Xd, hXd⟩ : ∃ X, X = 120 :: Lib.itoa i.rd := ⟨_, rfl⟩
  have jXd : Xd.length ≤ 22 := by rw [hXd]; simp; omega
  rw [← hXd] at cXd ⊢
  obtain ⟨X1, hX1⟩ : ∃ X, X = 120 :: Lib.itoa i.r1 := ⟨_, rfl⟩
  have jX1 : X1.length ≤ 22 := by rw [hX1]; simp; omega
  rw [← hX1] at cX1 ⊢
  obtain ⟨y0, hy0, ly0, ay0⟩ := add_two base [32] 10 1 hbl (by decide) (by decide) (by decide)
  rw [← hy0]
  obtain ⟨y1, hy1, ly1, ay1⟩ := add_two y0 Xd 11 22 ly0 jXd (by decide) (by decide)
  rw [← hy1]
  obtain ⟨y2, hy2, ly2, ay2⟩ := add_two y1 [44, 32] 33 2 ly1 (by decide) (by decide) (by decide)
  rw [← hy2]
  obtain ⟨y3, hy3, ly3, ay3⟩ := add_two y2 N 35 21 ly2 ln (by decide) (by decide)
  rw [← hy3]
  obtain ⟨y4, hy4, ly4, ay4⟩ := add_two y3 [44, 32] 56 2 ly3 (by decide) (by decide) (by decide)
  rw [← hy4]
  obtain ⟨y5, hy5, ly5, ay5⟩ := add_two y4 X1 58 22 ly4 jX1 (by decide) (by decide)
  rw [← hy5]
  clear hy0 ly0 hy1 ly1 hy2 ly2 hy3 ly3 hy4 ly4 hy5 ly5 ln ld l1 l2 hbl hT hf hnm hXd jXd hX1 jX1
  have HH := Lib.hid hx
  have HK := Lib.hid k0
  have HN := Lib.hid hN
  have HcN := Lib.hid cN
  have HcXd := Lib.hid cXd
  have HcX1 := Lib.hid cX1
  have q1 : (i.op == 1) = false := by rw [beq_eq_false_iff_ne]; omega
  have q2 : (i.op == 2) = false := by rw [beq_eq_false_iff_ne]; omega
  have q3 : (i.op == 3) = false := by rw [beq_eq_false_iff_ne]; omega
  clear hx k0 hN cN hod h hi hk cXd cX1
  obtain ⟨o1, o2⟩ := hop
  go_enter Tryz.func15, Tryz.ntmps15
  go_wp2_with fail
  refine (HN.out _).mono ?_
  rintro e w1 ⟨rfl, rfl⟩
  go_wp2_with fail
  refine (HcN.out _).mono ?_
  rintro e w2 ⟨rfl, k2⟩
  have hH2 := HH.out.bl k2
  have K2 := Lib.hid (HK.out.trans k2)
  clear b0 b1 b2 b3 b4 b5 b6 k2
  obtain ⟨b0, b1, b2, b3, b4, b5, b6⟩ := hH2.seven
  have HH2 := Lib.hid hH2
  clear hH2
  go_wp2
  go_region_held3 (fun w' => w'.cell? ⟨w.heap.size, 1, none⟩ = some (.int .i64 i.rd) ∧ w'.cell? ⟨w.heap.size, 2, none⟩ = some (.int .i64 i.r1) ∧ w'.cell? ⟨w.heap.size, 3, none⟩ = some (.int .i64 i.r2) ∧ Bl w w') (first | assumption | exact ⟨b1, b2, b3, K2.out⟩ | exact ⟨b1, b2, b3, K2.out.drew⟩) (first | (go_at_call 29; refine (HcXd.out _).mono ?_; rintro e w9 ⟨rfl, k9⟩; have hkk := keep4 (by assumption) k9) | (go_at_call 29; refine (HcX1.out _).mono ?_; rintro e w9 ⟨rfl, k9⟩; have hkk := keep4 (by assumption) k9))
  all_goals go_wp2
  all_goals go_ret
  all_goals exact ⟨rfl, hkk.2.2.2⟩

end Go.Proofs.YtionnhjldcpmjaaGreatDoor

set_option linter.unusedVariables false
set_option linter.unusedSimpArgs false
namespace Go.Proofs.YtionnhjldcpmjaaGreatDoor
open Go.RowKit
set_option maxRecDepth 100000 in
set_option maxHeartbeats 4000000 in
theorem refText_st (i : Ins) (h : Good i) (w : World) (hop : 18 ≤ i.op ∧ i.op ≤ 21) : Calls Tryz.prog 15 #[.agg i.cells] w fun e w' => e = .returned (str (textL i)) ∧ Bl w w' := by
  have hi := h.in64
  obtain ⟨k, hk⟩ : ∃ k : Nat, i.op = (k : Int) := ⟨i.op.toNat, by omega⟩
  have ho := h.op
  have hod : i.od = 0 := h.od (by omega)
  have hf : prt (frm i.op) = [2, 3, 1] := by
    have : frm i.op = 5 := by
      unfold frm
      repeat' split
      all_goals omega
    rw [this]; decide
  have hbl := nm_len i.op
  have hN := refName_any k (by omega) (by omega)
  have hnm : nmT.getD k [] = nm i.op := by rw [hk, nm_nat k (by omega) (by omega)]
  rw [hnm] at hN
  rw [← hk] at hN
  have hT : textL i = ((((((nm i.op ++ [32]) ++ (120 :: Lib.itoa i.r2)) ++ [44, 32]) ++ (Lib.itoa i.im)) ++ [44, 32]) ++ (120 :: Lib.itoa i.r1)) := by
    unfold textL
    rw [hf, hod]
    simp [tl, told, fld, ordOf, ordT, List.append_assoc]
  rw [hT]
  have ln := itoa_len _ hi.im
  have ld := itoa_len _ hi.rd
  have l1 := itoa_len _ hi.r1
  have l2 := itoa_len _ hi.r2
  have hx := Has.new w i.cells 28
  obtain ⟨b0, b1, b2, b3, b4, b5, b6⟩ := hx.seven
  have k0 := (Bl.refl w).alloc i.cells 28
  have cN := fun w => dec_any i.im hi.im w
  have cX2 := fun w => x_any i.r2 hi.r2 w
  have cX1 := fun w => x_any i.r1 hi.r1 w
  generalize nm i.op = base at *
  generalize Lib.itoa i.im = N at *
  obtain ⟨X2, hX2⟩ : ∃ X, X = 120 :: Lib.itoa i.r2 := ⟨_, rfl⟩
  have jX2 : X2.length ≤ 22 := by rw [hX2]; simp; omega
  rw [← hX2] at cX2 ⊢
  obtain ⟨X1, hX1⟩ : ∃ X, X = 120 :: Lib.itoa i.r1 := ⟨_, rfl⟩
  have jX1 : X1.length ≤ 22 := by rw [hX1]; simp; omega
  rw [← hX1] at cX1 ⊢
  obtain ⟨y0, hy0, ly0, ay0⟩ := add_two base [32] 10 1 hbl (by decide) (by decide) (by decide)
  rw [← hy0]
  obtain ⟨y1, hy1, ly1, ay1⟩ := add_two y0 X2 11 22 ly0 jX2 (by decide) (by decide)
  rw [← hy1]
  obtain ⟨y2, hy2, ly2, ay2⟩ := add_two y1 [44, 32] 33 2 ly1 (by decide) (by decide) (by decide)
  rw [← hy2]
  obtain ⟨y3, hy3, ly3, ay3⟩ := add_two y2 N 35 21 ly2 ln (by decide) (by decide)
  rw [← hy3]
  obtain ⟨y4, hy4, ly4, ay4⟩ := add_two y3 [44, 32] 56 2 ly3 (by decide) (by decide) (by decide)
  rw [← hy4]
  obtain ⟨y5, hy5, ly5, ay5⟩ := add_two y4 X1 58 22 ly4 jX1 (by decide) (by decide)
  rw [← hy5]
  clear hy0 ly0 hy1 ly1 hy2 ly2 hy3 ly3 hy4 ly4 hy5 ly5 ln ld l1 l2 hbl hT hf hnm hX2 jX2 hX1 jX1
  have HH := Lib.hid hx
  have HK := Lib.hid k0
  have HN := Lib.hid hN
  have HcN := Lib.hid cN
  have HcX2 := Lib.hid cX2
  have HcX1 := Lib.hid cX1
  have q1 : (i.op == 1) = false := by rw [beq_eq_false_iff_ne]; omega
  have q2 : (i.op == 2) = false := by rw [beq_eq_false_iff_ne]; omega
  have q3 : (i.op == 3) = false := by rw [beq_eq_false_iff_ne]; omega
  clear hx k0 hN cN hod h hi hk cX2 cX1
  obtain ⟨o1, o2⟩ := hop
  go_enter Tryz.func15, Tryz.ntmps15
  go_wp2_with fail
  refine (HN.out _).mono ?_
  rintro e w1 ⟨rfl, rfl⟩
  go_wp2_with fail
  refine (HcN.out _).mono ?_
  rintro e w2 ⟨rfl, k2⟩
  have hH2 := HH.out.bl k2
  have K2 := Lib.hid (HK.out.trans k2)
  clear b0 b1 b2 b3 b4 b5 b6 k2
  obtain ⟨b0, b1, b2, b3, b4, b5, b6⟩ := hH2.seven
  have HH2 := Lib.hid hH2
  clear hH2
  go_wp2
  go_region_held3 (fun w' => w'.cell? ⟨w.heap.size, 1, none⟩ = some (.int .i64 i.rd) ∧ w'.cell? ⟨w.heap.size, 2, none⟩ = some (.int .i64 i.r1) ∧ w'.cell? ⟨w.heap.size, 3, none⟩ = some (.int .i64 i.r2) ∧ Bl w w') (first | assumption | exact ⟨b1, b2, b3, K2.out⟩ | exact ⟨b1, b2, b3, K2.out.drew⟩) (first | (go_at_call 29; refine (HcX2.out _).mono ?_; rintro e w9 ⟨rfl, k9⟩; have hkk := keep4 (by assumption) k9) | (go_at_call 29; refine (HcX1.out _).mono ?_; rintro e w9 ⟨rfl, k9⟩; have hkk := keep4 (by assumption) k9))
  all_goals go_wp2
  all_goals go_ret
  all_goals exact ⟨rfl, hkk.2.2.2⟩
set_option maxRecDepth 100000 in
set_option maxHeartbeats 4000000 in
theorem refText_ii1 (i : Ins) (h : Good i) (w : World) (hop : 22 ≤ i.op ∧ i.op ≤ 30) : Calls Tryz.prog 15 #[.agg i.cells] w fun e w' => e = .returned (str (textL i)) ∧ Bl w w' := by
  have hi := h.in64
  obtain ⟨k, hk⟩ : ∃ k : Nat, i.op = (k : Int) := ⟨i.op.toNat, by omega⟩
  have ho := h.op
  have hod : i.od = 0 := h.od (by omega)
  have hf : prt (frm i.op) = [0, 1, 3] := by
    have : frm i.op = 6 := by
      unfold frm
      repeat' split
      all_goals omega
    rw [this]; decide
  have hbl := nm_len i.op
  have hN := refName_any k (by omega) (by omega)
  have hnm : nmT.getD k [] = nm i.op := by rw [hk, nm_nat k (by omega) (by omega)]
  rw [hnm] at hN
  rw [← hk] at hN
  have hT : textL i = ((((((nm i.op ++ [32]) ++ (120 :: Lib.itoa i.rd)) ++ [44, 32]) ++ (120 :: Lib.itoa i.r1)) ++ [44, 32]) ++ (Lib.itoa i.im)) := by
    unfold textL
    rw [hf, hod]
    simp [tl, told, fld, ordOf, ordT, List.append_assoc]
  rw [hT]
  have ln := itoa_len _ hi.im
  have ld := itoa_len _ hi.rd
  have l1 := itoa_len _ hi.r1
  have l2 := itoa_len _ hi.r2
  have hx := Has.new w i.cells 28
  obtain ⟨b0, b1, b2, b3, b4, b5, b6⟩ := hx.seven
  have k0 := (Bl.refl w).alloc i.cells 28
  have cN := fun w => dec_any i.im hi.im w
  have cXd := fun w => x_any i.rd hi.rd w
  have cX1 := fun w => x_any i.r1 hi.r1 w
  generalize nm i.op = base at *
  generalize Lib.itoa i.im = N at *
  obtain ⟨Xd, hXd⟩ : ∃ X, X = 120 :: Lib.itoa i.rd := ⟨_, rfl⟩
  have jXd : Xd.length ≤ 22 := by rw [hXd]; simp; omega
  rw [← hXd] at cXd ⊢
  obtain ⟨X1, hX1⟩ : ∃ X, X = 120 :: Lib.itoa i.r1 := ⟨_, rfl⟩
  have jX1 : X1.length ≤ 22 := by rw [hX1]; simp; omega
  rw [← hX1] at cX1 ⊢
  obtain ⟨y0, hy0, ly0, ay0⟩ := add_two base [32] 10 1 hbl (by decide) (by decide) (by decide)
  rw [← hy0]
  obtain ⟨y1, hy1, ly1, ay1⟩ := add_two y0 Xd 11 22 ly0 jXd (by decide) (by decide)
  rw [← hy1]
  obtain ⟨y2, hy2, ly2, ay2⟩ := add_two y1 [44, 32] 33 2 ly1 (by decide) (by decide) (by decide)
  rw [← hy2]
  obtain ⟨y3, hy3, ly3, ay3⟩ := add_two y2 X1 35 22 ly2 jX1 (by decide) (by decide)
  rw [← hy3]
  obtain ⟨y4, hy4, ly4, ay4⟩ := add_two y3 [44, 32] 57 2 ly3 (by decide) (by decide) (by decide)
  rw [← hy4]
  obtain ⟨y5, hy5, ly5, ay5⟩ := add_two y4 N 59 21 ly4 ln (by decide) (by decide)
  rw [← hy5]
  clear hy0 ly0 hy1 ly1 hy2 ly2 hy3 ly3 hy4 ly4 hy5 ly5 ln ld l1 l2 hbl hT hf hnm hXd jXd hX1 jX1
  have HH := Lib.hid hx
  have HK := Lib.hid k0
  have HN := Lib.hid hN
  have HcN := Lib.hid cN
  have HcXd := Lib.hid cXd
  have HcX1 := Lib.hid cX1
  have q1 : (i.op == 1) = false := by rw [beq_eq_false_iff_ne]; omega
  have q2 : (i.op == 2) = false := by rw [beq_eq_false_iff_ne]; omega
  have q3 : (i.op == 3) = false := by rw [beq_eq_false_iff_ne]; omega
  clear hx k0 hN cN hod h hi hk cXd cX1
  obtain ⟨o1, o2⟩ := hop
  go_enter Tryz.func15, Tryz.ntmps15
  go_wp2_with fail
  refine (HN.out _).mono ?_
  rintro e w1 ⟨rfl, rfl⟩
  go_wp2_with fail
  refine (HcN.out _).mono ?_
  rintro e w2 ⟨rfl, k2⟩
  have hH2 := HH.out.bl k2
  have K2 := Lib.hid (HK.out.trans k2)
  clear b0 b1 b2 b3 b4 b5 b6 k2
  obtain ⟨b0, b1, b2, b3, b4, b5, b6⟩ := hH2.seven
  have HH2 := Lib.hid hH2
  clear hH2
  go_wp2
  go_region_held3 (fun w' => w'.cell? ⟨w.heap.size, 1, none⟩ = some (.int .i64 i.rd) ∧ w'.cell? ⟨w.heap.size, 2, none⟩ = some (.int .i64 i.r1) ∧ w'.cell? ⟨w.heap.size, 3, none⟩ = some (.int .i64 i.r2) ∧ Bl w w') (first | assumption | exact ⟨b1, b2, b3, K2.out⟩ | exact ⟨b1, b2, b3, K2.out.drew⟩) (first | (go_at_call 29; refine (HcXd.out _).mono ?_; rintro e w9 ⟨rfl, k9⟩; have hkk := keep4 (by assumption) k9) | (go_at_call 29; refine (HcX1.out _).mono ?_; rintro e w9 ⟨rfl, k9⟩; have hkk := keep4 (by assumption) k9))
  all_goals go_wp2
  all_goals go_ret
  all_goals exact ⟨rfl, hkk.2.2.2⟩
set_option maxRecDepth 100000 in
set_option maxHeartbeats 4000000 in
theorem refText_ii2 (i : Ins) (h : Good i) (w : World) (hop : 41 ≤ i.op ∧ i.op ≤ 44) : Calls Tryz.prog 15 #[.agg i.cells] w fun e w' => e = .returned (str (textL i)) ∧ Bl w w' := by
  have hi := h.in64
  obtain ⟨k, hk⟩ : ∃ k : Nat, i.op = (k : Int) := ⟨i.op.toNat, by omega⟩
  have ho := h.op
  have hod : i.od = 0 := h.od (by omega)
  have hf : prt (frm i.op) = [0, 1, 3] := by
    have : frm i.op = 6 := by
      unfold frm
      repeat' split
      all_goals omega
    rw [this]; decide
  have hbl := nm_len i.op
  have hN := refName_any k (by omega) (by omega)
  have hnm : nmT.getD k [] = nm i.op := by rw [hk, nm_nat k (by omega) (by omega)]
  rw [hnm] at hN
  rw [← hk] at hN
  have hT : textL i = ((((((nm i.op ++ [32]) ++ (120 :: Lib.itoa i.rd)) ++ [44, 32]) ++ (120 :: Lib.itoa i.r1)) ++ [44, 32]) ++ (Lib.itoa i.im)) := by
    unfold textL
    rw [hf, hod]
    simp [tl, told, fld, ordOf, ordT, List.append_assoc]
  rw [hT]
  have ln := itoa_len _ hi.im
  have ld := itoa_len _ hi.rd
  have l1 := itoa_len _ hi.r1
  have l2 := itoa_len _ hi.r2
  have hx := Has.new w i.cells 28
  obtain ⟨b0, b1, b2, b3, b4, b5, b6⟩ := hx.seven
  have k0 := (Bl.refl w).alloc i.cells 28
  have cN := fun w => dec_any i.im hi.im w
  have cXd := fun w => x_any i.rd hi.rd w
  have cX1 := fun w => x_any i.r1 hi.r1 w
  generalize nm i.op = base at *
  generalize Lib.itoa i.im = N at *
  obtain ⟨Xd, hXd⟩ : ∃ X, X = 120 :: Lib.itoa i.rd := ⟨_, rfl⟩
  have jXd : Xd.length ≤ 22 := by rw [hXd]; simp; omega
  rw [← hXd] at cXd ⊢
  obtain ⟨X1, hX1⟩ : ∃ X, X = 120 :: Lib.itoa i.r1 := ⟨_, rfl⟩
  have jX1 : X1.length ≤ 22 := by rw [hX1]; simp; omega
  rw [← hX1] at cX1 ⊢
  obtain ⟨y0, hy0, ly0, ay0⟩ := add_two base [32] 10 1 hbl (by decide) (by decide) (by decide)
  rw [← hy0]
  obtain ⟨y1, hy1, ly1, ay1⟩ := add_two y0 Xd 11 22 ly0 jXd (by decide) (by decide)
  rw [← hy1]
  obtain ⟨y2, hy2, ly2, ay2⟩ := add_two y1 [44, 32] 33 2 ly1 (by decide) (by decide) (by decide)
  rw [← hy2]
  obtain ⟨y3, hy3, ly3, ay3⟩ := add_two y2 X1 35 22 ly2 jX1 (by decide) (by decide)
  rw [← hy3]
  obtain ⟨y4, hy4, ly4, ay4⟩ := add_two y3 [44, 32] 57 2 ly3 (by decide) (by decide) (by decide)
  rw [← hy4]
  obtain ⟨y5, hy5, ly5, ay5⟩ := add_two y4 N 59 21 ly4 ln (by decide) (by decide)
  rw [← hy5]
  clear hy0 ly0 hy1 ly1 hy2 ly2 hy3 ly3 hy4 ly4 hy5 ly5 ln ld l1 l2 hbl hT hf hnm hXd jXd hX1 jX1
  have HH := Lib.hid hx
  have HK := Lib.hid k0
  have HN := Lib.hid hN
  have HcN := Lib.hid cN
  have HcXd := Lib.hid cXd
  have HcX1 := Lib.hid cX1
  have q1 : (i.op == 1) = false := by rw [beq_eq_false_iff_ne]; omega
  have q2 : (i.op == 2) = false := by rw [beq_eq_false_iff_ne]; omega
  have q3 : (i.op == 3) = false := by rw [beq_eq_false_iff_ne]; omega
  clear hx k0 hN cN hod h hi hk cXd cX1
  obtain ⟨o1, o2⟩ := hop
  go_enter Tryz.func15, Tryz.ntmps15
  go_wp2_with fail
  refine (HN.out _).mono ?_
  rintro e w1 ⟨rfl, rfl⟩
  go_wp2_with fail
  refine (HcN.out _).mono ?_
  rintro e w2 ⟨rfl, k2⟩
  have hH2 := HH.out.bl k2
  have K2 := Lib.hid (HK.out.trans k2)
  clear b0 b1 b2 b3 b4 b5 b6 k2
  obtain ⟨b0, b1, b2, b3, b4, b5, b6⟩ := hH2.seven
  have HH2 := Lib.hid hH2
  clear hH2
  go_wp2
  go_region_held3 (fun w' => w'.cell? ⟨w.heap.size, 1, none⟩ = some (.int .i64 i.rd) ∧ w'.cell? ⟨w.heap.size, 2, none⟩ = some (.int .i64 i.r1) ∧ w'.cell? ⟨w.heap.size, 3, none⟩ = some (.int .i64 i.r2) ∧ Bl w w') (first | assumption | exact ⟨b1, b2, b3, K2.out⟩ | exact ⟨b1, b2, b3, K2.out.drew⟩) (first | (go_at_call 29; refine (HcXd.out _).mono ?_; rintro e w9 ⟨rfl, k9⟩; have hkk := keep4 (by assumption) k9) | (go_at_call 29; refine (HcX1.out _).mono ?_; rintro e w9 ⟨rfl, k9⟩; have hkk := keep4 (by assumption) k9))
  all_goals go_wp2
  all_goals go_ret
  all_goals exact ⟨rfl, hkk.2.2.2⟩

end Go.Proofs.YtionnhjldcpmjaaGreatDoor

set_option linter.unusedVariables false
set_option linter.unusedSimpArgs false
namespace Go.Proofs.YtionnhjldcpmjaaGreatDoor
open Go.RowKit
set_option maxRecDepth 100000 in
set_option maxHeartbeats 4000000 in
theorem refText_rg1 (i : Ins) (h : Good i) (w : World) (hop : 31 ≤ i.op ∧ i.op ≤ 40) : Calls Tryz.prog 15 #[.agg i.cells] w fun e w' => e = .returned (str (textL i)) ∧ Bl w w' := by
  have hi := h.in64
  obtain ⟨k, hk⟩ : ∃ k : Nat, i.op = (k : Int) := ⟨i.op.toNat, by omega⟩
  have ho := h.op
  have hod : i.od = 0 := h.od (by omega)
  have hf : prt (frm i.op) = [0, 1, 2] := by
    have : frm i.op = 7 := by
      unfold frm
      repeat' split
      all_goals omega
    rw [this]; decide
  have hbl := nm_len i.op
  have hN := refName_any k (by omega) (by omega)
  have hnm : nmT.getD k [] = nm i.op := by rw [hk, nm_nat k (by omega) (by omega)]
  rw [hnm] at hN
  rw [← hk] at hN
  have hT : textL i = ((((((nm i.op ++ [32]) ++ (120 :: Lib.itoa i.rd)) ++ [44, 32]) ++ (120 :: Lib.itoa i.r1)) ++ [44, 32]) ++ (120 :: Lib.itoa i.r2)) := by
    unfold textL
    rw [hf, hod]
    simp [tl, told, fld, ordOf, ordT, List.append_assoc]
  rw [hT]
  have ln := itoa_len _ hi.im
  have ld := itoa_len _ hi.rd
  have l1 := itoa_len _ hi.r1
  have l2 := itoa_len _ hi.r2
  have hx := Has.new w i.cells 28
  obtain ⟨b0, b1, b2, b3, b4, b5, b6⟩ := hx.seven
  have k0 := (Bl.refl w).alloc i.cells 28
  have cN := fun w => dec_any i.im hi.im w
  have cXd := fun w => x_any i.rd hi.rd w
  have cX1 := fun w => x_any i.r1 hi.r1 w
  have cX2 := fun w => x_any i.r2 hi.r2 w
  generalize nm i.op = base at *
  generalize Lib.itoa i.im = N at *
  obtain ⟨Xd, hXd⟩ : ∃ X, X = 120 :: Lib.itoa i.rd := ⟨_, rfl⟩
  have jXd : Xd.length ≤ 22 := by rw [hXd]; simp; omega
  rw [← hXd] at cXd ⊢
  obtain ⟨X1, hX1⟩ : ∃ X, X = 120 :: Lib.itoa i.r1 := ⟨_, rfl⟩
  have jX1 : X1.length ≤ 22 := by rw [hX1]; simp; omega
  rw [← hX1] at cX1 ⊢
  obtain ⟨X2, hX2⟩ : ∃ X, X = 120 :: Lib.itoa i.r2 := ⟨_, rfl⟩
  have jX2 : X2.length ≤ 22 := by rw [hX2]; simp; omega
  rw [← hX2] at cX2 ⊢
  obtain ⟨y0, hy0, ly0, ay0⟩ := add_two base [32] 10 1 hbl (by decide) (by decide) (by decide)
  rw [← hy0]
  obtain ⟨y1, hy1, ly1, ay1⟩ := add_two y0 Xd 11 22 ly0 jXd (by decide) (by decide)
  rw [← hy1]
  obtain ⟨y2, hy2, ly2, ay2⟩ := add_two y1 [44, 32] 33 2 ly1 (by decide) (by decide) (by decide)
  rw [← hy2]
  obtain ⟨y3, hy3, ly3, ay3⟩ := add_two y2 X1 35 22 ly2 jX1 (by decide) (by decide)
  rw [← hy3]
  obtain ⟨y4, hy4, ly4, ay4⟩ := add_two y3 [44, 32] 57 2 ly3 (by decide) (by decide) (by decide)
  rw [← hy4]
  obtain ⟨y5, hy5, ly5, ay5⟩ := add_two y4 X2 59 22 ly4 jX2 (by decide) (by decide)
  rw [← hy5]
  clear hy0 ly0 hy1 ly1 hy2 ly2 hy3 ly3 hy4 ly4 hy5 ly5 ln ld l1 l2 hbl hT hf hnm hXd jXd hX1 jX1 hX2 jX2
  have HH := Lib.hid hx
  have HK := Lib.hid k0
  have HN := Lib.hid hN
  have HcN := Lib.hid cN
  have HcXd := Lib.hid cXd
  have HcX1 := Lib.hid cX1
  have HcX2 := Lib.hid cX2
  have q1 : (i.op == 1) = false := by rw [beq_eq_false_iff_ne]; omega
  have q2 : (i.op == 2) = false := by rw [beq_eq_false_iff_ne]; omega
  have q3 : (i.op == 3) = false := by rw [beq_eq_false_iff_ne]; omega
  clear hx k0 hN cN hod h hi hk cXd cX1 cX2
  obtain ⟨o1, o2⟩ := hop
  go_enter Tryz.func15, Tryz.ntmps15
  go_wp2_with fail
  refine (HN.out _).mono ?_
  rintro e w1 ⟨rfl, rfl⟩
  go_wp2_with fail
  refine (HcN.out _).mono ?_
  rintro e w2 ⟨rfl, k2⟩
  have hH2 := HH.out.bl k2
  have K2 := Lib.hid (HK.out.trans k2)
  clear b0 b1 b2 b3 b4 b5 b6 k2
  obtain ⟨b0, b1, b2, b3, b4, b5, b6⟩ := hH2.seven
  have HH2 := Lib.hid hH2
  clear hH2
  go_wp2
  go_region_held3 (fun w' => w'.cell? ⟨w.heap.size, 1, none⟩ = some (.int .i64 i.rd) ∧ w'.cell? ⟨w.heap.size, 2, none⟩ = some (.int .i64 i.r1) ∧ w'.cell? ⟨w.heap.size, 3, none⟩ = some (.int .i64 i.r2) ∧ Bl w w') (first | assumption | exact ⟨b1, b2, b3, K2.out⟩ | exact ⟨b1, b2, b3, K2.out.drew⟩) (first | (go_at_call 29; refine (HcXd.out _).mono ?_; rintro e w9 ⟨rfl, k9⟩; have hkk := keep4 (by assumption) k9) | (go_at_call 29; refine (HcX1.out _).mono ?_; rintro e w9 ⟨rfl, k9⟩; have hkk := keep4 (by assumption) k9) | (go_at_call 29; refine (HcX2.out _).mono ?_; rintro e w9 ⟨rfl, k9⟩; have hkk := keep4 (by assumption) k9))
  all_goals go_wp2
  all_goals go_ret
  all_goals exact ⟨rfl, hkk.2.2.2⟩
set_option maxRecDepth 100000 in
set_option maxHeartbeats 4000000 in
theorem refText_rg2 (i : Ins) (h : Good i) (w : World) (hop : 45 ≤ i.op ∧ i.op ≤ 62) : Calls Tryz.prog 15 #[.agg i.cells] w fun e w' => e = .returned (str (textL i)) ∧ Bl w w' := by
  have hi := h.in64
  obtain ⟨k, hk⟩ : ∃ k : Nat, i.op = (k : Int) := ⟨i.op.toNat, by omega⟩
  have ho := h.op
  have hod : i.od = 0 := h.od (by omega)
  have hf : prt (frm i.op) = [0, 1, 2] := by
    have : frm i.op = 7 := by
      unfold frm
      repeat' split
      all_goals omega
    rw [this]; decide
  have hbl := nm_len i.op
  have hN := refName_any k (by omega) (by omega)
  have hnm : nmT.getD k [] = nm i.op := by rw [hk, nm_nat k (by omega) (by omega)]
  rw [hnm] at hN
  rw [← hk] at hN
  have hT : textL i = ((((((nm i.op ++ [32]) ++ (120 :: Lib.itoa i.rd)) ++ [44, 32]) ++ (120 :: Lib.itoa i.r1)) ++ [44, 32]) ++ (120 :: Lib.itoa i.r2)) := by
    unfold textL
    rw [hf, hod]
    simp [tl, told, fld, ordOf, ordT, List.append_assoc]
  rw [hT]
  have ln := itoa_len _ hi.im
  have ld := itoa_len _ hi.rd
  have l1 := itoa_len _ hi.r1
  have l2 := itoa_len _ hi.r2
  have hx := Has.new w i.cells 28
  obtain ⟨b0, b1, b2, b3, b4, b5, b6⟩ := hx.seven
  have k0 := (Bl.refl w).alloc i.cells 28
  have cN := fun w => dec_any i.im hi.im w
  have cXd := fun w => x_any i.rd hi.rd w
  have cX1 := fun w => x_any i.r1 hi.r1 w
  have cX2 := fun w => x_any i.r2 hi.r2 w
  generalize nm i.op = base at *
  generalize Lib.itoa i.im = N at *
  obtain ⟨Xd, hXd⟩ : ∃ X, X = 120 :: Lib.itoa i.rd := ⟨_, rfl⟩
  have jXd : Xd.length ≤ 22 := by rw [hXd]; simp; omega
  rw [← hXd] at cXd ⊢
  obtain ⟨X1, hX1⟩ : ∃ X, X = 120 :: Lib.itoa i.r1 := ⟨_, rfl⟩
  have jX1 : X1.length ≤ 22 := by rw [hX1]; simp; omega
  rw [← hX1] at cX1 ⊢
  obtain ⟨X2, hX2⟩ : ∃ X, X = 120 :: Lib.itoa i.r2 := ⟨_, rfl⟩
  have jX2 : X2.length ≤ 22 := by rw [hX2]; simp; omega
  rw [← hX2] at cX2 ⊢
  obtain ⟨y0, hy0, ly0, ay0⟩ := add_two base [32] 10 1 hbl (by decide) (by decide) (by decide)
  rw [← hy0]
  obtain ⟨y1, hy1, ly1, ay1⟩ := add_two y0 Xd 11 22 ly0 jXd (by decide) (by decide)
  rw [← hy1]
  obtain ⟨y2, hy2, ly2, ay2⟩ := add_two y1 [44, 32] 33 2 ly1 (by decide) (by decide) (by decide)
  rw [← hy2]
  obtain ⟨y3, hy3, ly3, ay3⟩ := add_two y2 X1 35 22 ly2 jX1 (by decide) (by decide)
  rw [← hy3]
  obtain ⟨y4, hy4, ly4, ay4⟩ := add_two y3 [44, 32] 57 2 ly3 (by decide) (by decide) (by decide)
  rw [← hy4]
  obtain ⟨y5, hy5, ly5, ay5⟩ := add_two y4 X2 59 22 ly4 jX2 (by decide) (by decide)
  rw [← hy5]
  clear hy0 ly0 hy1 ly1 hy2 ly2 hy3 ly3 hy4 ly4 hy5 ly5 ln ld l1 l2 hbl hT hf hnm hXd jXd hX1 jX1 hX2 jX2
  have HH := Lib.hid hx
  have HK := Lib.hid k0
  have HN := Lib.hid hN
  have HcN := Lib.hid cN
  have HcXd := Lib.hid cXd
  have HcX1 := Lib.hid cX1
  have HcX2 := Lib.hid cX2
  have q1 : (i.op == 1) = false := by rw [beq_eq_false_iff_ne]; omega
  have q2 : (i.op == 2) = false := by rw [beq_eq_false_iff_ne]; omega
  have q3 : (i.op == 3) = false := by rw [beq_eq_false_iff_ne]; omega
  clear hx k0 hN cN hod h hi hk cXd cX1 cX2
  obtain ⟨o1, o2⟩ := hop
  go_enter Tryz.func15, Tryz.ntmps15
  go_wp2_with fail
  refine (HN.out _).mono ?_
  rintro e w1 ⟨rfl, rfl⟩
  go_wp2_with fail
  refine (HcN.out _).mono ?_
  rintro e w2 ⟨rfl, k2⟩
  have hH2 := HH.out.bl k2
  have K2 := Lib.hid (HK.out.trans k2)
  clear b0 b1 b2 b3 b4 b5 b6 k2
  obtain ⟨b0, b1, b2, b3, b4, b5, b6⟩ := hH2.seven
  have HH2 := Lib.hid hH2
  clear hH2
  go_wp2
  go_region_held3 (fun w' => w'.cell? ⟨w.heap.size, 1, none⟩ = some (.int .i64 i.rd) ∧ w'.cell? ⟨w.heap.size, 2, none⟩ = some (.int .i64 i.r1) ∧ w'.cell? ⟨w.heap.size, 3, none⟩ = some (.int .i64 i.r2) ∧ Bl w w') (first | assumption | exact ⟨b1, b2, b3, K2.out⟩ | exact ⟨b1, b2, b3, K2.out.drew⟩) (first | (go_at_call 29; refine (HcXd.out _).mono ?_; rintro e w9 ⟨rfl, k9⟩; have hkk := keep4 (by assumption) k9) | (go_at_call 29; refine (HcX1.out _).mono ?_; rintro e w9 ⟨rfl, k9⟩; have hkk := keep4 (by assumption) k9) | (go_at_call 29; refine (HcX2.out _).mono ?_; rintro e w9 ⟨rfl, k9⟩; have hkk := keep4 (by assumption) k9))
  all_goals go_wp2
  all_goals go_ret
  all_goals exact ⟨rfl, hkk.2.2.2⟩

end Go.Proofs.YtionnhjldcpmjaaGreatDoor
