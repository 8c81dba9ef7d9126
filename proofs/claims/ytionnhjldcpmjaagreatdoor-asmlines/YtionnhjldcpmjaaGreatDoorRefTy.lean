/-
  The text of an instruction, as the reference tells it.
  The text of an instruction, as the reference tells it.
  The text of an instruction, as the reference tells it.
  The text of an instruction, as the reference tells it.
  The text of any sound instruction, as the reference tells it.
-/
import Derived.Test.YtionnhjldcpmjaaGreatDoorRefT
import Derived.Test.YtionnhjldcpmjaaGreatDoorRefTx
set_option linter.unusedVariables false
set_option linter.unusedSimpArgs false
namespace Go.Proofs.YtionnhjldcpmjaaGreatDoor
open Go.RowKit
set_option maxRecDepth 100000 in
set_option maxHeartbeats 4000000 in
theorem refText_ba (i : Ins) (h : Good i) (w : World) (hop : 85 ≤ i.op ∧ i.op ≤ 88) : Calls Tryz.prog 15 #[.agg i.cells] w fun e w' => e = .returned (str (textL i)) ∧ Bl w w' := by
  have hi := h.in64
  obtain ⟨k, hk⟩ : ∃ k : Nat, i.op = (k : Int) := ⟨i.op.toNat, by omega⟩
  have ho := h.op
  have hod : i.od = 0 := h.od (by omega)
  have hf : prt (frm i.op) = [] := by
    have : frm i.op = 0 := by
      unfold frm
      repeat' split
      all_goals omega
    rw [this]; decide
  have hbl := nm_len i.op
  have hN := refName_any k (by omega) (by omega)
  have hnm : nmT.getD k [] = nm i.op := by rw [hk, nm_nat k (by omega) (by omega)]
  rw [hnm] at hN
  rw [← hk] at hN
  have hT : textL i = nm i.op := by
    unfold textL
    rw [hf, hod]
    simp [tl, told, fld, ordOf, ordT, List.append_assoc]
  rw [hT]
  have ln := itoa_len _ hi.im
  have ld := itoa_len _ hi.rd
  have l1 := itoa_len _ hi.r1
  have l2 := itoa_len _ hi.r2
  have hx := Has.new w i.cells 28
  obtain ⟨b0, b1, b2, b3, b4, b5, b6⟩ := hx.seven
  have k0 := (Bl.refl w).alloc i.cells 28
  have cN := fun w => dec_any i.im hi.im w
  generalize nm i.op = base at *
  generalize Lib.itoa i.im = N at *
  clear  ln ld l1 l2 hbl hT hf hnm 
  have HH := Lib.hid hx
  have HK := Lib.hid k0
  have HN := Lib.hid hN
  have HcN := Lib.hid cN
  have q1 : (i.op == 1) = false := by rw [beq_eq_false_iff_ne]; omega
  have q2 : (i.op == 2) = false := by rw [beq_eq_false_iff_ne]; omega
  have q3 : (i.op == 3) = false := by rw [beq_eq_false_iff_ne]; omega
  clear hx k0 hN cN hod h hi hk 
  obtain ⟨o1, o2⟩ := hop
  go_enter Tryz.func15, Tryz.ntmps15
  go_wp2_with fail
  refine (HN.out _).mono ?_
  rintro e w1 ⟨rfl, rfl⟩
  go_wp2_with fail
  refine (HcN.out _).mono ?_
  rintro e w2 ⟨rfl, k2⟩
  have hH2 := HH.out.bl k2
  have K2 := Lib.hid (HK.out.trans k2)
  clear b0 b1 b2 b3 b4 b5 b6 k2
  obtain ⟨b0, b1, b2, b3, b4, b5, b6⟩ := hH2.seven
  have HH2 := Lib.hid hH2
  clear hH2
  go_wp2
  go_ret
  exact ⟨rfl, K2.out⟩
set_option maxRecDepth 100000 in
set_option maxHeartbeats 4000000 in
theorem refText_jp (i : Ins) (h : Good i) (w : World) (hop : 3 ≤ i.op ∧ i.op ≤ 3) : Calls Tryz.prog 15 #[.agg i.cells] w fun e w' => e = .returned (str (textL i)) ∧ Bl w w' := by
  have hi := h.in64
  obtain ⟨k, hk⟩ : ∃ k : Nat, i.op = (k : Int) := ⟨i.op.toNat, by omega⟩
  have ho := h.op
  have hod : i.od = 0 := h.od (by omega)
  have hf : prt (frm i.op) = [0, 3] := by
    have : frm i.op = 2 := by
      unfold frm
      repeat' split
      all_goals omega
    rw [this]; decide
  have hbl := nm_len i.op
  have hN := refName_any k (by omega) (by omega)
  have hnm : nmT.getD k [] = nm i.op := by rw [hk, nm_nat k (by omega) (by omega)]
  rw [hnm] at hN
  rw [← hk] at hN
  have hT : textL i = ((((nm i.op ++ [32]) ++ (120 :: Lib.itoa i.rd)) ++ [44, 32]) ++ (Lib.itoa i.im)) := by
    unfold textL
    rw [hf, hod]
    simp [tl, told, fld, ordOf, ordT, List.append_assoc]
  rw [hT]
  have ln := itoa_len _ hi.im
  have ld := itoa_len _ hi.rd
  have l1 := itoa_len _ hi.r1
  have l2 := itoa_len _ hi.r2
  have hx := Has.new w i.cells 28
  obtain ⟨b0, b1, b2, b3, b4, b5, b6⟩ := hx.seven
  have k0 := (Bl.refl w).alloc i.cells 28
  have cN := fun w => dec_any i.im hi.im w
  have cXd := fun w => x_any i.rd hi.rd w
  generalize nm i.op = base at *
  generalize Lib.itoa i.im = N at *
  obtain ⟨Xd, hXd⟩ : ∃ X, X = 120 :: Lib.itoa i.rd := ⟨_, rfl⟩
  have jXd : Xd.length ≤ 22 := by rw [hXd]; simp; omega
  rw [← hXd] at cXd ⊢
  obtain ⟨y0, hy0, ly0, ay0⟩ := add_two base [32] 10 1 hbl (by decide) (by decide) (by decide)
  rw [← hy0]
  obtain ⟨y1, hy1, ly1, ay1⟩ := add_two y0 Xd 11 22 ly0 jXd (by decide) (by decide)
  rw [← hy1]
  obtain ⟨y2, hy2, ly2, ay2⟩ := add_two y1 [44, 32] 33 2 ly1 (by decide) (by decide) (by decide)
  rw [← hy2]
  obtain ⟨y3, hy3, ly3, ay3⟩ := add_two y2 N 35 21 ly2 ln (by decide) (by decide)
  rw [← hy3]
  clear hy0 ly0 hy1 ly1 hy2 ly2 hy3 ly3 ln ld l1 l2 hbl hT hf hnm hXd jXd
  have HH := Lib.hid hx
  have HK := Lib.hid k0
  have HN := Lib.hid hN
  have HcN := Lib.hid cN
  have HcXd := Lib.hid cXd
  have q1 : (i.op == 1) = false := by rw [beq_eq_false_iff_ne]; omega
  have q2 : (i.op == 2) = false := by rw [beq_eq_false_iff_ne]; omega
  have q3 : (i.op == 3) = true := by rw [beq_iff_eq]; omega
  clear hx k0 hN cN hod h hi hk cXd
  obtain ⟨o1, o2⟩ := hop
  go_enter Tryz.func15, Tryz.ntmps15
  go_wp2_with fail
  refine (HN.out _).mono ?_
  rintro e w1 ⟨rfl, rfl⟩
  go_wp2_with fail
  refine (HcN.out _).mono ?_
  rintro e w2 ⟨rfl, k2⟩
  have hH2 := HH.out.bl k2
  have K2 := Lib.hid (HK.out.trans k2)
  clear b0 b1 b2 b3 b4 b5 b6 k2
  obtain ⟨b0, b1, b2, b3, b4, b5, b6⟩ := hH2.seven
  have HH2 := Lib.hid hH2
  clear hH2
  go_wp2_with fail
  refine (HcXd.out _).mono ?_
  rintro e w3 ⟨rfl, k3⟩
  have K3 := Lib.hid (K2.out.trans k3)
  clear k3
  go_wp2
  go_ret
  exact ⟨rfl, K3.out⟩
end Go.Proofs.YtionnhjldcpmjaaGreatDoor
set_option linter.unusedVariables false
set_option linter.unusedSimpArgs false
namespace Go.Proofs.YtionnhjldcpmjaaGreatDoor
open Go.RowKit
set_option maxRecDepth 100000 in
set_option maxHeartbeats 4000000 in
theorem refText_lr1 (i : Ins) (h : Good i) (w : World) (hop : 63 ≤ i.op ∧ i.op ≤ 63) : Calls Tryz.prog 15 #[.agg i.cells] w fun e w' => e = .returned (str (textL i)) ∧ Bl w w' := by
  have hi := h.in64
  obtain ⟨k, hk⟩ : ∃ k : Nat, i.op = (k : Int) := ⟨i.op.toNat, by omega⟩
  have ho := h.op
  obtain ⟨n, hod⟩ : ∃ n : Nat, i.od = (n : Int) := ⟨i.od.toNat, by have := h.regs.od0; omega⟩
  have hn4 : n < 4 := by have := h.regs.od1; omega
  have hf : prt (frm i.op) = [0, 1] := by
    have : frm i.op = 8 := by
      unfold frm
      repeat' split
      all_goals omega
    rw [this]; decide
  have hbl := nm_len i.op
  have hN := refName_any k (by omega) (by omega)
  have hnm : nmT.getD k [] = nm i.op := by rw [hk, nm_nat k (by omega) (by omega)]
  rw [hnm] at hN
  rw [← hk] at hN
  have hT : textL i = (((((nm i.op ++ (ordOf n)) ++ [32]) ++ (120 :: Lib.itoa i.rd)) ++ [44, 32]) ++ (120 :: Lib.itoa i.r1)) := by
    unfold textL
    rw [hf, hod]
    simp [tl, told, fld, ordOf, ordT, List.append_assoc]
  rw [hT]
  have ln := itoa_len _ hi.im
  have ld := itoa_len _ hi.rd
  have l1 := itoa_len _ hi.r1
  have l2 := itoa_len _ hi.r2
  have hx := Has.new w i.cells 28
  obtain ⟨b0, b1, b2, b3, b4, b5, b6⟩ := hx.seven
  have k0 := (Bl.refl w).alloc i.cells 28
  have cN := fun w => dec_any i.im hi.im w
  have cXd := fun w => x_any i.rd hi.rd w
  have cX1 := fun w => x_any i.r1 hi.r1 w
  have lo := ordOf_len n
  have hst := strs_at n hn4
  have hgt := ords_at n hn4
  generalize ordOf n = O at *
  have HGT := Lib.hid hgt
  clear hgt
  generalize nm i.op = base at *
  generalize Lib.itoa i.im = N at *
  obtain ⟨Xd, hXd⟩ : ∃ X, X = 120 :: Lib.itoa i.rd := ⟨_, rfl⟩
  have jXd : Xd.length ≤ 22 := by rw [hXd]; simp; omega
  rw [← hXd] at cXd ⊢
  obtain ⟨X1, hX1⟩ : ∃ X, X = 120 :: Lib.itoa i.r1 := ⟨_, rfl⟩
  have jX1 : X1.length ≤ 22 := by rw [hX1]; simp; omega
  rw [← hX1] at cX1 ⊢
  obtain ⟨y0, hy0, ly0, ay0⟩ := add_two base O 10 5 hbl lo (by decide) (by decide)
  rw [← hy0]
  obtain ⟨y1, hy1, ly1, ay1⟩ := add_two y0 [32] 15 1 ly0 (by decide) (by decide) (by decide)
  rw [← hy1]
  obtain ⟨y2, hy2, ly2, ay2⟩ := add_two y1 Xd 16 22 ly1 jXd (by decide) (by decide)
  rw [← hy2]
  obtain ⟨y3, hy3, ly3, ay3⟩ := add_two y2 [44, 32] 38 2 ly2 (by decide) (by decide) (by decide)
  rw [← hy3]
  obtain ⟨y4, hy4, ly4, ay4⟩ := add_two y3 X1 40 22 ly3 jX1 (by decide) (by decide)
  rw [← hy4]
  clear hy0 ly0 hy1 ly1 hy2 ly2 hy3 ly3 hy4 ly4 ln ld l1 l2 hbl hT hf hnm hXd jXd hX1 jX1 lo
  have HH := Lib.hid hx
  have HK := Lib.hid k0
  have HN := Lib.hid hN
  have HcN := Lib.hid cN
  have HcXd := Lib.hid cXd
  have HcX1 := Lib.hid cX1
  have q1 : (i.op == 1) = false := by rw [beq_eq_false_iff_ne]; omega
  have q2 : (i.op == 2) = false := by rw [beq_eq_false_iff_ne]; omega
  have q3 : (i.op == 3) = false := by rw [beq_eq_false_iff_ne]; omega
  have q63 : (i.op == 63) = true := by rw [beq_iff_eq]; omega
  have q74 : (i.op == 74) = false := by rw [beq_eq_false_iff_ne]; omega
  have HOD := Lib.hid hod
  clear hx k0 hN cN hod h hi hk cXd cX1
  obtain ⟨o1, o2⟩ := hop
  go_enter Tryz.func15, Tryz.ntmps15
  go_wp2_with fail
  refine (HN.out _).mono ?_
  rintro e w1 ⟨rfl, rfl⟩
  go_wp2_with fail
  refine (HcN.out _).mono ?_
  rintro e w2 ⟨rfl, k2⟩
  have hH2 := HH.out.bl k2
  have K2 := Lib.hid (HK.out.trans k2)
  clear b0 b1 b2 b3 b4 b5 b6 k2
  obtain ⟨b0, b1, b2, b3, b4, b5, b6⟩ := hH2.seven
  have HH2 := Lib.hid hH2
  clear hH2
  have hst2 := hst w2
  rw [HOD.out] at b5
  have hn0 : (0 : Int) ≤ (n : Int) := by omega
  have hn1 : (n : Int) < 4 := by omega
  have k3 : Bl w2 (w2.alloc (.cells ordV 9)) := (Bl.refl w2).alloc _ _
  have hH3 := HH2.out.bl k3
  have K3 := Lib.hid (K2.out.trans k3)
  obtain ⟨c0, c1, c2, c3, c4, c5, c6⟩ := hH3.seven
  rw [HOD.out] at c5
  have hget := HGT.out
  clear hst k3 hH3 hn4
  unfold ordV at *
  go_wp2
  go_region_held3 (fun w' => w'.cell? ⟨w.heap.size, 1, none⟩ = some (.int .i64 i.rd) ∧ w'.cell? ⟨w.heap.size, 2, none⟩ = some (.int .i64 i.r1) ∧ w'.cell? ⟨w.heap.size, 3, none⟩ = some (.int .i64 i.r2) ∧ Bl w w') (first | assumption | exact ⟨c1, c2, c3, K3.out⟩ | exact ⟨c1, c2, c3, K3.out.drew⟩) (first | (go_at_call 29; refine (HcXd.out _).mono ?_; rintro e w9 ⟨rfl, k9⟩; have hkk := keep4 (by assumption) k9) | (go_at_call 29; refine (HcX1.out _).mono ?_; rintro e w9 ⟨rfl, k9⟩; have hkk := keep4 (by assumption) k9))
  all_goals go_wp2
  all_goals go_ret
  all_goals exact ⟨rfl, hkk.2.2.2⟩
set_option maxRecDepth 100000 in
set_option maxHeartbeats 4000000 in
theorem refText_lr2 (i : Ins) (h : Good i) (w : World) (hop : 74 ≤ i.op ∧ i.op ≤ 74) : Calls Tryz.prog 15 #[.agg i.cells] w fun e w' => e = .returned (str (textL i)) ∧ Bl w w' := by
  have hi := h.in64
  obtain ⟨k, hk⟩ : ∃ k : Nat, i.op = (k : Int) := ⟨i.op.toNat, by omega⟩
  have ho := h.op
  obtain ⟨n, hod⟩ : ∃ n : Nat, i.od = (n : Int) := ⟨i.od.toNat, by have := h.regs.od0; omega⟩
  have hn4 : n < 4 := by have := h.regs.od1; omega
  have hf : prt (frm i.op) = [0, 1] := by
    have : frm i.op = 8 := by
      unfold frm
      repeat' split
      all_goals omega
    rw [this]; decide
  have hbl := nm_len i.op
  have hN := refName_any k (by omega) (by omega)
  have hnm : nmT.getD k [] = nm i.op := by rw [hk, nm_nat k (by omega) (by omega)]
  rw [hnm] at hN
  rw [← hk] at hN
  have hT : textL i = (((((nm i.op ++ (ordOf n)) ++ [32]) ++ (120 :: Lib.itoa i.rd)) ++ [44, 32]) ++ (120 :: Lib.itoa i.r1)) := by
    unfold textL
    rw [hf, hod]
    simp [tl, told, fld, ordOf, ordT, List.append_assoc]
  rw [hT]
  have ln := itoa_len _ hi.im
  have ld := itoa_len _ hi.rd
  have l1 := itoa_len _ hi.r1
  have l2 := itoa_len _ hi.r2
  have hx := Has.new w i.cells 28
  obtain ⟨b0, b1, b2, b3, b4, b5, b6⟩ := hx.seven
  have k0 := (Bl.refl w).alloc i.cells 28
  have cN := fun w => dec_any i.im hi.im w
  have cXd := fun w => x_any i.rd hi.rd w
  have cX1 := fun w => x_any i.r1 hi.r1 w
  have lo := ordOf_len n
  have hst := strs_at n hn4
  have hgt := ords_at n hn4
  generalize ordOf n = O at *
  have HGT := Lib.hid hgt
  clear hgt
  generalize nm i.op = base at *
  generalize Lib.itoa i.im = N at *
  obtain ⟨Xd, hXd⟩ : ∃ X, X = 120 :: Lib.itoa i.rd := ⟨_, rfl⟩
  have jXd : Xd.length ≤ 22 := by rw [hXd]; simp; omega
  rw [← hXd] at cXd ⊢
  obtain ⟨X1, hX1⟩ : ∃ X, X = 120 :: Lib.itoa i.r1 := ⟨_, rfl⟩
  have jX1 : X1.length ≤ 22 := by rw [hX1]; simp; omega
  rw [← hX1] at cX1 ⊢
  obtain ⟨y0, hy0, ly0, ay0⟩ := add_two base O 10 5 hbl lo (by decide) (by decide)
  rw [← hy0]
  obtain ⟨y1, hy1, ly1, ay1⟩ := add_two y0 [32] 15 1 ly0 (by decide) (by decide) (by decide)
  rw [← hy1]
  obtain ⟨y2, hy2, ly2, ay2⟩ := add_two y1 Xd 16 22 ly1 jXd (by decide) (by decide)
  rw [← hy2]
  obtain ⟨y3, hy3, ly3, ay3⟩ := add_two y2 [44, 32] 38 2 ly2 (by decide) (by decide) (by decide)
  rw [← hy3]
  obtain ⟨y4, hy4, ly4, ay4⟩ := add_two y3 X1 40 22 ly3 jX1 (by decide) (by decide)
  rw [← hy4]
  clear hy0 ly0 hy1 ly1 hy2 ly2 hy3 ly3 hy4 ly4 ln ld l1 l2 hbl hT hf hnm hXd jXd hX1 jX1 lo
  have HH := Lib.hid hx
  have HK := Lib.hid k0
  have HN := Lib.hid hN
  have HcN := Lib.hid cN
  have HcXd := Lib.hid cXd
  have HcX1 := Lib.hid cX1
  have q1 : (i.op == 1) = false := by rw [beq_eq_false_iff_ne]; omega
  have q2 : (i.op == 2) = false := by rw [beq_eq_false_iff_ne]; omega
  have q3 : (i.op == 3) = false := by rw [beq_eq_false_iff_ne]; omega
  have q63 : (i.op == 63) = false := by rw [beq_eq_false_iff_ne]; omega
  have q74 : (i.op == 74) = true := by rw [beq_iff_eq]; omega
  have HOD := Lib.hid hod
  clear hx k0 hN cN hod h hi hk cXd cX1
  obtain ⟨o1, o2⟩ := hop
  go_enter Tryz.func15, Tryz.ntmps15
  go_wp2_with fail
  refine (HN.out _).mono ?_
  rintro e w1 ⟨rfl, rfl⟩
  go_wp2_with fail
  refine (HcN.out _).mono ?_
  rintro e w2 ⟨rfl, k2⟩
  have hH2 := HH.out.bl k2
  have K2 := Lib.hid (HK.out.trans k2)
  clear b0 b1 b2 b3 b4 b5 b6 k2
  obtain ⟨b0, b1, b2, b3, b4, b5, b6⟩ := hH2.seven
  have HH2 := Lib.hid hH2
  clear hH2
  have hst2 := hst w2
  rw [HOD.out] at b5
  have hn0 : (0 : Int) ≤ (n : Int) := by omega
  have hn1 : (n : Int) < 4 := by omega
  have k3 : Bl w2 (w2.alloc (.cells ordV 9)) := (Bl.refl w2).alloc _ _
  have hH3 := HH2.out.bl k3
  have K3 := Lib.hid (K2.out.trans k3)
  obtain ⟨c0, c1, c2, c3, c4, c5, c6⟩ := hH3.seven
  rw [HOD.out] at c5
  have hget := HGT.out
  clear hst k3 hH3 hn4
  unfold ordV at *
  go_wp2
  go_region_held3 (fun w' => w'.cell? ⟨w.heap.size, 1, none⟩ = some (.int .i64 i.rd) ∧ w'.cell? ⟨w.heap.size, 2, none⟩ = some (.int .i64 i.r1) ∧ w'.cell? ⟨w.heap.size, 3, none⟩ = some (.int .i64 i.r2) ∧ Bl w w') (first | assumption | exact ⟨c1, c2, c3, K3.out⟩ | exact ⟨c1, c2, c3, K3.out.drew⟩) (first | (go_at_call 29; refine (HcXd.out _).mono ?_; rintro e w9 ⟨rfl, k9⟩; have hkk := keep4 (by assumption) k9) | (go_at_call 29; refine (HcX1.out _).mono ?_; rintro e w9 ⟨rfl, k9⟩; have hkk := keep4 (by assumption) k9))
  all_goals go_wp2
  all_goals go_ret
  all_goals exact ⟨rfl, hkk.2.2.2⟩
end Go.Proofs.YtionnhjldcpmjaaGreatDoor
set_option linter.unusedVariables false
set_option linter.unusedSimpArgs false
namespace Go.Proofs.YtionnhjldcpmjaaGreatDoor
open Go.RowKit
set_option maxRecDepth 100000 in
set_option maxHeartbeats 4000000 in
theorem refText_am1 (i : Ins) (h : Good i) (w : World) (hop : 64 ≤ i.op ∧ i.op ≤ 73) : Calls Tryz.prog 15 #[.agg i.cells] w fun e w' => e = .returned (str (textL i)) ∧ Bl w w' := by
  have hi := h.in64
  obtain ⟨k, hk⟩ : ∃ k : Nat, i.op = (k : Int) := ⟨i.op.toNat, by omega⟩
  have ho := h.op
  obtain ⟨n, hod⟩ : ∃ n : Nat, i.od = (n : Int) := ⟨i.od.toNat, by have := h.regs.od0; omega⟩
  have hn4 : n < 4 := by have := h.regs.od1; omega
  have hf : prt (frm i.op) = [0, 2, 1] := by
    have : frm i.op = 9 := by
      unfold frm
      repeat' split
      all_goals omega
    rw [this]; decide
  have hbl := nm_len i.op
  have hN := refName_any k (by omega) (by omega)
  have hnm : nmT.getD k [] = nm i.op := by rw [hk, nm_nat k (by omega) (by omega)]
  rw [hnm] at hN
  rw [← hk] at hN
  have hT : textL i = (((((((nm i.op ++ (ordOf n)) ++ [32]) ++ (120 :: Lib.itoa i.rd)) ++ [44, 32]) ++ (120 :: Lib.itoa i.r2)) ++ [44, 32]) ++ (120 :: Lib.itoa i.r1)) := by
    unfold textL
    rw [hf, hod]
    simp [tl, told, fld, ordOf, ordT, List.append_assoc]
  rw [hT]
  have ln := itoa_len _ hi.im
  have ld := itoa_len _ hi.rd
  have l1 := itoa_len _ hi.r1
  have l2 := itoa_len _ hi.r2
  have hx := Has.new w i.cells 28
  obtain ⟨b0, b1, b2, b3, b4, b5, b6⟩ := hx.seven
  have k0 := (Bl.refl w).alloc i.cells 28
  have cN := fun w => dec_any i.im hi.im w
  have cXd := fun w => x_any i.rd hi.rd w
  have cX2 := fun w => x_any i.r2 hi.r2 w
  have cX1 := fun w => x_any i.r1 hi.r1 w
  have lo := ordOf_len n
  have hst := strs_at n hn4
  have hgt := ords_at n hn4
  generalize ordOf n = O at *
  have HGT := Lib.hid hgt
  clear hgt
  generalize nm i.op = base at *
  generalize Lib.itoa i.im = N at *
  obtain ⟨Xd, hXd⟩ : ∃ X, X = 120 :: Lib.itoa i.rd := ⟨_, rfl⟩
  have jXd : Xd.length ≤ 22 := by rw [hXd]; simp; omega
  rw [← hXd] at cXd ⊢
  obtain ⟨X2, hX2⟩ : ∃ X, X = 120 :: Lib.itoa i.r2 := ⟨_, rfl⟩
  have jX2 : X2.length ≤ 22 := by rw [hX2]; simp; omega
  rw [← hX2] at cX2 ⊢
  obtain ⟨X1, hX1⟩ : ∃ X, X = 120 :: Lib.itoa i.r1 := ⟨_, rfl⟩
  have jX1 : X1.length ≤ 22 := by rw [hX1]; simp; omega
  rw [← hX1] at cX1 ⊢
  obtain ⟨y0, hy0, ly0, ay0⟩ := add_two base O 10 5 hbl lo (by decide) (by decide)
  rw [← hy0]
  obtain ⟨y1, hy1, ly1, ay1⟩ := add_two y0 [32] 15 1 ly0 (by decide) (by decide) (by decide)
  rw [← hy1]
  obtain ⟨y2, hy2, ly2, ay2⟩ := add_two y1 Xd 16 22 ly1 jXd (by decide) (by decide)
  rw [← hy2]
  obtain ⟨y3, hy3, ly3, ay3⟩ := add_two y2 [44, 32] 38 2 ly2 (by decide) (by decide) (by decide)
  rw [← hy3]
  obtain ⟨y4, hy4, ly4, ay4⟩ := add_two y3 X2 40 22 ly3 jX2 (by decide) (by decide)
  rw [← hy4]
  obtain ⟨y5, hy5, ly5, ay5⟩ := add_two y4 [44, 32] 62 2 ly4 (by decide) (by decide) (by decide)
  rw [← hy5]
  obtain ⟨y6, hy6, ly6, ay6⟩ := add_two y5 X1 64 22 ly5 jX1 (by decide) (by decide)
  rw [← hy6]
  clear hy0 ly0 hy1 ly1 hy2 ly2 hy3 ly3 hy4 ly4 hy5 ly5 hy6 ly6 ln ld l1 l2 hbl hT hf hnm hXd jXd hX2 jX2 hX1 jX1 lo
  have HH := Lib.hid hx
  have HK := Lib.hid k0
  have HN := Lib.hid hN
  have HcN := Lib.hid cN
  have HcXd := Lib.hid cXd
  have HcX2 := Lib.hid cX2
  have HcX1 := Lib.hid cX1
  have q1 : (i.op == 1) = false := by rw [beq_eq_false_iff_ne]; omega
  have q2 : (i.op == 2) = false := by rw [beq_eq_false_iff_ne]; omega
  have q3 : (i.op == 3) = false := by rw [beq_eq_false_iff_ne]; omega
  have q63 : (i.op == 63) = false := by rw [beq_eq_false_iff_ne]; omega
  have q74 : (i.op == 74) = false := by rw [beq_eq_false_iff_ne]; omega
  have HOD := Lib.hid hod
  clear hx k0 hN cN hod h hi hk cXd cX2 cX1
  obtain ⟨o1, o2⟩ := hop
  go_enter Tryz.func15, Tryz.ntmps15
  go_wp2_with fail
  refine (HN.out _).mono ?_
  rintro e w1 ⟨rfl, rfl⟩
  go_wp2_with fail
  refine (HcN.out _).mono ?_
  rintro e w2 ⟨rfl, k2⟩
  have hH2 := HH.out.bl k2
  have K2 := Lib.hid (HK.out.trans k2)
  clear b0 b1 b2 b3 b4 b5 b6 k2
  obtain ⟨b0, b1, b2, b3, b4, b5, b6⟩ := hH2.seven
  have HH2 := Lib.hid hH2
  clear hH2
  have hst2 := hst w2
  rw [HOD.out] at b5
  have hn0 : (0 : Int) ≤ (n : Int) := by omega
  have hn1 : (n : Int) < 4 := by omega
  have k3 : Bl w2 (w2.alloc (.cells ordV 9)) := (Bl.refl w2).alloc _ _
  have hH3 := HH2.out.bl k3
  have K3 := Lib.hid (K2.out.trans k3)
  obtain ⟨c0, c1, c2, c3, c4, c5, c6⟩ := hH3.seven
  rw [HOD.out] at c5
  have hget := HGT.out
  clear hst k3 hH3 hn4
  unfold ordV at *
  go_wp2
  go_region_held3 (fun w' => w'.cell? ⟨w.heap.size, 1, none⟩ = some (.int .i64 i.rd) ∧ w'.cell? ⟨w.heap.size, 2, none⟩ = some (.int .i64 i.r1) ∧ w'.cell? ⟨w.heap.size, 3, none⟩ = some (.int .i64 i.r2) ∧ Bl w w') (first | assumption | exact ⟨c1, c2, c3, K3.out⟩ | exact ⟨c1, c2, c3, K3.out.drew⟩) (first | (go_at_call 29; refine (HcXd.out _).mono ?_; rintro e w9 ⟨rfl, k9⟩; have hkk := keep4 (by assumption) k9) | (go_at_call 29; refine (HcX2.out _).mono ?_; rintro e w9 ⟨rfl, k9⟩; have hkk := keep4 (by assumption) k9) | (go_at_call 29; refine (HcX1.out _).mono ?_; rintro e w9 ⟨rfl, k9⟩; have hkk := keep4 (by assumption) k9))
  all_goals go_wp2
  all_goals go_ret
  all_goals exact ⟨rfl, hkk.2.2.2⟩
set_option maxRecDepth 100000 in
set_option maxHeartbeats 4000000 in
theorem refText_am2 (i : Ins) (h : Good i) (w : World) (hop : 75 ≤ i.op ∧ i.op ≤ 84) : Calls Tryz.prog 15 #[.agg i.cells] w fun e w' => e = .returned (str (textL i)) ∧ Bl w w' := by
  have hi := h.in64
  obtain ⟨k, hk⟩ : ∃ k : Nat, i.op = (k : Int) := ⟨i.op.toNat, by omega⟩
  have ho := h.op
  obtain ⟨n, hod⟩ : ∃ n : Nat, i.od = (n : Int) := ⟨i.od.toNat, by have := h.regs.od0; omega⟩
  have hn4 : n < 4 := by have := h.regs.od1; omega
  have hf : prt (frm i.op) = [0, 2, 1] := by
    have : frm i.op = 9 := by
      unfold frm
      repeat' split
      all_goals omega
    rw [this]; decide
  have hbl := nm_len i.op
  have hN := refName_any k (by omega) (by omega)
  have hnm : nmT.getD k [] = nm i.op := by rw [hk, nm_nat k (by omega) (by omega)]
  rw [hnm] at hN
  rw [← hk] at hN
  have hT : textL i = (((((((nm i.op ++ (ordOf n)) ++ [32]) ++ (120 :: Lib.itoa i.rd)) ++ [44, 32]) ++ (120 :: Lib.itoa i.r2)) ++ [44, 32]) ++ (120 :: Lib.itoa i.r1)) := by
    unfold textL
    rw [hf, hod]
    simp [tl, told, fld, ordOf, ordT, List.append_assoc]
  rw [hT]
  have ln := itoa_len _ hi.im
  have ld := itoa_len _ hi.rd
  have l1 := itoa_len _ hi.r1
  have l2 := itoa_len _ hi.r2
  have hx := Has.new w i.cells 28
  obtain ⟨b0, b1, b2, b3, b4, b5, b6⟩ := hx.seven
  have k0 := (Bl.refl w).alloc i.cells 28
  have cN := fun w => dec_any i.im hi.im w
  have cXd := fun w => x_any i.rd hi.rd w
  have cX2 := fun w => x_any i.r2 hi.r2 w
  have cX1 := fun w => x_any i.r1 hi.r1 w
  have lo := ordOf_len n
  have hst := strs_at n hn4
  have hgt := ords_at n hn4
  generalize ordOf n = O at *
  have HGT := Lib.hid hgt
  clear hgt
  generalize nm i.op = base at *
  generalize Lib.itoa i.im = N at *
  obtain ⟨Xd, hXd⟩ : ∃ X, X = 120 :: Lib.itoa i.rd := ⟨_, rfl⟩
  have jXd : Xd.length ≤ 22 := by rw [hXd]; simp; omega
  rw [← hXd] at cXd ⊢
  obtain ⟨X2, hX2⟩ : ∃ X, X = 120 :: Lib.itoa i.r2 := ⟨_, rfl⟩
  have jX2 : X2.length ≤ 22 := by rw [hX2]; simp; omega
  rw [← hX2] at cX2 ⊢
  obtain ⟨X1, hX1⟩ : ∃ X, X = 120 :: Lib.itoa i.r1 := ⟨_, rfl⟩
  have jX1 : X1.length ≤ 22 := by rw [hX1]; simp; omega
  rw [← hX1] at cX1 ⊢
  obtain ⟨y0, hy0, ly0, ay0⟩ := add_two base O 10 5 hbl lo (by decide) (by decide)
  rw [← hy0]
  obtain ⟨y1, hy1, ly1, ay1⟩ := add_two y0 [32] 15 1 ly0 (by decide) (by decide) (by decide)
  rw [← hy1]
  obtain ⟨y2, hy2, ly2, ay2⟩ := add_two y1 Xd 16 22 ly1 jXd (by decide) (by decide)
  rw [← hy2]
  obtain ⟨y3, hy3, ly3, ay3⟩ := add_two y2 [44, 32] 38 2 ly2 (by decide) (by decide) (by decide)
  rw [← hy3]
  obtain ⟨y4, hy4, ly4, ay4⟩ := add_two y3 X2 40 22 ly3 jX2 (by decide) (by decide)
  rw [← hy4]
  obtain ⟨y5, hy5, ly5, ay5⟩ := add_two y4 [44, 32] 62 2 ly4 (by decide) (by decide) (by decide)
  rw [← hy5]
  obtain ⟨y6, hy6, ly6, ay6⟩ := add_two y5 X1 64 22 ly5 jX1 (by decide) (by decide)
  rw [← hy6]
  clear hy0 ly0 hy1 ly1 hy2 ly2 hy3 ly3 hy4 ly4 hy5 ly5 hy6 ly6 ln ld l1 l2 hbl hT hf hnm hXd jXd hX2 jX2 hX1 jX1 lo
  have HH := Lib.hid hx
  have HK := Lib.hid k0
  have HN := Lib.hid hN
  have HcN := Lib.hid cN
  have HcXd := Lib.hid cXd
  have HcX2 := Lib.hid cX2
  have HcX1 := Lib.hid cX1
  have q1 : (i.op == 1) = false := by rw [beq_eq_false_iff_ne]; omega
  have q2 : (i.op == 2) = false := by rw [beq_eq_false_iff_ne]; omega
  have q3 : (i.op == 3) = false := by rw [beq_eq_false_iff_ne]; omega
  have q63 : (i.op == 63) = false := by rw [beq_eq_false_iff_ne]; omega
  have q74 : (i.op == 74) = false := by rw [beq_eq_false_iff_ne]; omega
  have HOD := Lib.hid hod
  clear hx k0 hN cN hod h hi hk cXd cX2 cX1
  obtain ⟨o1, o2⟩ := hop
  go_enter Tryz.func15, Tryz.ntmps15
  go_wp2_with fail
  refine (HN.out _).mono ?_
  rintro e w1 ⟨rfl, rfl⟩
  go_wp2_with fail
  refine (HcN.out _).mono ?_
  rintro e w2 ⟨rfl, k2⟩
  have hH2 := HH.out.bl k2
  have K2 := Lib.hid (HK.out.trans k2)
  clear b0 b1 b2 b3 b4 b5 b6 k2
  obtain ⟨b0, b1, b2, b3, b4, b5, b6⟩ := hH2.seven
  have HH2 := Lib.hid hH2
  clear hH2
  have hst2 := hst w2
  rw [HOD.out] at b5
  have hn0 : (0 : Int) ≤ (n : Int) := by omega
  have hn1 : (n : Int) < 4 := by omega
  have k3 : Bl w2 (w2.alloc (.cells ordV 9)) := (Bl.refl w2).alloc _ _
  have hH3 := HH2.out.bl k3
  have K3 := Lib.hid (K2.out.trans k3)
  obtain ⟨c0, c1, c2, c3, c4, c5, c6⟩ := hH3.seven
  rw [HOD.out] at c5
  have hget := HGT.out
  clear hst k3 hH3 hn4
  unfold ordV at *
  go_wp2
  go_region_held3 (fun w' => w'.cell? ⟨w.heap.size, 1, none⟩ = some (.int .i64 i.rd) ∧ w'.cell? ⟨w.heap.size, 2, none⟩ = some (.int .i64 i.r1) ∧ w'.cell? ⟨w.heap.size, 3, none⟩ = some (.int .i64 i.r2) ∧ Bl w w') (first | assumption | exact ⟨c1, c2, c3, K3.out⟩ | exact ⟨c1, c2, c3, K3.out.drew⟩) (first | (go_at_call 29; refine (HcXd.out _).mono ?_; rintro e w9 ⟨rfl, k9⟩; have hkk := keep4 (by assumption) k9) | (go_at_call 29; refine (HcX2.out _).mono ?_; rintro e w9 ⟨rfl, k9⟩; have hkk := keep4 (by assumption) k9) | (go_at_call 29; refine (HcX1.out _).mono ?_; rintro e w9 ⟨rfl, k9⟩; have hkk := keep4 (by assumption) k9))
  all_goals go_wp2
  all_goals go_ret
  all_goals exact ⟨rfl, hkk.2.2.2⟩
end Go.Proofs.YtionnhjldcpmjaaGreatDoor
set_option linter.unusedVariables false
set_option linter.unusedSimpArgs false
namespace Go.Proofs.YtionnhjldcpmjaaGreatDoor
open Go.RowKit
set_option maxRecDepth 100000 in
set_option maxHeartbeats 4000000 in
theorem refText_up1 (i : Ins) (h : Good i) (w : World) (hop : 1 ≤ i.op ∧ i.op ≤ 1) : Calls Tryz.prog 15 #[.agg i.cells] w fun e w' => e = .returned (str (textL i)) ∧ Bl w w' := by
  have hi := h.in64
  obtain ⟨k, hk⟩ : ∃ k : Nat, i.op = (k : Int) := ⟨i.op.toNat, by omega⟩
  have ho := h.op
  have hod : i.od = 0 := h.od (by omega)
  have hf : prt (frm i.op) = [0, 4] := by
    have : frm i.op = 1 := by
      unfold frm
      repeat' split
      all_goals omega
    rw [this]; decide
  have hbl := nm_len i.op
  have hN := refName_any k (by omega) (by omega)
  have hnm : nmT.getD k [] = nm i.op := by rw [hk, nm_nat k (by omega) (by omega)]
  rw [hnm] at hN
  rw [← hk] at hN
  have hT : textL i = ((((nm i.op ++ [32]) ++ (120 :: Lib.itoa i.rd)) ++ [44, 32]) ++ (Lib.itoa (up i.im))) := by
    unfold textL
    rw [hf, hod]
    simp [tl, told, fld, ordOf, ordT, List.append_assoc]
  rw [hT]
  have ln := itoa_len _ hi.im
  have ld := itoa_len _ hi.rd
  have l1 := itoa_len _ hi.r1
  have l2 := itoa_len _ hi.r2
  have hx := Has.new w i.cells 28
  obtain ⟨b0, b1, b2, b3, b4, b5, b6⟩ := hx.seven
  have k0 := (Bl.refl w).alloc i.cells 28
  have cN := fun w => dec_any i.im hi.im w
  have cXd := fun w => x_any i.rd hi.rd w
  have hub : -9223372036854775808 ≤ up i.im ∧ up i.im ≤ 9223372036854775807 := by unfold up; omega
  have lu := itoa_len _ hub
  have cU := fun w => dec_any (up i.im) hub w
  generalize Lib.itoa (up i.im) = U at *
  generalize nm i.op = base at *
  generalize Lib.itoa i.im = N at *
  obtain ⟨Xd, hXd⟩ : ∃ X, X = 120 :: Lib.itoa i.rd := ⟨_, rfl⟩
  have jXd : Xd.length ≤ 22 := by rw [hXd]; simp; omega
  rw [← hXd] at cXd ⊢
  obtain ⟨y0, hy0, ly0, ay0⟩ := add_two base [32] 10 1 hbl (by decide) (by decide) (by decide)
  rw [← hy0]
  obtain ⟨y1, hy1, ly1, ay1⟩ := add_two y0 Xd 11 22 ly0 jXd (by decide) (by decide)
  rw [← hy1]
  obtain ⟨y2, hy2, ly2, ay2⟩ := add_two y1 [44, 32] 33 2 ly1 (by decide) (by decide) (by decide)
  rw [← hy2]
  obtain ⟨y3, hy3, ly3, ay3⟩ := add_two y2 U 35 21 ly2 lu (by decide) (by decide)
  rw [← hy3]
  clear hy0 ly0 hy1 ly1 hy2 ly2 hy3 ly3 ln ld l1 l2 hbl hT hf hnm hXd jXd lu hub
  have HH := Lib.hid hx
  have HK := Lib.hid k0
  have HN := Lib.hid hN
  have HcN := Lib.hid cN
  have HcXd := Lib.hid cXd
  have HcU := Lib.hid cU
  have q1 : (i.op == 1) = true := by rw [beq_iff_eq]; omega
  have q2 : (i.op == 2) = false := by rw [beq_eq_false_iff_ne]; omega
  have q3 : (i.op == 3) = false := by rw [beq_eq_false_iff_ne]; omega
  have hup : i.im % 4096 = 0 := h.up (by unfold frm; rw [if_pos (by omega)])
  have him := h.im
  clear hx k0 hN cN hod h hi hk cXd cU
  obtain ⟨o1, o2⟩ := hop
  rcases Int.lt_or_le i.im 0 with hneg | hpos
  · have htd : i.im.tdiv 4096 = up i.im - 1048576 := by rw [Int.tdiv_eq_ediv_of_dvd (Int.dvd_of_emod_eq_zero hup)]; unfold up; omega
    have hu1 : up i.im < 1048576 := by unfold up; omega
    have hu0 : 0 ≤ up i.im := by unfold up; omega
    generalize up i.im = uu at *
    clear hneg hup
    go_enter Tryz.func15, Tryz.ntmps15
    go_wp2_with fail
    refine (HN.out _).mono ?_
    rintro e w1 ⟨rfl, rfl⟩
    go_wp2_with fail
    refine (HcN.out _).mono ?_
    rintro e w2 ⟨rfl, k2⟩
    have hH2 := HH.out.bl k2
    have K2 := Lib.hid (HK.out.trans k2)
    clear b0 b1 b2 b3 b4 b5 b6 k2
    obtain ⟨b0, b1, b2, b3, b4, b5, b6⟩ := hH2.seven
    have HH2 := Lib.hid hH2
    clear hH2
    go_wp2_with fail
    refine (HcXd.out _).mono ?_
    rintro e w3 ⟨rfl, k3⟩
    have K3 := Lib.hid (K2.out.trans k3)
    clear k3
    go_wp2_with fail
    refine (HcU.out _).mono ?_
    rintro e w4 ⟨rfl, k4⟩
    have K4 := Lib.hid (K3.out.trans k4)
    clear k4
    go_wp2
    go_ret
    exact ⟨rfl, K4.out⟩
  · have htd : i.im.tdiv 4096 = up i.im := by rw [Int.tdiv_eq_ediv_of_dvd (Int.dvd_of_emod_eq_zero hup)]; unfold up; omega
    have hu1 : up i.im < 1048576 := by unfold up; omega
    have hu0 : 0 ≤ up i.im := by unfold up; omega
    generalize up i.im = uu at *
    clear hpos hup
    go_enter Tryz.func15, Tryz.ntmps15
    go_wp2_with fail
    refine (HN.out _).mono ?_
    rintro e w1 ⟨rfl, rfl⟩
    go_wp2_with fail
    refine (HcN.out _).mono ?_
    rintro e w2 ⟨rfl, k2⟩
    have hH2 := HH.out.bl k2
    have K2 := Lib.hid (HK.out.trans k2)
    clear b0 b1 b2 b3 b4 b5 b6 k2
    obtain ⟨b0, b1, b2, b3, b4, b5, b6⟩ := hH2.seven
    have HH2 := Lib.hid hH2
    clear hH2
    go_wp2_with fail
    refine (HcXd.out _).mono ?_
    rintro e w3 ⟨rfl, k3⟩
    have K3 := Lib.hid (K2.out.trans k3)
    clear k3
    go_wp2_with fail
    refine (HcU.out _).mono ?_
    rintro e w4 ⟨rfl, k4⟩
    have K4 := Lib.hid (K3.out.trans k4)
    clear k4
    go_wp2
    go_ret
    exact ⟨rfl, K4.out⟩
set_option maxRecDepth 100000 in
set_option maxHeartbeats 4000000 in
theorem refText_up2 (i : Ins) (h : Good i) (w : World) (hop : 2 ≤ i.op ∧ i.op ≤ 2) : Calls Tryz.prog 15 #[.agg i.cells] w fun e w' => e = .returned (str (textL i)) ∧ Bl w w' := by
  have hi := h.in64
  obtain ⟨k, hk⟩ : ∃ k : Nat, i.op = (k : Int) := ⟨i.op.toNat, by omega⟩
  have ho := h.op
  have hod : i.od = 0 := h.od (by omega)
  have hf : prt (frm i.op) = [0, 4] := by
    have : frm i.op = 1 := by
      unfold frm
      repeat' split
      all_goals omega
    rw [this]; decide
  have hbl := nm_len i.op
  have hN := refName_any k (by omega) (by omega)
  have hnm : nmT.getD k [] = nm i.op := by rw [hk, nm_nat k (by omega) (by omega)]
  rw [hnm] at hN
  rw [← hk] at hN
  have hT : textL i = ((((nm i.op ++ [32]) ++ (120 :: Lib.itoa i.rd)) ++ [44, 32]) ++ (Lib.itoa (up i.im))) := by
    unfold textL
    rw [hf, hod]
    simp [tl, told, fld, ordOf, ordT, List.append_assoc]
  rw [hT]
  have ln := itoa_len _ hi.im
  have ld := itoa_len _ hi.rd
  have l1 := itoa_len _ hi.r1
  have l2 := itoa_len _ hi.r2
  have hx := Has.new w i.cells 28
  obtain ⟨b0, b1, b2, b3, b4, b5, b6⟩ := hx.seven
  have k0 := (Bl.refl w).alloc i.cells 28
  have cN := fun w => dec_any i.im hi.im w
  have cXd := fun w => x_any i.rd hi.rd w
  have hub : -9223372036854775808 ≤ up i.im ∧ up i.im ≤ 9223372036854775807 := by unfold up; omega
  have lu := itoa_len _ hub
  have cU := fun w => dec_any (up i.im) hub w
  generalize Lib.itoa (up i.im) = U at *
  generalize nm i.op = base at *
  generalize Lib.itoa i.im = N at *
  obtain ⟨Xd, hXd⟩ : ∃ X, X = 120 :: Lib.itoa i.rd := ⟨_, rfl⟩
  have jXd : Xd.length ≤ 22 := by rw [hXd]; simp; omega
  rw [← hXd] at cXd ⊢
  obtain ⟨y0, hy0, ly0, ay0⟩ := add_two base [32] 10 1 hbl (by decide) (by decide) (by decide)
  rw [← hy0]
  obtain ⟨y1, hy1, ly1, ay1⟩ := add_two y0 Xd 11 22 ly0 jXd (by decide) (by decide)
  rw [← hy1]
  obtain ⟨y2, hy2, ly2, ay2⟩ := add_two y1 [44, 32] 33 2 ly1 (by decide) (by decide) (by decide)
  rw [← hy2]
  obtain ⟨y3, hy3, ly3, ay3⟩ := add_two y2 U 35 21 ly2 lu (by decide) (by decide)
  rw [← hy3]
  clear hy0 ly0 hy1 ly1 hy2 ly2 hy3 ly3 ln ld l1 l2 hbl hT hf hnm hXd jXd lu hub
  have HH := Lib.hid hx
  have HK := Lib.hid k0
  have HN := Lib.hid hN
  have HcN := Lib.hid cN
  have HcXd := Lib.hid cXd
  have HcU := Lib.hid cU
  have q1 : (i.op == 1) = false := by rw [beq_eq_false_iff_ne]; omega
  have q2 : (i.op == 2) = true := by rw [beq_iff_eq]; omega
  have q3 : (i.op == 3) = false := by rw [beq_eq_false_iff_ne]; omega
  have hup : i.im % 4096 = 0 := h.up (by unfold frm; rw [if_pos (by omega)])
  have him := h.im
  clear hx k0 hN cN hod h hi hk cXd cU
  obtain ⟨o1, o2⟩ := hop
  rcases Int.lt_or_le i.im 0 with hneg | hpos
  · have htd : i.im.tdiv 4096 = up i.im - 1048576 := by rw [Int.tdiv_eq_ediv_of_dvd (Int.dvd_of_emod_eq_zero hup)]; unfold up; omega
    have hu1 : up i.im < 1048576 := by unfold up; omega
    have hu0 : 0 ≤ up i.im := by unfold up; omega
    generalize up i.im = uu at *
    clear hneg hup
    go_enter Tryz.func15, Tryz.ntmps15
    go_wp2_with fail
    refine (HN.out _).mono ?_
    rintro e w1 ⟨rfl, rfl⟩
    go_wp2_with fail
    refine (HcN.out _).mono ?_
    rintro e w2 ⟨rfl, k2⟩
    have hH2 := HH.out.bl k2
    have K2 := Lib.hid (HK.out.trans k2)
    clear b0 b1 b2 b3 b4 b5 b6 k2
    obtain ⟨b0, b1, b2, b3, b4, b5, b6⟩ := hH2.seven
    have HH2 := Lib.hid hH2
    clear hH2
    go_wp2_with fail
    refine (HcXd.out _).mono ?_
    rintro e w3 ⟨rfl, k3⟩
    have K3 := Lib.hid (K2.out.trans k3)
    clear k3
    go_wp2_with fail
    refine (HcU.out _).mono ?_
    rintro e w4 ⟨rfl, k4⟩
    have K4 := Lib.hid (K3.out.trans k4)
    clear k4
    go_wp2
    go_ret
    exact ⟨rfl, K4.out⟩
  · have htd : i.im.tdiv 4096 = up i.im := by rw [Int.tdiv_eq_ediv_of_dvd (Int.dvd_of_emod_eq_zero hup)]; unfold up; omega
    have hu1 : up i.im < 1048576 := by unfold up; omega
    have hu0 : 0 ≤ up i.im := by unfold up; omega
    generalize up i.im = uu at *
    clear hpos hup
    go_enter Tryz.func15, Tryz.ntmps15
    go_wp2_with fail
    refine (HN.out _).mono ?_
    rintro e w1 ⟨rfl, rfl⟩
    go_wp2_with fail
    refine (HcN.out _).mono ?_
    rintro e w2 ⟨rfl, k2⟩
    have hH2 := HH.out.bl k2
    have K2 := Lib.hid (HK.out.trans k2)
    clear b0 b1 b2 b3 b4 b5 b6 k2
    obtain ⟨b0, b1, b2, b3, b4, b5, b6⟩ := hH2.seven
    have HH2 := Lib.hid hH2
    clear hH2
    go_wp2_with fail
    refine (HcXd.out _).mono ?_
    rintro e w3 ⟨rfl, k3⟩
    have K3 := Lib.hid (K2.out.trans k3)
    clear k3
    go_wp2_with fail
    refine (HcU.out _).mono ?_
    rintro e w4 ⟨rfl, k4⟩
    have K4 := Lib.hid (K3.out.trans k4)
    clear k4
    go_wp2
    go_ret
    exact ⟨rfl, K4.out⟩
end Go.Proofs.YtionnhjldcpmjaaGreatDoor
set_option linter.unusedVariables false
set_option linter.unusedSimpArgs false
namespace Go.Proofs.YtionnhjldcpmjaaGreatDoor
open Go.RowKit
theorem refText_any (i : Ins) (h : Good i) (w : World) : Calls Tryz.prog 15 #[.agg i.cells] w fun e w' => e = .returned (str (textL i)) ∧ Bl w w' := by
  have ho := h.op
  have hc : (5 ≤ i.op ∧ i.op ≤ 10) ∨ (4 ≤ i.op ∧ i.op ≤ 4) ∨ (11 ≤ i.op ∧ i.op ≤ 17) ∨ (18 ≤ i.op ∧ i.op ≤ 21) ∨ (22 ≤ i.op ∧ i.op ≤ 30) ∨ (41 ≤ i.op ∧ i.op ≤ 44) ∨ (31 ≤ i.op ∧ i.op ≤ 40) ∨ (45 ≤ i.op ∧ i.op ≤ 62) ∨ (85 ≤ i.op ∧ i.op ≤ 88) ∨ (3 ≤ i.op ∧ i.op ≤ 3) ∨ (63 ≤ i.op ∧ i.op ≤ 63) ∨ (74 ≤ i.op ∧ i.op ≤ 74) ∨ (64 ≤ i.op ∧ i.op ≤ 73) ∨ (75 ≤ i.op ∧ i.op ≤ 84) ∨ (1 ≤ i.op ∧ i.op ≤ 1) ∨ (2 ≤ i.op ∧ i.op ≤ 2) := by omega
  rcases hc with hc | hc | hc | hc | hc | hc | hc | hc | hc | hc | hc | hc | hc | hc | hc | hc
  · exact refText_br i h w hc
  · exact refText_im1 i h w hc
  · exact refText_im2 i h w hc
  · exact refText_st i h w hc
  · exact refText_ii1 i h w hc
  · exact refText_ii2 i h w hc
  · exact refText_rg1 i h w hc
  · exact refText_rg2 i h w hc
  · exact refText_ba i h w hc
  · exact refText_jp i h w hc
  · exact refText_lr1 i h w hc
  · exact refText_lr2 i h w hc
  · exact refText_am1 i h w hc
  · exact refText_am2 i h w hc
  · exact refText_up1 i h w hc
  · exact refText_up2 i h w hc
theorem textL_len (i : Ins) (hi : In64 i) : (textL i).length ≤ 90 := by
  have a := nm_len i.op
  have b := ordOf_len i.od.toNat
  have c := tl_len i hi (prt (frm i.op)) [32] (by decide)
  have d := prt_len (frm i.op)
  unfold textL
  rw [List.length_append, List.length_append]
  omega
end Go.Proofs.YtionnhjldcpmjaaGreatDoor
