/-
  Atomic instructions by the reference: loads with stores; all of them.
  Atomic instructions: steps of both spaces.
-/
import Derived.Test.YtpalhkfipnbcnaaQ20
set_option linter.unusedVariables false
set_option linter.unusedSimpArgs false
namespace Go.Proofs.Ytpalhkfipnbcnaa
open Go.RowKit
set_option maxRecDepth 100000
section
variable {S : Nat → Prop} {mo b0 b1 : Int} {w V V' : World} {hb rb : Nat} {P : List Pg} {M M' : Nat → Int} {pc ha hn : Int} {xs : List Int}
set_option maxHeartbeats 8000000 in
theorem ratom_am4 (h : RP S w rb P M mo b0 b1) (hh : HAt w hb rb pc xs ha hn) (hS : ¬ S hb) (op : Int) (a : Nat) (x : Int) (hA : a < 2 ^ 64) (hx0 : 0 ≤ x) (hx1 : x < 18446744073709551616) (ho : op ∈ amoOps) (hw : awid op = 4) (hm : (a : Int) % 4 = 0) :
    Calls Try.prog 14 #[addr0 hb, .int .i64 op, .int .u64 (a : Int), .int .u64 x] w (RAtomPost S w hb rb P M mo b0 b1 pc xs ha hn op a x) := by
  have cw : ∀ w, Calls Try.prog 11 #[.int .i64 op] w fun e w' => e = .returned (.int .i64 4) ∧ w = w' := fun w => by
    have := rwidth_any op w
    rwa [hw] at this
  have CW := Lib.hid cw; clear cw
  have hmid := mid_of h hh hS
  obtain ⟨c0, c1, c2⟩ := (hh.bl (Bl.new w (.cells #[.int .i64 0, .int .i64 0, .int .u64 0] 43))).cells
  have q0 := (hh.bl (Bl.new w (.cells #[.int .i64 0, .int .i64 0, .int .u64 0] 43))).frozen 33
  have q1 := (hh.bl (Bl.new w (.cells #[.int .i64 0, .int .i64 0, .int .u64 0] 43))).frozen 34
  have HMID := Lib.hid hmid; clear hmid h hh hS
  have haI : (a : Int) ≤ 18446744073709551615 := by omega
  have haI0 : (0 : Int) ≤ (a : Int) := by omega
  have HA := Lib.hid hA; clear hA
  have t1 : ((a : Int) % 4 != 0) = false := by simp [hm]
  have HM := Lib.hid (show (a : Int) % (awid op : Int) = 0 by rw [hw]; exact hm); clear hm
  have hop := ho
  simp only [amoOps, List.mem_cons, List.not_mem_nil, or_false] at hop
  have n1 : (op == 63) = false := nin (by omega)
  have n2 : (op == 74) = false := nin (by omega)
  have n3 : (op == 64) = false := nin (by omega)
  have n4 : (op == 75) = false := nin (by omega)
  have HO := Lib.hid ho; clear ho hop
  have HW := Lib.hid hw; clear hw
  have HX := Lib.hid (And.intro hx0 hx1); clear hx0 hx1
  unfold addr0 at *
  go_enter Try.func14, Try.ntmps14
  go_wp2_with fail
  with_reducible refine (CW.out _).mono ?_
  rintro e w' ⟨rfl, rfl⟩
  obtain ⟨W, hW⟩ : ∃ W, W = w.alloc (.cells #[.int .i64 0, .int .i64 0, .int .u64 0] 43) := ⟨_, rfl⟩
  rw [← hW] at c0 c1 c2 q0 q1 HMID ⊢
  clear hW
  go_upto_region 6 with (fail)
  obtain ⟨V, hV⟩ : ∃ V, V = (W.setCell ⟨hb, 34, none⟩ (.int .i64 0)).setCell ⟨hb, 33, none⟩ (.int .u64 0) := ⟨_, rfl⟩
  rw [← hV] at HMID ⊢
  clear hV c0 c1 c2 q0 q1
  obtain ⟨c0, c1, c2⟩ := HMID.out.hart.cells
  have q0 := HMID.out.hart.frozen 33
  have q1 := HMID.out.hart.frozen 34
  obtain ⟨d0, d1, d2, r0, r1, r2⟩ := row3 HMID.out.stop
  have cl := load_lit4 HMID.out.rp a HA.out
  have CL := Lib.hid cl; clear cl
  unfold addr0 at *
  go_wp2_with fail
  with_reducible refine CL.out.mono ?_
  rintro e w1 ⟨old, k, y, rfl, hh, kk⟩
  have HM1 := Lib.hid (HMID.out.bl kk); clear HMID kk c0 c1 c2 q0 q1 d0 d1 d2 r0 r1 r2
  have HSZ := Lib.hid (lt_at HM1.out.stop)
  unfold faultV
  rcases hh with ⟨rfl, hy, hh⟩ | ⟨rfl, hx, hy, hh⟩
  · have HH := Lib.hid hh; clear hh
    have HM2 := Lib.hid (HM1.out.bl (Bl.new w1 (.cells #[.int .i64 1, .int .u64 y] 41)))
    obtain ⟨d0, d1, d2, r0, r1, r2⟩ := row3 HM2.out.stop
    obtain ⟨f0, f1, g0, g1⟩ := row2 (heap_alloc_new w1 (.cells #[.int .i64 1, .int .u64 y] 41))
    go_upto_region 20 with (fail)
    generalize w1.alloc (.cells #[.int .i64 1, .int .u64 y] 41) = V2 at *
    go_region
    all_goals (
      (try go_wp2_with fail)
      (try simp only [Exit.inBlock, Exit.then])
      obtain ⟨s1, s2, s3, s4⟩ := (HM2.out.bl ((Bl.refl _).drew)).fin 4 1 y
      refine bodyPost_ret (results_tmp_row rfl _ _ w.heap.size 43 _ (0, 0) _ rfl (s1) Try.underlying43 rfl (by kernel_rfl)) rfl ?_
      exact ⟨badO 4 1 y, M, rfl, StepIs.amBad y HO.out HM.out (by rw [HW.out]; exact HH.out), s2, s3, s4⟩)
  · have HH := Lib.hid hh; clear hh
    subst hx
    have nb := numAt_bd HM1.out.rp.by_ a 4 (by omega)
    have ca := fun w => amo_any op (numAt M a 4) x w nb.1 nb.2 HX.out.1 HX.out.2
    have CA := Lib.hid ca; clear ca
    have cs := fun w => refSext_any (numAt M a 4) 32 w nb.1
    have CS := Lib.hid cs; clear cs nb
    have HM2 := Lib.hid (HM1.out.bl (Bl.new w1 (.cells #[.int .i64 0, .int .u64 0] 41)))
    have HF2 := Lib.hid (heap_alloc_new w1 (.cells #[.int .i64 0, .int .u64 0] 41))
    go_upto_region 25 with (fail)
    generalize w1.alloc (.cells #[.int .i64 0, .int .u64 0] 41) = V2 at *
    obtain ⟨gb, hgb⟩ : ∃ gb, gb = w1.heap.size := ⟨_, rfl⟩
    rw [← hgb] at HF2 HSZ ⊢
    clear hgb HM1
    subst hy
    go_wp2_with fail
    with_reducible refine (CA.out _).mono ?_
    rintro e w3 ⟨rfl, k3⟩
    have HM3 := Lib.hid (HM2.out.bl k3)
    have HF3 := Lib.hid (k3.at_ HF2.out)
    clear HM2 HF2 k3
    have cst := store_lit4 HM3.out.rp a (amoV op (numAt M a 4) x) HA.out
    have CST := Lib.hid cst; clear cst
    obtain ⟨c0, c1, c2⟩ := HM3.out.hart.cells
    unfold addr0 at CST c2
    generalize hnew : amoV op (numAt M a 4) x = new at *
    have HNEW := Lib.hid hnew; clear hnew
    go_wp2_with fail
    with_reducible refine CST.out.mono ?_
    rintro e w4 ⟨k, z, rfl, hs⟩
    have hw4 : Mid S w hb rb P M mo b0 b1 pc xs w4 ∧ k = 2 ∧ FirstAt (regs P) 2 a 4 z ∧ w4.heap[gb]? = some (.cells #[.int .i64 0, .int .u64 0] 41 (0, 0)) ∨ Mid S w hb rb P (lay M a (putB new 4)) mo b0 b1 pc xs w4 ∧ k = 0 ∧ z = 0 ∧ AllCan (regs P) 2 a 4 ∧ w4.heap[gb]? = some (.cells #[.int .i64 0, .int .u64 0] 41 (0, 0)) := by
      rcases hs with ⟨hk, z1, z2, z3, z4, k4⟩ | ⟨hk, hz, z5, hrp, hfr⟩
      · exact .inl ⟨HM3.out.bl k4, hk, ⟨z1, z2, z3, z4⟩, k4.at_ HF3.out⟩
      · exact .inr ⟨HM3.out.rturn hrp hfr, hk, hz, z5, hfr.at_ HF3.out (fun e => by have := HSZ.out; omega)⟩
    clear hs HM3 HF3 c0 c1 c2
    unfold faultV
    rcases hw4 with ⟨hm4, hk, hz, hf4⟩ | ⟨hm4, hk, hz, hc2, hf4⟩
    · subst hk
      obtain ⟨hm5, hf5⟩ := hm4.fset hf4 HSZ.out (.int .i64 2) (.int .u64 z)
      obtain ⟨p0, p1, p2, p3⟩ := row2 hf4
      have HM5 := Lib.hid hm5; clear hm5 hm4
      have HF5 := Lib.hid hf5; clear hf5 hf4
      have HZ := Lib.hid hz; clear hz
      go_upto_region 27 with (fail)
      generalize (w4.setCell ⟨gb, 0, none⟩ (.int .i64 2)).setCell ⟨gb, 1, none⟩ (.int .u64 z) = V5 at *
      clear p0 p1 p2 p3
      obtain ⟨p0, p1, p2, p3⟩ := row2 HF5.out
      obtain ⟨d0, d1, d2, r0, r1, r2⟩ := row3 HM5.out.stop
      go_upto_region 28 with (fail)
      go_region
      all_goals (
        (try go_wp2_with fail)
        (try simp only [Exit.inBlock, Exit.then])
        obtain ⟨s1, s2, s3, s4⟩ := (HM5.out.bl ((Bl.refl _).drew)).fin 4 2 z
        refine bodyPost_ret (results_tmp_row rfl _ _ w.heap.size 43 _ (0, 0) _ rfl (s1) Try.underlying43 rfl (by kernel_rfl)) rfl ?_
        exact ⟨badO 4 2 z, M, rfl, StepIs.amNo z HO.out HM.out (by rw [HW.out]; exact HH.out) (by rw [HW.out]; exact HZ.out), s2, s3, s4⟩)
    · subst hk hz
      obtain ⟨hm5, hf5⟩ := hm4.fset hf4 HSZ.out (.int .i64 0) (.int .u64 0)
      obtain ⟨p0, p1, p2, p3⟩ := row2 hf4
      have HM5 := Lib.hid hm5; clear hm5 hm4
      have HF5 := Lib.hid hf5; clear hf5 hf4
      have HC2 := Lib.hid hc2; clear hc2
      go_upto_region 27 with (fail)
      generalize (w4.setCell ⟨gb, 0, none⟩ (.int .i64 0)).setCell ⟨gb, 1, none⟩ (.int .u64 0) = V5 at *
      clear p0 p1 p2 p3
      obtain ⟨p0, p1, p2, p3⟩ := row2 HF5.out
      obtain ⟨c0, c1, c2⟩ := HM5.out.hart.cells
      have q0 := HM5.out.hart.frozen 33
      have q1 := HM5.out.hart.frozen 34
      go_upto_region 31 with (fail)
      obtain ⟨u1, u2, u3, u4⟩ := HM5.out.held ha hn
      have HLT := Lib.hid HM5.out.lt
      obtain ⟨V6, hV6⟩ : ∃ V6, V6 = (V5.setCell ⟨hb, 33, none⟩ (.int .u64 ha)).setCell ⟨hb, 34, none⟩ (.int .i64 hn) := ⟨_, rfl⟩
      rw [← hV6] at u1 u2 u3 u4 ⊢
      clear hV6 HM5 HF5 c0 c1 c2 q0 q1 p0 p1 p2 p3
      obtain ⟨d0, d1, d2, r0, r1, r2⟩ := row3 u2
      have U1 := Lib.hid u1; clear u1
      have U2 := Lib.hid u2; clear u2
      have U3 := Lib.hid u3; clear u3
      have U4 := Lib.hid u4; clear u4
      go_wp2_with fail
      with_reducible refine (CS.out _).mono ?_
      rintro e w' ⟨rfl, rfl⟩
      go_wp2_with fail
      (try simp only [Exit.inBlock, Exit.then])
      obtain ⟨s1, s2, s3, s4⟩ := held_fin HLT.out U1.out U2.out U3.out U4.out 0 0 0
      have hs := StepIs.amYes (x := x) (ha := ha) (hn := hn) (M := M) HO.out HM.out (by rw [HW.out]; exact HH.out) (by rw [HW.out]; exact HC2.out)
      rw [HW.out, HNEW.out] at hs
      refine bodyPost_ret (results_tmp_row rfl _ _ w.heap.size 43 _ (0, 0) _ rfl (s1) Try.underlying43 rfl (by kernel_rfl)) rfl ?_
      exact ⟨⟨sextI (numAt M a 4) 32, ha, hn, 0, 0, 0⟩, _, rfl, hs, s2, s3, s4⟩
set_option maxHeartbeats 8000000 in
theorem ratom_am8 (h : RP S w rb P M mo b0 b1) (hh : HAt w hb rb pc xs ha hn) (hS : ¬ S hb) (op : Int) (a : Nat) (x : Int) (hA : a < 2 ^ 64) (hx0 : 0 ≤ x) (hx1 : x < 18446744073709551616) (ho : op ∈ amoOps) (hw : awid op = 8) (hm : (a : Int) % 8 = 0) :
    Calls Try.prog 14 #[addr0 hb, .int .i64 op, .int .u64 (a : Int), .int .u64 x] w (RAtomPost S w hb rb P M mo b0 b1 pc xs ha hn op a x) := by
  have cw : ∀ w, Calls Try.prog 11 #[.int .i64 op] w fun e w' => e = .returned (.int .i64 8) ∧ w = w' := fun w => by
    have := rwidth_any op w
    rwa [hw] at this
  have CW := Lib.hid cw; clear cw
  have hmid := mid_of h hh hS
  obtain ⟨c0, c1, c2⟩ := (hh.bl (Bl.new w (.cells #[.int .i64 0, .int .i64 0, .int .u64 0] 43))).cells
  have q0 := (hh.bl (Bl.new w (.cells #[.int .i64 0, .int .i64 0, .int .u64 0] 43))).frozen 33
  have q1 := (hh.bl (Bl.new w (.cells #[.int .i64 0, .int .i64 0, .int .u64 0] 43))).frozen 34
  have HMID := Lib.hid hmid; clear hmid h hh hS
  have haI : (a : Int) ≤ 18446744073709551615 := by omega
  have haI0 : (0 : Int) ≤ (a : Int) := by omega
  have HA := Lib.hid hA; clear hA
  have t1 : ((a : Int) % 8 != 0) = false := by simp [hm]
  have HM := Lib.hid (show (a : Int) % (awid op : Int) = 0 by rw [hw]; exact hm); clear hm
  have hop := ho
  simp only [amoOps, List.mem_cons, List.not_mem_nil, or_false] at hop
  have n1 : (op == 63) = false := nin (by omega)
  have n2 : (op == 74) = false := nin (by omega)
  have n3 : (op == 64) = false := nin (by omega)
  have n4 : (op == 75) = false := nin (by omega)
  have HO := Lib.hid ho; clear ho hop
  have HW := Lib.hid hw; clear hw
  have HX := Lib.hid (And.intro hx0 hx1); clear hx0 hx1
  unfold addr0 at *
  go_enter Try.func14, Try.ntmps14
  go_wp2_with fail
  with_reducible refine (CW.out _).mono ?_
  rintro e w' ⟨rfl, rfl⟩
  obtain ⟨W, hW⟩ : ∃ W, W = w.alloc (.cells #[.int .i64 0, .int .i64 0, .int .u64 0] 43) := ⟨_, rfl⟩
  rw [← hW] at c0 c1 c2 q0 q1 HMID ⊢
  clear hW
  go_upto_region 6 with (fail)
  obtain ⟨V, hV⟩ : ∃ V, V = (W.setCell ⟨hb, 34, none⟩ (.int .i64 0)).setCell ⟨hb, 33, none⟩ (.int .u64 0) := ⟨_, rfl⟩
  rw [← hV] at HMID ⊢
  clear hV c0 c1 c2 q0 q1
  obtain ⟨c0, c1, c2⟩ := HMID.out.hart.cells
  have q0 := HMID.out.hart.frozen 33
  have q1 := HMID.out.hart.frozen 34
  obtain ⟨d0, d1, d2, r0, r1, r2⟩ := row3 HMID.out.stop
  have cl := load_lit8 HMID.out.rp a HA.out
  have CL := Lib.hid cl; clear cl
  unfold addr0 at *
  go_wp2_with fail
  with_reducible refine CL.out.mono ?_
  rintro e w1 ⟨old, k, y, rfl, hh, kk⟩
  have HM1 := Lib.hid (HMID.out.bl kk); clear HMID kk c0 c1 c2 q0 q1 d0 d1 d2 r0 r1 r2
  have HSZ := Lib.hid (lt_at HM1.out.stop)
  unfold faultV
  rcases hh with ⟨rfl, hy, hh⟩ | ⟨rfl, hx, hy, hh⟩
  · have HH := Lib.hid hh; clear hh
    have HM2 := Lib.hid (HM1.out.bl (Bl.new w1 (.cells #[.int .i64 1, .int .u64 y] 41)))
    obtain ⟨d0, d1, d2, r0, r1, r2⟩ := row3 HM2.out.stop
    obtain ⟨f0, f1, g0, g1⟩ := row2 (heap_alloc_new w1 (.cells #[.int .i64 1, .int .u64 y] 41))
    go_upto_region 20 with (fail)
    generalize w1.alloc (.cells #[.int .i64 1, .int .u64 y] 41) = V2 at *
    go_region
    all_goals (
      (try go_wp2_with fail)
      (try simp only [Exit.inBlock, Exit.then])
      obtain ⟨s1, s2, s3, s4⟩ := (HM2.out.bl ((Bl.refl _).drew)).fin 4 1 y
      refine bodyPost_ret (results_tmp_row rfl _ _ w.heap.size 43 _ (0, 0) _ rfl (s1) Try.underlying43 rfl (by kernel_rfl)) rfl ?_
      exact ⟨badO 4 1 y, M, rfl, StepIs.amBad y HO.out HM.out (by rw [HW.out]; exact HH.out), s2, s3, s4⟩)
  · have HH := Lib.hid hh; clear hh
    subst hx
    have nb := numAt_bd HM1.out.rp.by_ a 8 (by omega)
    have ca := fun w => amo_any op (numAt M a 8) x w nb.1 nb.2 HX.out.1 HX.out.2
    have CA := Lib.hid ca; clear ca
    have cs := fun w => refSext_any (numAt M a 8) 64 w nb.1
    have CS := Lib.hid cs; clear cs nb
    have HM2 := Lib.hid (HM1.out.bl (Bl.new w1 (.cells #[.int .i64 0, .int .u64 0] 41)))
    have HF2 := Lib.hid (heap_alloc_new w1 (.cells #[.int .i64 0, .int .u64 0] 41))
    go_upto_region 25 with (fail)
    generalize w1.alloc (.cells #[.int .i64 0, .int .u64 0] 41) = V2 at *
    obtain ⟨gb, hgb⟩ : ∃ gb, gb = w1.heap.size := ⟨_, rfl⟩
    rw [← hgb] at HF2 HSZ ⊢
    clear hgb HM1
    subst hy
    go_wp2_with fail
    with_reducible refine (CA.out _).mono ?_
    rintro e w3 ⟨rfl, k3⟩
    have HM3 := Lib.hid (HM2.out.bl k3)
    have HF3 := Lib.hid (k3.at_ HF2.out)
    clear HM2 HF2 k3
    have cst := store_lit8 HM3.out.rp a (amoV op (numAt M a 8) x) HA.out
    have CST := Lib.hid cst; clear cst
    obtain ⟨c0, c1, c2⟩ := HM3.out.hart.cells
    unfold addr0 at CST c2
    generalize hnew : amoV op (numAt M a 8) x = new at *
    have HNEW := Lib.hid hnew; clear hnew
    go_wp2_with fail
    with_reducible refine CST.out.mono ?_
    rintro e w4 ⟨k, z, rfl, hs⟩
    have hw4 : Mid S w hb rb P M mo b0 b1 pc xs w4 ∧ k = 2 ∧ FirstAt (regs P) 2 a 8 z ∧ w4.heap[gb]? = some (.cells #[.int .i64 0, .int .u64 0] 41 (0, 0)) ∨ Mid S w hb rb P (lay M a (putB new 8)) mo b0 b1 pc xs w4 ∧ k = 0 ∧ z = 0 ∧ AllCan (regs P) 2 a 8 ∧ w4.heap[gb]? = some (.cells #[.int .i64 0, .int .u64 0] 41 (0, 0)) := by
      rcases hs with ⟨hk, z1, z2, z3, z4, k4⟩ | ⟨hk, hz, z5, hrp, hfr⟩
      · exact .inl ⟨HM3.out.bl k4, hk, ⟨z1, z2, z3, z4⟩, k4.at_ HF3.out⟩
      · exact .inr ⟨HM3.out.rturn hrp hfr, hk, hz, z5, hfr.at_ HF3.out (fun e => by have := HSZ.out; omega)⟩
    clear hs HM3 HF3 c0 c1 c2
    unfold faultV
    rcases hw4 with ⟨hm4, hk, hz, hf4⟩ | ⟨hm4, hk, hz, hc2, hf4⟩
    · subst hk
      obtain ⟨hm5, hf5⟩ := hm4.fset hf4 HSZ.out (.int .i64 2) (.int .u64 z)
      obtain ⟨p0, p1, p2, p3⟩ := row2 hf4
      have HM5 := Lib.hid hm5; clear hm5 hm4
      have HF5 := Lib.hid hf5; clear hf5 hf4
      have HZ := Lib.hid hz; clear hz
      go_upto_region 27 with (fail)
      generalize (w4.setCell ⟨gb, 0, none⟩ (.int .i64 2)).setCell ⟨gb, 1, none⟩ (.int .u64 z) = V5 at *
      clear p0 p1 p2 p3
      obtain ⟨p0, p1, p2, p3⟩ := row2 HF5.out
      obtain ⟨d0, d1, d2, r0, r1, r2⟩ := row3 HM5.out.stop
      go_upto_region 28 with (fail)
      go_region
      all_goals (
        (try go_wp2_with fail)
        (try simp only [Exit.inBlock, Exit.then])
        obtain ⟨s1, s2, s3, s4⟩ := (HM5.out.bl ((Bl.refl _).drew)).fin 4 2 z
        refine bodyPost_ret (results_tmp_row rfl _ _ w.heap.size 43 _ (0, 0) _ rfl (s1) Try.underlying43 rfl (by kernel_rfl)) rfl ?_
        exact ⟨badO 4 2 z, M, rfl, StepIs.amNo z HO.out HM.out (by rw [HW.out]; exact HH.out) (by rw [HW.out]; exact HZ.out), s2, s3, s4⟩)
    · subst hk hz
      obtain ⟨hm5, hf5⟩ := hm4.fset hf4 HSZ.out (.int .i64 0) (.int .u64 0)
      obtain ⟨p0, p1, p2, p3⟩ := row2 hf4
      have HM5 := Lib.hid hm5; clear hm5 hm4
      have HF5 := Lib.hid hf5; clear hf5 hf4
      have HC2 := Lib.hid hc2; clear hc2
      go_upto_region 27 with (fail)
      generalize (w4.setCell ⟨gb, 0, none⟩ (.int .i64 0)).setCell ⟨gb, 1, none⟩ (.int .u64 0) = V5 at *
      clear p0 p1 p2 p3
      obtain ⟨p0, p1, p2, p3⟩ := row2 HF5.out
      obtain ⟨c0, c1, c2⟩ := HM5.out.hart.cells
      have q0 := HM5.out.hart.frozen 33
      have q1 := HM5.out.hart.frozen 34
      go_upto_region 31 with (fail)
      obtain ⟨u1, u2, u3, u4⟩ := HM5.out.held ha hn
      have HLT := Lib.hid HM5.out.lt
      obtain ⟨V6, hV6⟩ : ∃ V6, V6 = (V5.setCell ⟨hb, 33, none⟩ (.int .u64 ha)).setCell ⟨hb, 34, none⟩ (.int .i64 hn) := ⟨_, rfl⟩
      rw [← hV6] at u1 u2 u3 u4 ⊢
      clear hV6 HM5 HF5 c0 c1 c2 q0 q1 p0 p1 p2 p3
      obtain ⟨d0, d1, d2, r0, r1, r2⟩ := row3 u2
      have U1 := Lib.hid u1; clear u1
      have U2 := Lib.hid u2; clear u2
      have U3 := Lib.hid u3; clear u3
      have U4 := Lib.hid u4; clear u4
      go_wp2_with fail
      with_reducible refine (CS.out _).mono ?_
      rintro e w' ⟨rfl, rfl⟩
      go_wp2_with fail
      (try simp only [Exit.inBlock, Exit.then])
      obtain ⟨s1, s2, s3, s4⟩ := held_fin HLT.out U1.out U2.out U3.out U4.out 0 0 0
      have hs := StepIs.amYes (x := x) (ha := ha) (hn := hn) (M := M) HO.out HM.out (by rw [HW.out]; exact HH.out) (by rw [HW.out]; exact HC2.out)
      rw [HW.out, HNEW.out] at hs
      refine bodyPost_ret (results_tmp_row rfl _ _ w.heap.size 43 _ (0, 0) _ rfl (s1) Try.underlying43 rfl (by kernel_rfl)) rfl ?_
      exact ⟨⟨sextI (numAt M a 8) 64, ha, hn, 0, 0, 0⟩, _, rfl, hs, s2, s3, s4⟩
theorem ratom_any (h : RP S w rb P M mo b0 b1) (hh : HAt w hb rb pc xs ha hn) (hS : ¬ S hb) (op : Int) (a : Nat) (x : Int) (hA : a < 2 ^ 64) (hx0 : 0 ≤ x) (hx1 : x < 18446744073709551616) :
    Calls Try.prog 14 #[addr0 hb, .int .i64 op, .int .u64 (a : Int), .int .u64 x] w (RAtomPost S w hb rb P M mo b0 b1 pc xs ha hn op a x) := by
  by_cases h0 : op < 63 ∨ 84 < op
  · exact ratom_none h hh hS op a x hA hx0 hx1 h0
  · by_cases h4 : op ≤ 73
    · have hw : awid op = 4 := awid4 ⟨by omega, h4⟩
      by_cases hm : (a : Int) % 4 = 0
      · by_cases e1 : op = 63
        · subst e1; exact ratom_lr4 h hh hS a x hA hx0 hx1 hm
        · by_cases e2 : op = 64
          · subst e2; exact ratom_sc4 h hh hS a x hA hx0 hx1 hm
          · exact ratom_am4 h hh hS op a x hA hx0 hx1 ((amo_iff op).2 (by omega)) hw hm
      · exact ratom_align4 h hh hS op a x hA hx0 hx1 hw hm
    · have hw : awid op = 8 := awid8 ⟨by omega, by omega⟩
      by_cases hm : (a : Int) % 8 = 0
      · by_cases e1 : op = 74
        · subst e1; exact ratom_lr8 h hh hS a x hA hx0 hx1 hm
        · by_cases e2 : op = 75
          · subst e2; exact ratom_sc8 h hh hS a x hA hx0 hx1 hm
          · exact ratom_am8 h hh hS op a x hA hx0 hx1 ((amo_iff op).2 (by omega)) hw hm
      · exact ratom_align8 h hh hS op a x hA hx0 hx1 hw hm
end
end Go.Proofs.Ytpalhkfipnbcnaa

set_option linter.unusedVariables false
set_option linter.unusedSimpArgs false
namespace Go.Proofs.Ytpalhkfipnbcnaa
open Go.RowKit
set_option maxRecDepth 100000
section
variable {K : Nat → Prop} {w w' : World} {sb rb hb n : Nat} {L L2 : List Rg} {M st M2 : Nat → Int} {mo ba en pc ha hn : Int} {xs : List Int}
theorem two_step (h : Two K w sb rb n L M st mo ba en L2 M2) (ha hn op : Int) (a : Nat) (x : Int) (hA : a < 2 ^ 64) (hx0 : 0 ≤ x) (hx1 : x < 18446744073709551616) (hn0 : n < 80000000) :
    Calls Try.prog 13 #[addr0 sb, holdV ha hn, .int .i64 op, .int .u64 (a : Int), .int .u64 x] w fun e w' => ∃ o M', e = .returned o.v ∧ StepIs L M ha hn op a x o M' ∧ (∃ st', Two K w' sb rb (n + 9) L M' st' mo ba en L2 M2) ∧ Fr (fun b => ¬ K b) w w' := by
  obtain ⟨T1, hm, hT, hcl⟩ := h.call1
  refine (step_any hm ha hn op a x hA hx0 hx1 hn0 hT).mono ?_
  rintro e w' ⟨o, M', rfl, hs, ⟨st', h1⟩, hf⟩
  obtain ⟨g1, g2⟩ := hcl _ _ _ _ _ _ _ _ rfl rfl rfl h1 hf
  exact ⟨o, M', rfl, hs, ⟨st', g1⟩, g2⟩
theorem two_store (h : Two K w sb rb n L M st mo ba en L2 M2) (a k : Nat) (x : Int) (hA : a < 2 ^ 64) (hk : k = 1 ∨ k = 2 ∨ k = 4 ∨ k = 8) (hn0 : n < 80000000) (hc : AllCan L 2 a k) :
    Calls Try.prog 18 #[addr0 sb, .int .u64 (a : Int), .int .i64 (k : Int), .int .u64 x] w fun e w' => e = .returned (faultV 0 0) ∧ (∃ st', Two K w' sb rb (n + 9) L (lay M a (putB x k)) st' mo ba en L2 M2) ∧ Fr (fun b => ¬ K b) w w' := by
  obtain ⟨T1, hm, hT, hcl⟩ := h.call1
  refine (mstore_any hm a k x hA hk hn0 hT).mono ?_
  rintro e w' ⟨q, y, rfl, hs⟩
  rcases hs with ⟨_, z1, z2, z3, _⟩ | ⟨rfl, rfl, _, st', h1, _, hf⟩
  · exact absurd (hc y z1 z2) z3
  · obtain ⟨g1, g2⟩ := hcl _ _ _ _ _ _ _ _ rfl rfl rfl h1 hf
    exact ⟨rfl, ⟨st', g1⟩, g2⟩
theorem two_load (h : Two K w sb rb n L M st mo ba en L2 M2) (a k : Nat) (hA : a < 2 ^ 64) (hk : k = 1 ∨ k = 2 ∨ k = 4 ∨ k = 8) (hc : AllCan L 1 a k) :
    Calls Try.prog 20 #[addr0 sb, .int .u64 (a : Int), .int .i64 (k : Int)] w fun e w' => e = .returned (.tuple #[.int .u64 (numAt M a k), faultV 0 0]) ∧ Bl w w' := by
  obtain ⟨T1, T2, P, hm, _⟩ := h.ex
  refine (load_any hm a k hA hk).mono ?_
  rintro e w' ⟨y, q, x, rfl, hs, kk⟩
  rcases hs with ⟨_, _, z1, z2, z3, _⟩ | ⟨rfl, rfl, rfl, _⟩
  · exact absurd (hc x z1 z2) z3
  · exact ⟨rfl, kk⟩
/-- A step of the reference, of a machine that is kept. -/
theorem two_atom (h : Two K w sb rb n L M st mo ba en L2 M2) (hh : HAt w hb rb pc xs ha hn) (hK : K hb) (op : Int) (a : Nat) (x : Int) (hA : a < 2 ^ 64) (hx0 : 0 ≤ x) (hx1 : x < 18446744073709551616) :
    Calls Try.prog 14 #[addr0 hb, .int .i64 op, .int .u64 (a : Int), .int .u64 x] w fun e w' => ∃ o M2', e = .returned (.tuple #[.int .u64 o.y, stopV o.k o.fk o.fa]) ∧ StepIs L2 M2 ha hn op a x o M2' ∧ HAt w' hb rb pc xs o.ta o.tn ∧ Two K w' sb rb n L M st mo ba en L2 M2' ∧ Fr (fun b => ¬ K b ∨ b = hb) w w' := by
  obtain ⟨T1, T2, P, h1, h2, h3, h4, h5, h6⟩ := h.ex
  refine (ratom_any h2 hh (h5 hb hK).2 op a x hA hx0 hx1).mono ?_
  rintro e w' ⟨o, M', rfl, hs, g1, g2, g3⟩
  rw [h3] at hs
  have hsz := g3.size
  have m1 : MS (fun b => T1 b ∧ (b < w.heap.size ∨ w'.heap.size ≤ b)) w' sb n L M st mo ba en := by
    have g := h1.among (U := fun b => T1 b ∧ b < w.heap.size) fun b hb hT => ⟨hT, hb⟩
    have g5 := g.kept g3 (fun b e e2 => by
      rcases e2 with e2 | e2
      · exact h4 b e.2 e.1 e2
      · exact (h5 hb hK).1 (by rw [← e2]; exact e.1))
    exact g5.among fun b hb e => ⟨e.1, .inl e.2⟩
  refine ⟨o, M', rfl, hs, g1, ⟨fun b => T1 b ∧ (b < w.heap.size ∨ w'.heap.size ≤ b), T2, P, m1, g2, h3, fun b hb e1 e2 => ?_, fun b hb => ⟨fun e => (h5 b hb).1 e.1, (h5 b hb).2⟩, fun b hb => ⟨⟨(h6 b (by omega)).1, .inr hb⟩, (h6 b (by omega)).2⟩⟩, g3.mono fun b _ e => ?_⟩
  · rcases e1.2 with h7 | h7
    · exact h4 b h7 e1.1 e2
    · omega
  · rcases e with e | e
    · exact .inl fun hk => (h5 b hk).2 e
    · exact .inr e
end
/-- Where all three pages may be used so. -/
theorem can_all {L : List Rg} (h : KI L (prS 0 fun _ => 0) 3) (p : Int) (hp : p = 1 ∨ p = 2) (a k : Nat) (h0 : 4096 ≤ a) (h1 : a + k ≤ 16384) : AllCan L p a k := fun y y1 y2 => by
  refine (h.can p y).2 ⟨((y - 4096) / 4096).toNat, by omega, by omega, by omega, ?_⟩
  rw [show prS 0 (fun _ => 0) ((y - 4096) / 4096).toNat = 3 from if_neg (by omega)]
  rcases hp with rfl | rfl <;> decide
theorem hold_eql (a n b m : Int) (w : World) : (Go.binOp .eql 37 (.agg #[.int .u64 a, .int .i64 n]) (.agg #[.int .u64 b, .int .i64 m])).run Try.prog w = .ok (.bool (decide (a = b ∧ n = m))) w := by
  go_simp
  split <;> (try split) <;> simp_all
theorem stop_neq (k : Int) (f : Int) (x : Int) (w : World) : (Go.binOp .neq 43 (.agg #[.int .i64 k, .int .i64 f, .int .u64 x]) (.agg #[.int .i64 k, .int .i64 f, .int .u64 x])).run Try.prog w = .ok (.bool false) w := by
  go_simp
end Go.Proofs.Ytpalhkfipnbcnaa
