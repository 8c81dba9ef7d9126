/-
  The regions of pages: Regions.
-/
import Derived.Test.YtilahffbfephbaaRefA
set_option linter.unusedVariables false
set_option linter.unusedSimpArgs false
namespace Go.Proofs.Ytilahffbfephbaa
open Go.RowKit
set_option maxRecDepth 100000
theorem regs_take (P : List Pg) (k : Nat) (x : Pg) (hk : P[k]? = some x) : join [] ((P.take (k + 1)).map toR) = joinOne (join [] ((P.take k).map toR)) (toR x) := by
  rw [List.take_add_one, hk]
  simp [join, List.foldl_append]
structure RR (w : World) (P : List Pg) (k : Nat) (v : Value) (wr : World) : Prop where
  row : Row wr w.heap.size v (join [] ((P.take k).map toR))
  bl : Bl w wr
set_option maxHeartbeats 4000000 in
theorem regions_any {w : World} {base N : Nat} {v : Value} {P : List Pg} (h : PRow w base v P) (hp : Pgs N P) (hN : N ≤ 1000) : Calls Try.prog 22 #[v] w (RowPost w (regs P)) := by
  obtain ⟨A, cap, rfl⟩ := h.shape
  have hl := hp.len
  have hlI : (P.length : Int) ≤ 1000 := by omega
  have HPR := Lib.hid h; clear h
  have HPG := Lib.hid hp; clear hp
  obtain ⟨n, hn⟩ : ∃ n, n = P.length := ⟨_, rfl⟩
  rw [← hn] at hlI HPR ⊢
  have HN := Lib.hid hn; clear hn
  have HNN := Lib.hid hN; clear hN hl
  go_enter Try.func22, Try.ntmps22
  go_wp2_with fail
  go_loopw [3, 4, 5, 6] (fun v3 i _ _ wr => ∃ k : Nat, k ≤ n ∧ i = .int .i64 k ∧ RR w P k v3 wr) (fun _ i _ _ _ => n - (intOf i).toNat)
  case atStart => exact ⟨0, by omega, rfl, ⟨RowG.nil, Bl.refl _⟩⟩
  case round =>
    obtain ⟨k, hk, rfl, hrr⟩ := hrel
    have HRR := Lib.hid hrr; clear hrr
    by_cases hlt : k < n
    · have hltL : k < P.length := by have := HN.out; omega
      obtain ⟨x, hx⟩ : ∃ x, P[k]? = some x := ⟨P[k], List.getElem?_eq_getElem hltL⟩
      have hne : P ≠ [] := by intro e; rw [e] at hltL; simp at hltL
      obtain ⟨g, cap', cur, hA, _, hnc, hg, _⟩ := HPR.out.form hne
      have hA' : A = some ⟨g, 0, none⟩ := by injection hA
      subst hA'
      obtain ⟨c0, c1, c2⟩ := prow_cells (HPR.out.bl HRR.out.bl) k x hx
      clear hA hnc hg hne hltL
      obtain ⟨x1, x2⟩ := HPG.out.2 x (List.mem_of_getElem? hx)
      have hN2 := HNN.out
      have x3 : x.no < 1000 := by omega
      clear hN2 x2
      have hstep := regs_take P k x hx
      have hkI : (k : Int) < (n : Int) := by omega
      clear hx
      obtain ⟨J, hJ⟩ : ∃ J, J = join [] ((P.take k).map toR) := ⟨_, rfl⟩
      have hrow := HRR.out.row
      rw [← hJ] at hrow hstep
      have hjl : J.length ≤ 1000 := by
        have h1 := join_len [] ((P.take k).map toR)
        rw [← hJ, List.length_map, List.length_take] at h1
        simp only [List.length_nil] at h1; omega
      have HS := Lib.hid hstep; clear hstep hJ
      have HJL := Lib.hid hjl; clear hjl
      have HBL := Lib.hid HRR.out.bl
      clear c2
      obtain ⟨xn, xp, xb⟩ := x
      simp only [toR] at *
      rcases last_cases J with rfl | ⟨B, q, rfl⟩
      · obtain rfl := hrow.2 rfl
        have HROW2 := Lib.hid hrow; clear hrow
        go_wp2_with fail
        go_quiet (fail)
        have hrowD : Row ((wr.drewN nq).alloc (.cells #[.int .u64 (xn * 4096), .int .u64 (xn * 4096 + 4096), .int .i64 xp] 51)) w.heap.size (.slice none 0 0) [] := (HROW2.out.bl ((Bl.refl wr).drewN nq)).bl (Bl.new _ _)
        have hbel : Bl w ((wr.drewN nq).alloc (.cells #[.int .u64 (xn * 4096), .int .u64 (xn * 4096 + 4096), .int .i64 xp] 51)) := (HBL.out.drewN nq).alloc _
        obtain ⟨v', W', hrun, hrow3, hgr, hown⟩ := row_push hrowD ⟨xn * 4096, xn * 4096 + 4096, xp⟩ wr.heap.size 38 (heap_alloc_new (wr.drewN nq) _) (by have := HJL.out; omega) hbel.size
        have hj2 : RR w P (k + 1) v' W' := ⟨by rw [HS.out, joinOne_nil]; exact hrow3, Below.grown hbel hgr hbel.size (fun q' hq' => (hrowD.lt q' hq').1)⟩
        have HJ2 := Lib.hid hj2; clear hj2 hrow3 hgr hown hrowD hbel
        have HRUN := Lib.hid hrun; clear hrun
        go_wp2_with (first | (at_builtin; refine wpl_append_run rfl (.tmp 54) (.tmp 64) 38 rfl _ _ _ rfl rfl HRUN.out ?_))
        refine ⟨⟨k + 1, by omega, by go_num, HJ2.out⟩, ?_⟩
        simp only [intOf]; omega
      · have HROW2 := Lib.hid hrow; clear hrow
        have hq : (B ++ [q])[B.length]? = some q := by simp
        obtain ⟨g0, cap0, _, hv0, hbg0, _, _, _⟩ := HROW2.out.form (by simp)
        simp only [List.length_append, List.length_singleton] at hv0
        subst hv0
        obtain ⟨d0, d1, d2⟩ := row_cells HROW2.out B.length q hq
        have hBl : B.length ≤ 20000 := by have := HJL.out; simp at this; omega
        clear hq
        obtain ⟨j, hj⟩ : ∃ j, j = B.length := ⟨_, rfl⟩
        rw [← hj] at d0 d1 d2 hBl HROW2 HRR ⊢
        have HJJ := Lib.hid hj; clear hj
        have fz := HROW2.out.free (j * 3 + 1)
        have hjI : (j : Int) ≤ 20000 := by omega
        have hj0 : (0 : Int) ≤ (j : Int) := by omega
        by_cases e1 : q.e = xn * 4096
        · have t1 : (q.e == xn * 4096) = true := by simp [e1]
          by_cases e2 : q.p = xp
          · have t2 : (q.p == xp) = true := by simp [e2]
            have HJY := Lib.hid (joinOne_yes B q ⟨xn * 4096, xn * 4096 + 4096, xp⟩ e1 e2)
            clear e1 e2
            go_wp2_with fail
            go_quiet (fail)
            have hrowE := row_end (HROW2.out.bl ((Bl.refl wr).drewN nq)) (xn * 4096 + 4096)
            rw [← HJJ.out] at hrowE
            have hj2 : RR w P (k + 1) (.slice (some ⟨g0, 0, none⟩) (j + 1) cap0) ((wr.drewN nq).setCell ⟨g0, j * 3 + 1, none⟩ (.int .u64 (xn * 4096 + 4096))) := ⟨by rw [HS.out, HJY.out]; exact hrowE, (HBL.out.drewN nq).set hbg0 _⟩
            have HJ2 := Lib.hid hj2; clear hj2 hrowE
            go_wp2_with fail
            refine ⟨⟨k + 1, by omega, by go_num, HJ2.out⟩, ?_⟩
            simp only [intOf]; omega
          · have t2 : (q.p == xp) = false := by simp [e2]
            have HJN := Lib.hid (joinOne_no B q ⟨xn * 4096, xn * 4096 + 4096, xp⟩ (fun h => e2 h.2))
            clear e1 e2
            go_wp2_with fail
            go_quiet (fail)
            have hrowD : Row ((wr.drewN nq).alloc (.cells #[.int .u64 (xn * 4096), .int .u64 (xn * 4096 + 4096), .int .i64 xp] 51)) w.heap.size (.slice (some ⟨g0, 0, none⟩) (j + 1) cap0) (B ++ [q]) := (HROW2.out.bl ((Bl.refl wr).drewN nq)).bl (Bl.new _ _)
            have hbel : Bl w ((wr.drewN nq).alloc (.cells #[.int .u64 (xn * 4096), .int .u64 (xn * 4096 + 4096), .int .i64 xp] 51)) := (HBL.out.drewN nq).alloc _
            obtain ⟨v', W', hrun, hrow3, hgr, hown⟩ := row_push hrowD ⟨xn * 4096, xn * 4096 + 4096, xp⟩ wr.heap.size 38 (heap_alloc_new (wr.drewN nq) _) (by have := HJL.out; omega) hbel.size
            have hj2 : RR w P (k + 1) v' W' := ⟨by rw [HS.out, HJN.out]; exact hrow3, Below.grown hbel hgr hbel.size (fun q' hq' => (hrowD.lt q' hq').1)⟩
            have HJ2 := Lib.hid hj2; clear hj2 hrow3 hgr hown hrowD hbel
            have HRUN := Lib.hid hrun; clear hrun
            go_wp2_with (first | (at_builtin; refine wpl_append_run rfl (.tmp 54) (.tmp 64) 38 rfl _ _ _ rfl rfl HRUN.out ?_))
            refine ⟨⟨k + 1, by omega, by go_num, HJ2.out⟩, ?_⟩
            simp only [intOf]; omega
        · have t1 : (q.e == xn * 4096) = false := by simp [e1]
          have HJN := Lib.hid (joinOne_no B q ⟨xn * 4096, xn * 4096 + 4096, xp⟩ (fun h => e1 h.1))
          clear e1
          go_wp2_with fail
          go_quiet (fail)
          have hrowD : Row ((wr.drewN nq).alloc (.cells #[.int .u64 (xn * 4096), .int .u64 (xn * 4096 + 4096), .int .i64 xp] 51)) w.heap.size (.slice (some ⟨g0, 0, none⟩) (j + 1) cap0) (B ++ [q]) := (HROW2.out.bl ((Bl.refl wr).drewN nq)).bl (Bl.new _ _)
          have hbel : Bl w ((wr.drewN nq).alloc (.cells #[.int .u64 (xn * 4096), .int .u64 (xn * 4096 + 4096), .int .i64 xp] 51)) := (HBL.out.drewN nq).alloc _
          obtain ⟨v', W', hrun, hrow3, hgr, hown⟩ := row_push hrowD ⟨xn * 4096, xn * 4096 + 4096, xp⟩ wr.heap.size 38 (heap_alloc_new (wr.drewN nq) _) (by have := HJL.out; omega) hbel.size
          have hj2 : RR w P (k + 1) v' W' := ⟨by rw [HS.out, HJN.out]; exact hrow3, Below.grown hbel hgr hbel.size (fun q' hq' => (hrowD.lt q' hq').1)⟩
          have HJ2 := Lib.hid hj2; clear hj2 hrow3 hgr hown hrowD hbel
          have HRUN := Lib.hid hrun; clear hrun
          go_wp2_with (first | (at_builtin; refine wpl_append_run rfl (.tmp 54) (.tmp 64) 38 rfl _ _ _ rfl rfl HRUN.out ?_))
          refine ⟨⟨k + 1, by omega, by go_num, HJ2.out⟩, ?_⟩
          simp only [intOf]; omega
    · obtain rfl : k = n := by omega
      have hfin := HRR.out.row
      rw [HN.out, List.take_length] at hfin
      have HF := Lib.hid hfin; clear hfin
      go_wp2_with fail
      go_ret
      exact ⟨_, rfl, HF.out, HRR.out.bl⟩
end Go.Proofs.Ytilahffbfephbaa
