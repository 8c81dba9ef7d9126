/-
  Regions behind regions: join.
-/
import Derived.Test.YtpalhkfipnbcnaaRegB
set_option linter.unusedVariables false
set_option linter.unusedSimpArgs false
namespace Go.Proofs.Ytpalhkfipnbcnaa
open Go.RowKit
set_option maxRecDepth 100000
theorem flat_set (A : List Rg) (q : Rg) (x : Int) : (flat rgC (A ++ [q])).set (A.length * 3 + 1) (.int .u64 x) = flat rgC (A ++ [⟨q.s, x, q.p⟩]) := by
  rw [flat_append, flat_append]
  have hl := flat_length rgC_len A
  rw [List.set_append, if_neg (by omega), hl, show A.length * 3 + 1 - A.length * 3 = 1 by omega]
  rfl
theorem row_end {w : World} {base g cap n : Nat} {A : List Rg} {q : Rg} (h : Row w base (.slice (some ⟨g, 0, none⟩) n cap) (A ++ [q])) (x : Int) :
    Row (w.setCell ⟨g, A.length * 3 + 1, none⟩ (.int .u64 x)) base (.slice (some ⟨g, 0, none⟩) n cap) (A ++ [⟨q.s, x, q.p⟩]) := by
  have hn : n = (A ++ [q]).length := by
    obtain ⟨_, _, _, h1, _⟩ := h.form (by simp); injection h1
  subst hn
  refine ⟨?_, fun e => by simp at e⟩
  have h1 := h.1.stored (A.length * 3 + 1) (.int .u64 x)
  rw [flat_set] at h1
  simpa using h1.1
/-- What a join leaves. -/
def JoinPost (base : Nat) (w : World) (L : List Rg) (e : Ending) (w' : World) : Prop := ∃ v, e = .returned v ∧ Row w' base v L ∧ Below base w w'
theorem join_take (L M : List Rg) (k : Nat) (r : Rg) (hk : M[k]? = some r) : join L (M.take (k + 1)) = joinOne (join L (M.take k)) r := by
  rw [List.take_add_one, hk]
  simp [join, List.foldl_append]
theorem joinOne_len (L : List Rg) (r : Rg) : (joinOne L r).length ≤ L.length + 1 := by
  rcases last_cases L with rfl | ⟨A, q, rfl⟩
  · simp [joinOne_nil]
  · by_cases hc : q.e = r.s ∧ q.p = r.p
    · rw [joinOne_yes A q r hc.1 hc.2]; simp
    · rw [joinOne_no A q r hc]; simp
theorem join_len (L M : List Rg) : (join L M).length ≤ L.length + M.length := by
  induction M generalizing L with
  | nil => simp [join]
  | cons r M ih =>
    have := ih (joinOne L r)
    have := joinOne_len L r
    show (join (joinOne L r) M).length ≤ _
    simp only [List.length_cons]; omega
structure JR (w : World) (base : Nat) (L M : List Rg) (bM : Nat) (vM : Value) (k : Nat) (v0 : Value) (wr : World) : Prop where
  row : Row wr base v0 (join L (M.take k))
  more : Row wr bM vM M
  apart : ∀ g, vM.ownBlock = some g → v0.ownBlock ≠ some g
  below : Below base w wr
set_option maxHeartbeats 4000000 in
theorem join_any {w : World} {base bM : Nat} {vL vM : Value} {L M : List Rg} (hL : Row w base vL L) (hM : Row w bM vM M) (hne : ∀ g, vM.ownBlock = some g → vL.ownBlock ≠ some g) (hbase : base ≤ w.heap.size) (hl1 : L.length ≤ 10000) (hl2 : M.length ≤ 10000) :
    Calls Try.prog 93 #[vL, vM] w (JoinPost base w (join L M)) := by
  obtain ⟨A, cap, rfl⟩ := hM.shape
  have h0 : JR w base L M bM (.slice A M.length cap) 0 vL w := ⟨hL, hM, hne, Below.refl _ _⟩
  have H0 := Lib.hid h0; clear h0 hL hM hne
  have hlI : (M.length : Int) ≤ 10000 := by omega
  obtain ⟨n, hn⟩ : ∃ n, n = M.length := ⟨_, rfl⟩
  rw [← hn] at hlI H0 ⊢
  have HN := Lib.hid hn; clear hn
  have HL1 := Lib.hid hl1; clear hl1
  have HL2 := Lib.hid hl2; clear hl2
  have HBASE := Lib.hid hbase; clear hbase
  go_enter Try.func93, Try.ntmps93
  go_wp2_with fail
  go_loopw [0, 6, 7, 10] (fun v0 _ _ i wr => ∃ k : Nat, k ≤ n ∧ i = .int .i64 k ∧ JR w base L M bM (.slice A n cap) k v0 wr) (fun _ _ _ i _ => n - (intOf i).toNat)
  case atStart => exact ⟨0, by omega, rfl, H0.out⟩
  case round =>
    obtain ⟨k, hk, rfl, hj⟩ := hrel
    clear H0
    have HJ := Lib.hid hj; clear hj
    by_cases hlt : k < n
    · have hltL : k < M.length := by have := HN.out; omega
      obtain ⟨r, hr⟩ : ∃ r, M[k]? = some r := ⟨M[k], List.getElem?_eq_getElem hltL⟩
      have hne : M ≠ [] := by intro e; rw [e] at hltL; simp at hltL
      obtain ⟨g, cap', cur, hA, _, hnc, hg, _⟩ := HJ.out.more.form hne
      have hA' : A = some ⟨g, 0, none⟩ := by injection hA
      subst hA'
      obtain ⟨c0, c1, c2⟩ := row_cells HJ.out.more k r hr
      clear hA hnc hg hne hltL
      have hstep := join_take L M k r hr
      have HRK := Lib.hid hr; clear hr
      have hkI : (k : Int) < (n : Int) := by omega
      rename_i v0 _ _ _
      obtain ⟨J, hJ⟩ : ∃ J, J = join L (M.take k) := ⟨_, rfl⟩
      have hrow := HJ.out.row
      rw [← hJ] at hrow hstep
      have hjl : J.length ≤ 20000 := by
        have h1 := join_len L (M.take k)
        have h2 := HL1.out
        have h3 := HL2.out
        rw [← hJ, List.length_take] at h1; omega
      have HS := Lib.hid hstep; clear hstep
      have HJE := Lib.hid hJ; clear hJ
      have HJL := Lib.hid hjl; clear hjl
      rcases last_cases J with rfl | ⟨B, q, rfl⟩
      · obtain rfl := hrow.2 rfl
        have HAP := Lib.hid HJ.out.apart
        have hW : ∀ j, (wr.alloc (.cells #[.int .u64 r.s, .int .u64 r.e, .int .i64 r.p] 112)).cell? ⟨wr.heap.size, j, none⟩ = (#[.int .u64 r.s, .int .u64 r.e, .int .i64 r.p] : Array Value)[j]? := fun j => cell_of_row _ _ j _ 112 (0, 0) (heap_alloc_new wr _)
        have b0 : (wr.alloc (.cells #[.int .u64 r.s, .int .u64 r.e, .int .i64 r.p] 112)).cell? ⟨wr.heap.size, 0, none⟩ = some (.int .u64 r.s) := hW 0
        have b1 : (wr.alloc (.cells #[.int .u64 r.s, .int .u64 r.e, .int .i64 r.p] 112)).cell? ⟨wr.heap.size, 1, none⟩ = some (.int .u64 r.e) := hW 1
        have b2 : (wr.alloc (.cells #[.int .u64 r.s, .int .u64 r.e, .int .i64 r.p] 112)).cell? ⟨wr.heap.size, 2, none⟩ = some (.int .i64 r.p) := hW 2
        have hrow2 := hrow.bl (Bl.new wr (.cells #[.int .u64 r.s, .int .u64 r.e, .int .i64 r.p] 112))
        have hmore2 := HJ.out.more.bl (Bl.new wr (.cells #[.int .u64 r.s, .int .u64 r.e, .int .i64 r.p] 112))
        have hbb : base ≤ wr.heap.size := Nat.le_trans HBASE.out HJ.out.below.size
        have hbel2 := HJ.out.below.alloc hbb (.cells #[.int .u64 r.s, .int .u64 r.e, .int .i64 r.p] 112)
        have hbw : base ≤ (wr.alloc (.cells #[.int .u64 r.s, .int .u64 r.e, .int .i64 r.p] 112)).heap.size := by simp; omega
        clear hW hbb hrow
        have HROW2 := Lib.hid hrow2; clear hrow2
        have HMORE2 := Lib.hid hmore2; clear hmore2
        have HBEL2 := Lib.hid hbel2; clear hbel2
        have HBW := Lib.hid hbw; clear hbw
        go_wp2_with fail
        generalize wr.alloc (.cells #[.int .u64 r.s, .int .u64 r.e, .int .i64 r.p] 112) = W at *
        go_quiet (fail)
        have hrowD : Row ((W.drewN nq).alloc (.cells #[.int .u64 r.s, .int .u64 r.e, .int .i64 r.p] 112)) base (.slice none 0 0) [] := (HROW2.out.bl ((Bl.refl W).drewN nq)).bl (Bl.new _ _)
        have hbel : Below base w ((W.drewN nq).alloc (.cells #[.int .u64 r.s, .int .u64 r.e, .int .i64 r.p] 112)) := (HBEL2.out.trans (((Bl.refl W).drewN nq).mono HBW.out)).alloc HBW.out _
        obtain ⟨v', W', hrun, hrow3, hgr, hown⟩ := row_push hrowD ⟨r.s, r.e, r.p⟩ W.heap.size 75 (heap_alloc_new (W.drewN nq) _) (by have := HJL.out; omega) (Nat.le_trans HBW.out (by simp))
        have hmore : Row W' bM (.slice (some ⟨g, 0, none⟩) n cap) M := (HMORE2.out.bl (((Bl.refl W).drewN nq).alloc (.cells #[.int .u64 r.s, .int .u64 r.e, .int .i64 r.p] 112))).kept fun g' hg' => by
          have e : g = g' := by simpa [Value.ownBlock] using hg'
          subst e
          exact hgr.block g (Nat.lt_of_lt_of_le (HMORE2.out.lt g rfl).2 (by simp)) (fun e => HAP.out g rfl e.symm)
        have hj2 : JR w base L M bM (.slice (some ⟨g, 0, none⟩) n cap) (k + 1) v' W' := ⟨by rw [HS.out, joinOne_nil]; exact hrow3, hmore, fun g' hg' e => by
          have e2 : g = g' := by simpa [Value.ownBlock] using hg'
          subst e2
          rcases hown with e3 | e3
          · rw [e3] at e; exact HAP.out g rfl e
          · rw [e3] at e
            have := (HMORE2.out.lt g rfl).2
            have e4 : ((W.drewN nq).alloc (.cells #[.int .u64 r.s, .int .u64 r.e, .int .i64 r.p] 112)).heap.size = g := by simpa using e
            simp at e4; omega, hbel.grown hgr (Nat.le_trans HBW.out (by simp)) (fun q' hq' => (hrowD.lt q' hq').1)⟩
        have HJ2 := Lib.hid hj2; clear hj2 hmore hrow3 hgr hown hrowD hbel
        have HRUN := Lib.hid hrun; clear hrun
        go_wp2_with (first | (at_builtin; refine wpl_append_run rfl (.tmp 45) (.tmp 47) 75 rfl _ _ _ rfl rfl HRUN.out ?_))
        refine ⟨⟨k + 1, by omega, by go_num, HJ2.out⟩, ?_⟩
        simp only [intOf]; omega
      · 
        have HAP := Lib.hid HJ.out.apart
        have hW : ∀ j, (wr.alloc (.cells #[.int .u64 r.s, .int .u64 r.e, .int .i64 r.p] 112)).cell? ⟨wr.heap.size, j, none⟩ = (#[.int .u64 r.s, .int .u64 r.e, .int .i64 r.p] : Array Value)[j]? := fun j => cell_of_row _ _ j _ 112 (0, 0) (heap_alloc_new wr _)
        have b0 : (wr.alloc (.cells #[.int .u64 r.s, .int .u64 r.e, .int .i64 r.p] 112)).cell? ⟨wr.heap.size, 0, none⟩ = some (.int .u64 r.s) := hW 0
        have b1 : (wr.alloc (.cells #[.int .u64 r.s, .int .u64 r.e, .int .i64 r.p] 112)).cell? ⟨wr.heap.size, 1, none⟩ = some (.int .u64 r.e) := hW 1
        have b2 : (wr.alloc (.cells #[.int .u64 r.s, .int .u64 r.e, .int .i64 r.p] 112)).cell? ⟨wr.heap.size, 2, none⟩ = some (.int .i64 r.p) := hW 2
        have hrow2 := hrow.bl (Bl.new wr (.cells #[.int .u64 r.s, .int .u64 r.e, .int .i64 r.p] 112))
        have hmore2 := HJ.out.more.bl (Bl.new wr (.cells #[.int .u64 r.s, .int .u64 r.e, .int .i64 r.p] 112))
        have hbb : base ≤ wr.heap.size := Nat.le_trans HBASE.out HJ.out.below.size
        have hbel2 := HJ.out.below.alloc hbb (.cells #[.int .u64 r.s, .int .u64 r.e, .int .i64 r.p] 112)
        have hbw : base ≤ (wr.alloc (.cells #[.int .u64 r.s, .int .u64 r.e, .int .i64 r.p] 112)).heap.size := by simp; omega
        clear hW hbb hrow
        have HROW2 := Lib.hid hrow2; clear hrow2
        have HMORE2 := Lib.hid hmore2; clear hmore2
        have HBEL2 := Lib.hid hbel2; clear hbel2
        have HBW := Lib.hid hbw; clear hbw
        have hq : (B ++ [q])[B.length]? = some q := by simp
        obtain ⟨g0, cap0, _, hv0, hbg0, _, _, _⟩ := HROW2.out.form (by simp)
        simp only [List.length_append, List.length_singleton] at hv0
        subst hv0
        obtain ⟨d0, d1, d2⟩ := row_cells HROW2.out B.length q hq
        have hBl : B.length ≤ 20000 := by have := HJL.out; simp at this; omega
        have HE := Lib.hid (row_end HROW2.out r.e)
        clear hq
        obtain ⟨j, hj⟩ : ∃ j, j = B.length := ⟨_, rfl⟩
        rw [← hj] at d0 d1 d2 hBl HE HROW2 HAP HJ ⊢
        have HJJ := Lib.hid hj; clear hj
        have fz := HROW2.out.free (j * 3 + 1)
        have hjI : (j : Int) ≤ 20000 := by omega
        by_cases e1 : q.e = r.s
        · have t1 : (q.e == r.s) = true := by simp [e1]
          by_cases e2 : q.p = r.p
          · have t2 : (q.p == r.p) = true := by simp [e2]
            have HJY := Lib.hid (joinOne_yes B q r e1 e2)
            clear e1 e2
            go_wp2_with fail
            generalize wr.alloc (.cells #[.int .u64 r.s, .int .u64 r.e, .int .i64 r.p] 112) = W at *
            go_quiet (fail)
            have hrowE := row_end (HROW2.out.bl ((Bl.refl W).drewN nq)) r.e
            rw [← HJJ.out] at hrowE
            have hj2 : JR w base L M bM (.slice (some ⟨g, 0, none⟩) n cap) (k + 1) (.slice (some ⟨g0, 0, none⟩) (j + 1) cap0) ((W.drewN nq).setCell ⟨g0, j * 3 + 1, none⟩ (.int .u64 r.e)) := ⟨by rw [HS.out, HJY.out]; exact hrowE, (HMORE2.out.bl ((Bl.refl W).drewN nq)).kept fun g' hg' => Below.heap_setCell _ _ _ _ (fun e => by
              have e2 : g = g' := by simpa [Value.ownBlock] using hg'
              exact HAP.out g rfl (by rw [e2, e]; rfl)), fun g' hg' => HAP.out g' hg', (HBEL2.out.trans (((Bl.refl W).drewN nq).mono HBW.out)).setCell hbg0 _⟩
            have HJ2 := Lib.hid hj2; clear hj2 hrowE
            go_wp2_with fail
            refine ⟨⟨k + 1, by omega, by go_num, HJ2.out⟩, ?_⟩
            simp only [intOf]; omega
          · have t2 : (q.p == r.p) = false := by simp [e2]
            have HJN := Lib.hid (joinOne_no B q r (fun h => e2 h.2))
            clear e1 e2
            go_wp2_with fail
            generalize wr.alloc (.cells #[.int .u64 r.s, .int .u64 r.e, .int .i64 r.p] 112) = W at *
            go_quiet (fail)
            have hrowD : Row ((W.drewN nq).alloc (.cells #[.int .u64 r.s, .int .u64 r.e, .int .i64 r.p] 112)) base (.slice (some ⟨g0, 0, none⟩) (j + 1) cap0) (B ++ [q]) := (HROW2.out.bl ((Bl.refl W).drewN nq)).bl (Bl.new _ _)
            have hbel : Below base w ((W.drewN nq).alloc (.cells #[.int .u64 r.s, .int .u64 r.e, .int .i64 r.p] 112)) := (HBEL2.out.trans (((Bl.refl W).drewN nq).mono HBW.out)).alloc HBW.out _
            obtain ⟨v', W', hrun, hrow3, hgr, hown⟩ := row_push hrowD ⟨r.s, r.e, r.p⟩ W.heap.size 75 (heap_alloc_new (W.drewN nq) _) (by have := HJL.out; omega) (Nat.le_trans HBW.out (by simp))
            have hmore : Row W' bM (.slice (some ⟨g, 0, none⟩) n cap) M := (HMORE2.out.bl (((Bl.refl W).drewN nq).alloc (.cells #[.int .u64 r.s, .int .u64 r.e, .int .i64 r.p] 112))).kept fun g' hg' => by
              have e : g = g' := by simpa [Value.ownBlock] using hg'
              subst e
              exact hgr.block g (Nat.lt_of_lt_of_le (HMORE2.out.lt g rfl).2 (by simp)) (fun e => HAP.out g rfl e.symm)
            have hj2 : JR w base L M bM (.slice (some ⟨g, 0, none⟩) n cap) (k + 1) v' W' := ⟨by rw [HS.out, HJN.out]; exact hrow3, hmore, fun g' hg' e => by
              have e2 : g = g' := by simpa [Value.ownBlock] using hg'
              subst e2
              rcases hown with e3 | e3
              · rw [e3] at e; exact HAP.out g rfl e
              · rw [e3] at e
                have := (HMORE2.out.lt g rfl).2
                have e4 : ((W.drewN nq).alloc (.cells #[.int .u64 r.s, .int .u64 r.e, .int .i64 r.p] 112)).heap.size = g := by simpa using e
                simp at e4; omega, hbel.grown hgr (Nat.le_trans HBW.out (by simp)) (fun q' hq' => (hrowD.lt q' hq').1)⟩
            have HJ2 := Lib.hid hj2; clear hj2 hmore hrow3 hgr hown hrowD hbel
            have HRUN := Lib.hid hrun; clear hrun
            go_wp2_with (first | (at_builtin; refine wpl_append_run rfl (.tmp 45) (.tmp 47) 75 rfl _ _ _ rfl rfl HRUN.out ?_))
            refine ⟨⟨k + 1, by omega, by go_num, HJ2.out⟩, ?_⟩
            simp only [intOf]; omega
        · have t1 : (q.e == r.s) = false := by simp [e1]
          have HJN := Lib.hid (joinOne_no B q r (fun h => e1 h.1))
          clear e1
          go_wp2_with fail
          generalize wr.alloc (.cells #[.int .u64 r.s, .int .u64 r.e, .int .i64 r.p] 112) = W at *
          go_quiet (fail)
          have hrowD : Row ((W.drewN nq).alloc (.cells #[.int .u64 r.s, .int .u64 r.e, .int .i64 r.p] 112)) base (.slice (some ⟨g0, 0, none⟩) (j + 1) cap0) (B ++ [q]) := (HROW2.out.bl ((Bl.refl W).drewN nq)).bl (Bl.new _ _)
          have hbel : Below base w ((W.drewN nq).alloc (.cells #[.int .u64 r.s, .int .u64 r.e, .int .i64 r.p] 112)) := (HBEL2.out.trans (((Bl.refl W).drewN nq).mono HBW.out)).alloc HBW.out _
          obtain ⟨v', W', hrun, hrow3, hgr, hown⟩ := row_push hrowD ⟨r.s, r.e, r.p⟩ W.heap.size 75 (heap_alloc_new (W.drewN nq) _) (by have := HJL.out; omega) (Nat.le_trans HBW.out (by simp))
          have hmore : Row W' bM (.slice (some ⟨g, 0, none⟩) n cap) M := (HMORE2.out.bl (((Bl.refl W).drewN nq).alloc (.cells #[.int .u64 r.s, .int .u64 r.e, .int .i64 r.p] 112))).kept fun g' hg' => by
            have e : g = g' := by simpa [Value.ownBlock] using hg'
            subst e
            exact hgr.block g (Nat.lt_of_lt_of_le (HMORE2.out.lt g rfl).2 (by simp)) (fun e => HAP.out g rfl e.symm)
          have hj2 : JR w base L M bM (.slice (some ⟨g, 0, none⟩) n cap) (k + 1) v' W' := ⟨by rw [HS.out, HJN.out]; exact hrow3, hmore, fun g' hg' e => by
            have e2 : g = g' := by simpa [Value.ownBlock] using hg'
            subst e2
            rcases hown with e3 | e3
            · rw [e3] at e; exact HAP.out g rfl e
            · rw [e3] at e
              have := (HMORE2.out.lt g rfl).2
              have e4 : ((W.drewN nq).alloc (.cells #[.int .u64 r.s, .int .u64 r.e, .int .i64 r.p] 112)).heap.size = g := by simpa using e
              simp at e4; omega, hbel.grown hgr (Nat.le_trans HBW.out (by simp)) (fun q' hq' => (hrowD.lt q' hq').1)⟩
          have HJ2 := Lib.hid hj2; clear hj2 hmore hrow3 hgr hown hrowD hbel
          have HRUN := Lib.hid hrun; clear hrun
          go_wp2_with (first | (at_builtin; refine wpl_append_run rfl (.tmp 45) (.tmp 47) 75 rfl _ _ _ rfl rfl HRUN.out ?_))
          refine ⟨⟨k + 1, by omega, by go_num, HJ2.out⟩, ?_⟩
          simp only [intOf]; omega
    · obtain rfl : k = n := by omega
      have hfin := HJ.out.row
      rw [HN.out, List.take_length] at hfin
      have HF := Lib.hid hfin; clear hfin
      go_wp2_with fail
      go_ret
      exact ⟨_, rfl, HF.out, HJ.out.below⟩
end Go.Proofs.Ytpalhkfipnbcnaa
