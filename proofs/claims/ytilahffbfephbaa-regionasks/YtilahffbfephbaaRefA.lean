/-
  Pages in memory: a space; New, without, Regions, Span, SameRegions.
-/
import Derived.Test.YtilahffbfephbaaRefM
set_option linter.unusedVariables false
set_option linter.unusedSimpArgs false
namespace Go.Proofs.Ytilahffbfephbaa
open Go.RowKit
set_option maxRecDepth 100000
def pgC (x : Pg) : List Value := [.int .u64 x.no, .int .i64 x.p, .slice (some ⟨x.b, 0, none⟩) 4096 4096]
abbrev PRow := RowG (α := Pg) 70 pgC
theorem pgC_len (r : Pg) : (pgC r).length = 3 := rfl
theorem pgC_one (r : Pg) (u : Value) (h : u ∈ pgC r) : u.oneCell' = true := by
  simp only [pgC, List.mem_cons, List.not_mem_nil, or_false] at h
  rcases h with rfl | rfl | rfl <;> rfl
theorem prow_cells {w : World} {base g cap n : Nat} {L : List Pg} (h : PRow w base (.slice (some ⟨g, 0, none⟩) n cap) L) (k : Nat) (r : Pg) (hk : L[k]? = some r) :
    w.cell? ⟨g, k * 3, none⟩ = some (.int .u64 r.no) ∧ w.cell? ⟨g, k * 3 + 1, none⟩ = some (.int .i64 r.p) ∧ w.cell? ⟨g, k * 3 + 2, none⟩ = some (.slice (some ⟨r.b, 0, none⟩) 4096 4096) :=
  ⟨by simpa [pgC] using h.cell pgC_len k 0 r hk (by omega), by simpa [pgC] using h.cell pgC_len k 1 r hk (by omega), by simpa [pgC] using h.cell pgC_len k 2 r hk (by omega)⟩
/-- Pages behind a row of the call's own, whatever slice they stand in. -/
theorem prow_append {W : World} {base : Nat} {v : Value} {L : List Pg} (h : PRow W base v L) (ty : TypeId) (A : Option Addr) (M : List Pg) (m cap : Nat) (hm : m = M.length) (hA : A = none → M = [] ∧ cap = 0) (hcell : ∀ ad, A = some ad → ∀ j u, (flat pgC M)[j]? = some u → W.cell? (ad.add j) = some u)
    (hl : L.length + M.length ≤ 1000000) (hbase : base ≤ W.heap.size) :
    ∃ v' W', (Builtin.append_ #[41, 41] ty #[v, .slice A m cap]).run Try.prog W = .ok v' W' ∧ PRow W' base v' (L ++ M) ∧ W.grownBy W' v.ownBlock ∧ (v'.ownBlock = v.ownBlock ∨ v'.ownBlock = some W.heap.size) := by
  obtain ⟨i0, hi0, hz0, hz1, hz2⟩ := info_parts info70
  subst hm
  rcases A with _ | ad
  · obtain ⟨rfl, rfl⟩ := hA rfl
    exact ⟨v, W, run_append_owned_none (P := Try.prog) (w := W) base 41 ty 70 i0 3 Try.underlying41 hi0 v L.length (flat pgC L) h.1, by simpa using h, World.grownBy.refl W _, .inl rfl⟩
  · obtain ⟨v', w', h1, h2, h3, h4, h5⟩ := run_append_own_at (P := Try.prog) W base 41 ty 70 i0 _ 3 40 Try.underlying41 hi0 hz0 hz1 hz2 rfl (by omega) v L.length (flat pgC L) h.1 ad M.length cap (flat pgC M) (flat_length pgC_len M) (hcell ad rfl) (fun u hu => by
        simp only [flat, List.mem_flatMap] at hu
        obtain ⟨x, _, hx⟩ := hu
        exact pgC_one x u hx) (by simp only [maxLen]; omega) (by omega) hbase
    refine ⟨v', w', h1, ⟨?_, fun e => ?_⟩, h3, h5⟩
    · rw [List.length_append, flat_append]; exact h2
    · obtain ⟨e1, e2⟩ := List.append_eq_nil_iff.1 e
      exact h4.2 ⟨h.2 e1, by rw [e2]; rfl⟩
theorem prow_push {W : World} {base : Nat} {v : Value} {L : List Pg} (h : PRow W base v L) (q : Pg) (g : Nat) (ty : TypeId) (hg : W.heap[g]? = some (.cells #[.int .u64 q.no, .int .i64 q.p, .slice (some ⟨q.b, 0, none⟩) 4096 4096] 70 (0, 0))) (hl : L.length ≤ 100000) (hbase : base ≤ W.heap.size) :
    ∃ v' W', (Builtin.append_ #[41, 41] ty #[v, .slice (some ⟨g, 0, none⟩) 1 1]).run Try.prog W = .ok v' W' ∧ PRow W' base v' (L ++ [q]) ∧ W.grownBy W' v.ownBlock ∧ (v'.ownBlock = v.ownBlock ∨ v'.ownBlock = some W.heap.size) := by
  refine prow_append h ty (some ⟨g, 0, none⟩) [q] 1 1 rfl (fun e => by cases e) (fun ad had j u hj => ?_) (by simp; omega) hbase
  cases had
  have e1 : (⟨g, 0, none⟩ : Addr).add j = ⟨g, j, none⟩ := by unfold Addr.add; split <;> simp_all
  rw [e1, cell_of_row W g j _ 70 (0, 0) hg]
  simpa [flat, pgC] using hj
/-- A space: its block, its row. -/
def SpaceAt (w : World) (b : Nat) (P : List Pg) : Prop := ∃ v, w.heap[b]? = some (.cells #[v, .int .i64 100, .int .u64 0, .int .u64 0] 43 (0, 0)) ∧ PRow w 0 v P
theorem SpaceAt.bl {w w' : World} {b : Nat} {L : List Pg} (h : SpaceAt w b L) (k : Bl w w') : SpaceAt w' b L := by
  obtain ⟨v, h1, h2⟩ := h
  exact ⟨v, k.at_ h1, h2.bl k⟩
theorem SpaceAt.lt {w : World} {b : Nat} {L : List Pg} (h : SpaceAt w b L) : b < w.heap.size := by
  obtain ⟨v, h1, h2⟩ := h; exact lt_at h1
theorem SpaceAt.fr {S : Nat → Prop} {w w' : World} {b : Nat} {L : List Pg} (h : SpaceAt w b L) (f : Fr S w w') (hb : ¬ S b) (hS : ∀ g cur, S g → w.heap[g]? = some (.cells cur 70 (0, 0)) → False) : SpaceAt w' b L := by
  obtain ⟨v, h1, h2⟩ := h
  exact ⟨v, f.at_ h1 hb, h2.fr f hS⟩
theorem SpaceAt.set {w : World} {b : Nat} {L L' : List Pg} {v : Value} (h : SpaceAt w b L) {base : Nat} (hr : PRow w base v L') : SpaceAt (w.setCell ⟨b, 0, none⟩ v) b L' := by
  obtain ⟨v0, h1, h2⟩ := h
  refine ⟨v, by simpa using heap_setCell_same w b 0 _ 43 v h1, (hr.base_ (b2 := 0) (fun g hg => Nat.zero_le _)).kept fun g hg => Below.heap_setCell _ _ _ _ (fun e => ?_)⟩
  obtain ⟨cur, hcur⟩ := hr.type hg
  rw [show g = b from e, h1] at hcur
  cases hcur
/-- A list is kept when a space turns, and a space when a list does. -/
theorem list_space {w w' : World} {b sb : Nat} {L : List Rg} {P : List Pg} (h : ListAt w b L) (k : SpaceAt w sb P) (f : Fr (only sb) w w') : ListAt w' b L := by
  obtain ⟨vs, k1, k2⟩ := k
  refine h.fr f (fun e => ?_) (fun g cur hg hc => ?_)
  · obtain ⟨v, h1, h2⟩ := h
    rw [show b = sb from e, k1] at h1; cases h1
  · rw [show g = sb from hg, k1] at hc; cases hc
theorem space_list {w w' : World} {b sb : Nat} {L : List Rg} {P : List Pg} (h : ListAt w b L) (k : SpaceAt w sb P) (f : Fr (only b) w w') : SpaceAt w' sb P := by
  obtain ⟨v, h1, h2⟩ := h
  refine k.fr f (fun e => ?_) (fun g cur hg hc => ?_)
  · obtain ⟨vs, k1, k2⟩ := k
    rw [show sb = b from e, h1] at k1; cases k1
  · rw [show g = b from hg, h1] at hc; cases hc
theorem SpaceAt.cells {w : World} {b : Nat} {P : List Pg} (h : SpaceAt w b P) : ∃ A cap, w.cell? ⟨b, 0, none⟩ = some (.slice A P.length cap) ∧ w.cell? ⟨b, 1, none⟩ = some (.int .i64 100) ∧ PRow w 0 (.slice A P.length cap) P := by
  obtain ⟨v, h1, h2⟩ := h
  obtain ⟨A, cap, rfl⟩ := h2.shape
  exact ⟨A, cap, by rw [cell_of_row w b 0 _ 43 (0, 0) h1]; rfl, by rw [cell_of_row w b 1 _ 43 (0, 0) h1]; rfl, h2⟩
def NewSPost (w : World) (e : Ending) (w' : World) : Prop := ∃ b, e = .returned (addr0 b) ∧ w.heap.size ≤ b ∧ SpaceAt w' b [] ∧ Bl w w'
theorem newS_any (w : World) : Calls Try.prog 10 #[.int .i64 100] w (NewSPost w) := by
  go_enter Try.func10, Try.ntmps10
  go_wp2
  go_ret
  exact ⟨w.heap.size, rfl, Nat.le_refl _, ⟨_, heap_alloc_new w _, RowG.nil⟩, Bl.new _ _⟩
def PRowPost (w : World) (L : List Pg) (e : Ending) (w' : World) : Prop := ∃ v, e = .returned v ∧ PRow w' w.heap.size v L ∧ Bl w w'
theorem outP_take (P : List Pg) (s e : Int) (k : Nat) (x : Pg) (hk : P[k]? = some x) : outP (P.take (k + 1)) s e = outP (P.take k) s e ++ (if x.no * 4096 < s ∨ e ≤ x.no * 4096 then [x] else []) := by
  rw [List.take_add_one, hk]
  simp only [outP, List.filter_append]
  congr 1
  by_cases h : x.no * 4096 < s ∨ e ≤ x.no * 4096
  · rw [if_pos h]; simp [h]
  · rw [if_neg h]
    have h1 : ¬ x.no * 4096 < s := fun h' => h (.inl h')
    have h2 : ¬ e ≤ x.no * 4096 := fun h' => h (.inr h')
    simp [h1, h2]
theorem outP_len (P : List Pg) (s e : Int) : (outP P s e).length ≤ P.length := List.length_filter_le _ _

set_option maxHeartbeats 4000000 in
theorem without_any {w : World} {b : Nat} {P : List Pg} {N : Nat} (h : SpaceAt w b P) (hp : Pgs N P) (hN : N ≤ 1000) (s t : Int) :
    Calls Try.prog 38 #[addr0 b, .int .u64 s, .int .u64 t] w (PRowPost w (outP P s t)) := by
  have hl := hp.len
  have HH := Lib.hid h; clear h
  have HPG := Lib.hid hp; clear hp
  have hlI : (P.length : Int) ≤ 1000 := by omega
  obtain ⟨n, hn⟩ : ∃ n, n = P.length := ⟨_, rfl⟩
  rw [← hn] at hlI
  have HNN := Lib.hid hN; clear hN
  have HN := Lib.hid hn; clear hn
  have HL := Lib.hid hl; clear hl
  unfold addr0
  go_enter Try.func38, Try.ntmps38
  go_wp2_with fail
  go_loopw [7, 8, 9] (fun v7 i _ wr => ∃ k : Nat, k ≤ n ∧ i = .int .i64 k ∧ PRow wr w.heap.size v7 (outP (P.take k) s t) ∧ Bl w wr) (fun _ i _ _ => n - (intOf i).toNat)
  case atStart => exact ⟨0, by omega, rfl, RowG.nil, Bl.refl _⟩
  case round =>
    obtain ⟨k, hk, rfl, hrow, hbl⟩ := hrel
    have HROW := Lib.hid hrow; clear hrow
    obtain ⟨A, cap, e0, e1, hpr⟩ := (HH.out.bl hbl).cells
    rw [← HN.out] at e0 hpr
    have HPR := Lib.hid hpr; clear hpr e1
    have HBL := Lib.hid hbl; clear hbl
    by_cases hlt : k < n
    · have hltL : k < P.length := by have := HN.out; omega
      obtain ⟨x, hx⟩ : ∃ x, P[k]? = some x := ⟨P[k], List.getElem?_eq_getElem hltL⟩
      have hne : P ≠ [] := by intro e; rw [e] at hltL; simp at hltL
      obtain ⟨g, cap', cur, hA, _, hnc, hg, _⟩ := HPR.out.form hne
      have hA' : A = some ⟨g, 0, none⟩ := by injection hA
      subst hA'
      obtain ⟨c0, c1, c2⟩ := prow_cells HPR.out k x hx
      clear hA hnc hg hne hltL
      obtain ⟨x1, x2⟩ := HPG.out.2 x (List.mem_of_getElem? hx)
      have hN2 := HNN.out
      have x3 : x.no < 1000 := by omega
      clear hN2 x2
      have hstep := outP_take P s t k x hx
      have hwl : (outP (P.take k) s t).length ≤ 1000 := by
        have h1 := outP_len (P.take k) s t
        have h2 := HL.out
        have h3 := HNN.out
        rw [List.length_take] at h1; omega
      have HS := Lib.hid hstep; clear hstep hx
      have HWL := Lib.hid hwl; clear hwl
      have hkI : (k : Int) < (n : Int) := by omega
      by_cases hc : x.no * 4096 < s ∨ t ≤ x.no * 4096
      · have hrow2 := HROW.out.bl (Bl.new _ (.cells #[.int .u64 x.no, .int .i64 x.p, .slice (some ⟨x.b, 0, none⟩) 4096 4096] 70))
        have hb2 : Bl w (wr.alloc (.cells #[.int .u64 x.no, .int .i64 x.p, .slice (some ⟨x.b, 0, none⟩) 4096 4096] 70)) := HBL.out.alloc _
        obtain ⟨v', W', hrun, hrow3, hgr, _⟩ := prow_push hrow2 x wr.heap.size 41 (heap_alloc_new wr _) (by have := HWL.out; omega) hb2.size
        have hbl3 : Bl w W' := Below.grown hb2 hgr hb2.size (fun q hq => (hrow2.lt q hq).1)
        have HROW3 := Lib.hid hrow3; clear hrow3 hrow2 hb2 hgr
        have HBL3 := Lib.hid hbl3; clear hbl3
        have HRUN := Lib.hid hrun; clear hrun
        by_cases hc1 : x.no * 4096 < s
        · go_wp2_with (first | (at_builtin; refine wpl_append_run rfl (.tmp 36) (.tmp 44) 41 rfl _ _ _ rfl rfl HRUN.out ?_))
          refine ⟨⟨k + 1, by omega, by go_num, by rw [HS.out, if_pos hc]; exact HROW3.out, HBL3.out⟩, ?_⟩
          simp only [intOf]; omega
        · have hc2 : t ≤ x.no * 4096 := by omega
          have hc3 : s ≤ x.no * 4096 := by omega
          go_wp2_with (first | (at_builtin; refine wpl_append_run rfl (.tmp 36) (.tmp 44) 41 rfl _ _ _ rfl rfl HRUN.out ?_))
          refine ⟨⟨k + 1, by omega, by go_num, by rw [HS.out, if_pos hc]; exact HROW3.out, HBL3.out⟩, ?_⟩
          simp only [intOf]; omega
      · have hc2 : x.no * 4096 < t := by omega
        have hc3 : s ≤ x.no * 4096 := by omega
        go_wp2_with fail
        refine ⟨⟨k + 1, by omega, by go_num, by rw [HS.out, if_neg hc]; simpa using HROW.out, HBL.out⟩, ?_⟩
        simp only [intOf]; omega
    · obtain rfl : k = n := by omega
      have hfin := HROW.out
      rw [HN.out, List.take_length] at hfin
      have HF := Lib.hid hfin; clear hfin
      go_wp2_with fail
      go_ret
      exact ⟨_, rfl, HF.out, HBL.out⟩
theorem refSpan_yes (s e : Int) (w : World) (h0 : 0 ≤ s) (h : Span s e) : Calls Try.prog 13 #[.int .u64 s, .int .u64 e] w fun x w' => x = .returned (.bool true) ∧ w = w' := by
  obtain ⟨h1, h2, h3, h4⟩ := h
  have t1 : (s % 4096 == 0) = true := by simp [h1]
  have t2 : (e % 4096 == 0) = true := by simp [h2]
  have h5 : 0 ≤ e := by omega
  have h6 : s ≤ 274877906944 := by omega
  clear h1 h2
  go_enter Try.func13, Try.ntmps13
  go_wp2
  go_ret
  exact ⟨rfl, rfl⟩
theorem refSpan_no (s e : Int) (w : World) (h0 : 0 ≤ s) (h1 : s ≤ 18446744073709551615) (h2 : 0 ≤ e) (h3 : e ≤ 18446744073709551615) (h : ¬ Span s e) : Calls Try.prog 13 #[.int .u64 s, .int .u64 e] w fun x w' => x = .returned (.bool false) ∧ w = w' := by
  by_cases a1 : s % 4096 = 0
  · have t1 : (s % 4096 == 0) = true := by simp [a1]
    by_cases a2 : e % 4096 = 0
    · have t2 : (e % 4096 == 0) = true := by simp [a2]
      by_cases a3 : s < e
      · have a4 : 274877906944 < e := by
          rcases Int.lt_or_le 274877906944 e with h4 | h4
          · exact h4
          · exact absurd ⟨a1, a2, a3, h4⟩ h
        have t3 : decide (e ≤ 274877906944) = false := by simp; omega
        clear a1 a2 h
        go_enter Try.func13, Try.ntmps13
        go_wp2
        go_ret
        exact ⟨rfl, rfl⟩
      · have a4 : e ≤ s := by omega
        clear a1 a2 h
        go_enter Try.func13, Try.ntmps13
        go_wp2
        go_ret
        exact ⟨rfl, rfl⟩
    · have t2 : (e % 4096 == 0) = false := by simp [a2]
      clear a1 a2 h
      go_enter Try.func13, Try.ntmps13
      go_wp2
      go_ret
      exact ⟨rfl, rfl⟩
  · have t1 : (s % 4096 == 0) = false := by simp [a1]
    clear a1 h
    go_enter Try.func13, Try.ntmps13
    go_wp2
    go_ret
    exact ⟨rfl, rfl⟩
set_option maxHeartbeats 2000000 in
theorem same_any {w : World} {b1 b2 : Nat} {v1 v2 : Value} {L : List Rg} (h1 : Row w b1 v1 L) (h2 : Row w b2 v2 L) (hl : L.length ≤ 1000) : Calls Try.prog 20 #[v1, v2] w (BoolPost w true) := by
  obtain ⟨A1, cap1, rfl⟩ := h1.shape
  obtain ⟨A2, cap2, rfl⟩ := h2.shape
  have H1 := Lib.hid h1; clear h1
  have H2 := Lib.hid h2; clear h2
  obtain ⟨n, hn⟩ : ∃ n, n = L.length := ⟨_, rfl⟩
  rw [← hn] at H1 H2 hl ⊢
  have HN := Lib.hid hn; clear hn
  have hlI : (n : Int) ≤ 1000 := by omega
  go_enter Try.func20, Try.ntmps20
  go_wp2_with fail
  go_loopw [5] (fun i wr => ∃ k m : Nat, k ≤ n ∧ i = .int .i64 k ∧ wr = w.drewN m) (fun i _ => n - (intOf i).toNat)
  case atStart => exact ⟨0, 0, by omega, rfl, rfl⟩
  case round =>
    obtain ⟨k, m, hk, rfl, rfl⟩ := hrel
    by_cases hlt : k < n
    · have hltL : k < L.length := by have := HN.out; omega
      obtain ⟨r, hr⟩ : ∃ r, L[k]? = some r := ⟨L[k], List.getElem?_eq_getElem hltL⟩
      have hne : L ≠ [] := by intro e; rw [e] at hltL; simp at hltL
      obtain ⟨g1, _, _, hA, _⟩ := H1.out.form hne
      have hA' : A1 = some ⟨g1, 0, none⟩ := by injection hA
      subst hA'
      obtain ⟨g2, _, _, hB, _⟩ := H2.out.form hne
      have hB' : A2 = some ⟨g2, 0, none⟩ := by injection hB
      subst hB'
      obtain ⟨c0, c1, c2⟩ := row_cells H1.out k r hr
      obtain ⟨d0, d1, d2⟩ := row_cells H2.out k r hr
      have hkI : (k : Int) < (n : Int) := by omega
      clear hA hB hne hltL hr
      go_wp2_with fail
      go_quiet (fail)
      go_wp2_with fail
      refine ⟨⟨k + 1, m + nq, by omega, by go_num, rfl⟩, ?_⟩
      simp only [intOf]; omega
    · obtain rfl : k = n := by omega
      go_wp2_with fail
      go_ret
      exact ⟨rfl, (Bl.refl w).drewN _⟩
end Go.Proofs.Ytilahffbfephbaa
