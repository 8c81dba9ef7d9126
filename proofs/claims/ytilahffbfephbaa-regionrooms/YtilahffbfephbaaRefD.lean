/-
  Lay: a span is mapped anew, page by page.
-/
import Derived.Test.YtilahffbfephbaaRefC
import Derived.Deep.Cut
set_option linter.unusedVariables false
set_option linter.unusedSimpArgs false
namespace Go.Proofs.Ytilahffbfephbaa
open Go.RowKit
set_option maxRecDepth 100000
/-- What a change of a span leaves: prot p there, the rest as it was. -/
def SetPost (w : World) (sb : Nat) (P : List Pg) (s t p : Int) (e : Ending) (w' : World) : Prop := e = .returned (.int .i64 0) ∧ ∃ P', SpaceAt w' sb P' ∧ Pgs 100 P' ∧ (∀ a q, OnP P' a q ↔ (s ≤ a ∧ a < t ∧ p = q) ∨ ((a < s ∨ t ≤ a) ∧ OnP P a q)) ∧ Fr (only sb) w w'
structure LR (w1 : World) (R : List Pg) (s : Int) (k : Nat) (v : Value) (wr : World) : Prop where
  row : PRow wr w1.heap.size v (R.take k)
  low : ∀ x, x ∈ R.take k → x.no * 4096 < s
  bl : Bl w1 wr
structure LN (w1 : World) (R : List Pg) (p s : Int) (k : Nat) (a : Int) (v : Value) (wr : World) : Prop where
  row : ∃ N, News p s a N ∧ PRow wr w1.heap.size v (R.take k ++ N) ∧ N.length ≤ 100
  bl : Bl w1 wr
theorem LN.push {w1 wr : World} {R : List Pg} {p s a : Int} {k : Nat} {v : Value} {Z : Array Value} (h : LN w1 R p s k a v wr) (hs : s % 4096 = 0) (ha : a < s + 409600) (hR : R.length ≤ 100) :
    ∃ v' W', (Builtin.append_ #[41, 41] 41 #[v, .slice (some ⟨wr.heap.size + 1, 0, none⟩) 1 1]).run Try.prog ((wr.alloc (.cells Z 5)).alloc (.cells #[.int .u64 (a / 4096), .int .i64 p, .slice (some ⟨wr.heap.size, 0, none⟩) 4096 4096] 70)) = .ok v' W' ∧ LN w1 R p s k (a + 4096) v' W' := by
  obtain ⟨⟨N, hN, hrow, hNl⟩, hbl⟩ := h
  have hrow2 := (hrow.bl (Bl.new _ (.cells Z 5))).bl (Bl.new _ (.cells #[.int .u64 (a / 4096), .int .i64 p, .slice (some ⟨wr.heap.size, 0, none⟩) 4096 4096] 70))
  have hb2 : Bl w1 ((wr.alloc (.cells Z 5)).alloc (.cells #[.int .u64 (a / 4096), .int .i64 p, .slice (some ⟨wr.heap.size, 0, none⟩) 4096 4096] 70)) := (hbl.alloc _).alloc _
  have h1 := hN.1
  obtain ⟨v', W', hrun, hrow3, hgr, _⟩ := prow_push hrow2 ⟨a / 4096, p, wr.heap.size⟩ (wr.heap.size + 1) 41 (by
    have := heap_alloc_new (wr.alloc (.cells Z 5)) (.cells #[.int .u64 (a / 4096), .int .i64 p, .slice (some ⟨wr.heap.size, 0, none⟩) 4096 4096] 70)
    rw [show (wr.alloc (.cells Z 5)).heap.size = wr.heap.size + 1 by simp] at this
    exact this) (by rw [List.length_append, List.length_take]; omega) hb2.size
  refine ⟨v', W', hrun, ⟨⟨N ++ [⟨a / 4096, p, wr.heap.size⟩], hN.push _ (by simp only; omega) rfl, by rw [← List.append_assoc]; exact hrow3, by rw [List.length_append]; simp; omega⟩, Below.grown hb2 hgr hb2.size (fun q hq => (hrow2.lt q hq).1)⟩⟩
set_option maxHeartbeats 3000000 in
theorem rlay_any {w : World} {sb : Nat} {P : List Pg} (h : SpaceAt w sb P) (hp : Pgs 100 P) (s t p : Int) (h0 : 0 ≤ s) (hs : Span s t) (ht : t ≤ 409600) :
    Calls Try.prog 15 #[addr0 sb, .int .u64 s, .int .u64 t, .int .i64 p] w (SetPost w sb P s t p) := by
  obtain ⟨s1, s2, s3, s4⟩ := hs
  obtain ⟨vs, hvs, hvr⟩ := id h
  have hfz : w.frozen? ⟨sb, 0, none⟩ = false := by simp [World.frozen?, hvs]
  have hcnt := out_count hp h0 s1 s2 s3 (by omega : t ≤ ((100 : Nat) : Int) * 4096)
  have cw := without_any h hp (by omega) s t
  obtain ⟨Z, hmk⟩ := made46
  have hsblt := h.lt
  have HH := Lib.hid h; clear h hvs hvr vs
  have HP := Lib.hid hp; clear hp
  have HS1 := Lib.hid s1; clear s1
  have HS2 := Lib.hid s2; clear s2
  have HCW := Lib.hid cw; clear cw
  have HCNT := Lib.hid hcnt; clear hcnt
  have hd0 : 0 ≤ (t - s) / 4096 := by omega
  have hdd : (t - s) / 4096 ≤ 100 := by omega
  have hst : s ≤ t := by omega
  have HFZ := Lib.hid hfz; clear hfz
  have HLT := Lib.hid hsblt; clear hsblt
  have HMK := Lib.hid hmk; clear hmk
  unfold addr0 at *
  go_enter Try.func15, Try.ntmps15
  go_wp2_with fail
  refine HCW.out.mono ?_
  rintro e w1 ⟨v1, rfl, r1, k1⟩
  obtain ⟨R, hR⟩ : ∃ R, R = outP P s t := ⟨_, rfl⟩
  rw [← hR] at r1 HCNT
  have HR := Lib.hid hR; clear hR
  obtain ⟨A, cap, hv1⟩ := r1.shape
  subst hv1
  obtain ⟨n, hn⟩ : ∃ n, n = R.length := ⟨_, rfl⟩
  rw [← hn] at r1 HCNT ⊢
  have HN := Lib.hid hn; clear hn
  have hcI := HCNT.out
  have hnI : (n : Int) ≤ 100 := by omega
  have hcI2 : (n : Int) + (t - s) / 4096 ≤ 100 := by omega
  clear hcI
  obtain ⟨AS, capS, e0, e1, _⟩ := (HH.out.bl k1).cells
  clear e0
  have R1 := Lib.hid r1; clear r1
  have K1 := Lib.hid k1; clear k1
  go_wp2_with fail
  clear e1
  go_loopw [10, 11] (fun v10 i wr => ∃ k : Nat, k ≤ n ∧ i = .int .i64 k ∧ LR w1 R s k v10 wr) (fun _ i _ => n - (intOf i).toNat)
  case atStart => exact ⟨0, by omega, rfl, ⟨RowG.nil, fun x hx => by simp at hx, Bl.refl _⟩⟩
  case round =>
    obtain ⟨k, hk, rfl, hlr⟩ := hrel
    have HLR := Lib.hid hlr; clear hlr
    have hkI : (k : Int) ≤ (n : Int) := by omega
    by_cases hlt : k < n
    · have hltL : k < R.length := by have := HN.out; omega
      obtain ⟨x, hx⟩ : ∃ x, R[k]? = some x := ⟨R[k], List.getElem?_eq_getElem hltL⟩
      have hne : R ≠ [] := by intro e; rw [e] at hltL; simp at hltL
      obtain ⟨g, cap', cur, hA, _, hnc, hg, _⟩ := R1.out.form hne
      have hA' : A = some ⟨g, 0, none⟩ := by injection hA
      subst hA'
      obtain ⟨c0, c1, c2⟩ := prow_cells (R1.out.bl HLR.out.bl) k x hx
      clear hA hnc hg hne hltL
      have hxm : x ∈ outP P s t := by rw [← HR.out]; exact List.mem_of_getElem? hx
      obtain ⟨x1, x2⟩ := HP.out.2 x (outP_mem.1 hxm).1
      have x3 : x.no < 100 := x2
      clear hxm x2
      have hltI : (k : Int) < (n : Int) := by omega
      by_cases hc : x.no * 4096 < s
      · have hrow2 := HLR.out.row.bl (Bl.new _ (.cells #[.int .u64 x.no, .int .i64 x.p, .slice (some ⟨x.b, 0, none⟩) 4096 4096] 70))
        have hb2 : Bl w1 (wr.alloc (.cells #[.int .u64 x.no, .int .i64 x.p, .slice (some ⟨x.b, 0, none⟩) 4096 4096] 70)) := HLR.out.bl.alloc _
        obtain ⟨v', W', hrun, hrow3, hgr, _⟩ := prow_push hrow2 x wr.heap.size 41 (heap_alloc_new wr _) (by rw [List.length_take]; omega) hb2.size
        have hlr2 : LR w1 R s (k + 1) v' W' := ⟨by rw [List.take_add_one, hx]; exact hrow3, fun y hy => by
          rw [List.take_add_one, hx] at hy
          rcases List.mem_append.1 hy with hy | hy
          · exact HLR.out.low y hy
          · simp at hy; subst hy; exact hc, Below.grown hb2 hgr hb2.size (fun q hq => (hrow2.lt q hq).1)⟩
        have HLR2 := Lib.hid hlr2; clear hlr2 hrow3 hrow2 hb2 hgr hx
        have HRUN := Lib.hid hrun; clear hrun
        go_wp2_with (first | (at_builtin; refine wpl_append_run rfl (.tmp 52) (.tmp 57) 41 rfl _ _ _ rfl rfl HRUN.out ?_))
        refine ⟨⟨k + 1, by omega, by go_num, HLR2.out⟩, ?_⟩
        simp only [intOf]; omega
      · have hc2 : s ≤ x.no * 4096 := by omega
        have hsp : ∀ y, y ∈ R.drop k → t ≤ y.no * 4096 := fun y hy => by
          have h1 := split_at (by rw [HR.out]; exact outP_pgs HP.out) s k (fun z hz => by rw [hx] at hz; cases hz; exact hc2) y hy
          have h2 := (outP_mem.1 (by rw [← HR.out]; exact List.mem_of_mem_drop hy : y ∈ outP P s t)).2
          omega
        have HSP := Lib.hid hsp; clear hsp hx
        go_upto_region 11 with (fail)
        clear c0 c1 c2 hc hc2 x1 x3
        obtain ⟨V, hV⟩ : ∃ V, V = wr := ⟨_, rfl⟩
        subst hV
        have hln0 : LN w1 R p s k s _ V := ⟨⟨[], News.nil p s, by simpa using HLR.out.row, by simp⟩, HLR.out.bl⟩
        have HLN0 := Lib.hid hln0; clear hln0
        have HLOW := Lib.hid HLR.out.low; clear HLR
        go_wp2_with fail
        go_loopw [10, 12] (fun v10 v12 wr => ∃ a : Int, v12 = .int .u64 a ∧ s ≤ a ∧ a ≤ t ∧ a % 4096 = 0 ∧ LN w1 R p s k a v10 wr) (fun _ v12 _ => (t - intOf v12).toNat)
        case atStart => exact ⟨s, rfl, by omega, hst, HS1.out, HLN0.out⟩
        case round =>
          obtain ⟨a, rfl, a1, a2, a3, hln⟩ := hrel
          clear HLN0
          have HLN := Lib.hid hln; clear hln
          have HA3 := Lib.hid a3; clear a3
          by_cases hat : a < t
          · obtain ⟨v', W', hrun, hln2⟩ := HLN.out.push (Z := Z) HS1.out (by omega) (by have := HN.out; omega)
            have HLN2 := Lib.hid hln2; clear hln2
            have HRUN := Lib.hid hrun; clear hrun
            have hm := HMK.out
            go_wp2_with (first | (at_builtin; refine wpl_append_run rfl (.tmp 65) (.tmp 71) 41 rfl _ _ _ rfl rfl HRUN.out ?_))
            refine ⟨⟨a + 4096, rfl, by omega, by have := HA3.out; have := HS2.out; omega, by have := HA3.out; omega, HLN2.out⟩, ?_⟩
            simp only [intOf]; omega
          · obtain rfl : a = t := by omega
            obtain ⟨⟨N, hN, hrow, hNl⟩, hbl⟩ := HLN.out
            obtain ⟨p1, p2, p3, p4⟩ := part_cells (k := k) (R1.out.bl hbl) hk
            have hsl := fun W => slice41from (some (⟨g, 0, none⟩ : Addr)) n cap k hk p2 W
            obtain ⟨A', hA'⟩ : ∃ A', A' = (if cap = k then (some (⟨g, 0, none⟩ : Addr)) else (some (⟨g, 0, none⟩ : Addr)).map (·.add (k * 3))) := ⟨_, rfl⟩
            obtain ⟨mm, hmm⟩ : ∃ mm, mm = n - k := ⟨_, rfl⟩
            obtain ⟨cc, hcc⟩ : ∃ cc, cc = cap - k := ⟨_, rfl⟩
            rw [← hA'] at p3 p4
            rw [← hcc] at p3
            simp only [← hA', ← hmm, ← hcc] at hsl
            obtain ⟨v5, W5, hrun, hrow5, hgr, _⟩ := prow_append hrow 41 A' (R.drop k) mm cc (by rw [List.length_drop, hmm, p1]) p3 p4 (by rw [List.length_append, List.length_take, List.length_drop]; omega) hbl.size
            have hbl5 : Bl w1 W5 := Below.grown hbl hgr hbl.size (fun q hq => (hrow.lt q hq).1)
            have hpg := laid_pgs (p := p) HP.out h0 HS1.out HS2.out s3 (by omega : a ≤ ((100 : Nat) : Int) * 4096) hN k (by rw [← HR.out]; exact HLOW.out) (by rw [← HR.out]; exact HSP.out)
            rw [← HR.out] at hpg
            obtain ⟨P', hP'⟩ : ∃ P', P' = R.take k ++ N ++ R.drop k := ⟨_, rfl⟩
            rw [← hP'] at hpg hrow5
            have HSL := Lib.hid hsl; clear hsl
            have HRUN := Lib.hid hrun; clear hrun
            have HROW5 := Lib.hid hrow5; clear hrow5
            have HBL5 := Lib.hid (K1.out.trans hbl5); clear hbl5
            have HPG := Lib.hid hpg; clear hpg hP' p1 p2 p3 p4 hN hrow hNl hbl hgr hA' hmm hcc
            have hm := HSL.out
            go_upto_region 16 with (first | (at_builtin; refine wpl_append_run rfl (.tmp 73) (.tmp 76) 41 rfl _ _ _ rfl rfl HRUN.out ?_))
            clear hm
            obtain ⟨A5, cap5, hv5⟩ := HROW5.out.shape
            have hl5 := HPG.out.1.len
            have hrl5 := (regs_all HPG.out.1 (by omega)).2.2.2
            obtain ⟨n5, hn5⟩ : ∃ n5, n5 = P'.length := ⟨_, rfl⟩
            rw [← hn5] at hv5 hl5 hrl5
            subst hv5
            clear hn5
            have hn5I : (n5 : Int) ≤ 100 := by omega
            obtain ⟨rl, hrl⟩ : ∃ rl, rl = (regs P').length := ⟨_, rfl⟩
            rw [← hrl] at hrl5
            have hrlI : (rl : Int) ≤ 100 := by omega
            have HRL := Lib.hid hrl; clear hrl hrl5
            go_wp2_with fail
            refine (regions_any HROW5.out HPG.out.1 (by omega)).mono ?_
            rintro e W6 ⟨v6, rfl, r6, k6⟩
            obtain ⟨A6, cap6, hv6⟩ := r6.shape
            rw [← HRL.out] at hv6
            subst hv6
            have HBL6 := Lib.hid (HBL5.out.trans k6)
            have HROW6 := Lib.hid (HROW5.out.bl k6); clear k6 r6
            obtain ⟨AS, capS, e0, e1, _⟩ := (HH.out.bl HBL6.out).cells
            have f0 : W6.frozen? ⟨sb, 0, none⟩ = false := by rw [HBL6.out.frozen (p := ⟨sb, 0, none⟩) HLT.out]; exact HFZ.out
            go_wp2_with fail
            go_ret
            exact ⟨rfl, P', (HH.out.bl HBL6.out).set HROW6.out, HPG.out.1, HPG.out.2, (Fr.of_bl HBL6.out).trans (Fr.set (by exact rfl) _)⟩
    · have hge : n ≤ k := by omega
      have hgeI : (n : Int) ≤ (k : Int) := by omega
      have hsp : ∀ y, y ∈ R.drop k → t ≤ y.no * 4096 := fun y hy => by
        rw [List.drop_of_length_le (by rw [← HN.out]; exact hge)] at hy
        cases hy
      have HSP := Lib.hid hsp; clear hsp
      go_upto_region 11 with (fail)
      obtain ⟨V, hV⟩ : ∃ V, V = wr := ⟨_, rfl⟩
      subst hV
      have hln0 : LN w1 R p s k s _ V := ⟨⟨[], News.nil p s, by simpa using HLR.out.row, by simp⟩, HLR.out.bl⟩
      have HLN0 := Lib.hid hln0; clear hln0
      have HLOW := Lib.hid HLR.out.low; clear HLR
      go_wp2_with fail
      go_loopw [10, 12] (fun v10 v12 wr => ∃ a : Int, v12 = .int .u64 a ∧ s ≤ a ∧ a ≤ t ∧ a % 4096 = 0 ∧ LN w1 R p s k a v10 wr) (fun _ v12 _ => (t - intOf v12).toNat)
      case atStart => exact ⟨s, rfl, by omega, hst, HS1.out, HLN0.out⟩
      case round =>
        obtain ⟨a, rfl, a1, a2, a3, hln⟩ := hrel
        clear HLN0
        have HLN := Lib.hid hln; clear hln
        have HA3 := Lib.hid a3; clear a3
        by_cases hat : a < t
        · obtain ⟨v', W', hrun, hln2⟩ := HLN.out.push (Z := Z) HS1.out (by omega) (by have := HN.out; omega)
          have HLN2 := Lib.hid hln2; clear hln2
          have HRUN := Lib.hid hrun; clear hrun
          have hm := HMK.out
          go_wp2_with (first | (at_builtin; refine wpl_append_run rfl (.tmp 65) (.tmp 71) 41 rfl _ _ _ rfl rfl HRUN.out ?_))
          refine ⟨⟨a + 4096, rfl, by omega, by have := HA3.out; have := HS2.out; omega, by have := HA3.out; omega, HLN2.out⟩, ?_⟩
          simp only [intOf]; omega
        · obtain rfl : a = t := by omega
          obtain ⟨⟨N, hN, hrow, hNl⟩, hbl⟩ := HLN.out
          obtain ⟨p1, p2, p3, p4⟩ := part_cells (k := k) (R1.out.bl hbl) hk
          have hsl := fun W => slice41from A n cap k hk p2 W
          obtain ⟨A', hA'⟩ : ∃ A', A' = (if cap = k then A else A.map (·.add (k * 3))) := ⟨_, rfl⟩
          obtain ⟨mm, hmm⟩ : ∃ mm, mm = n - k := ⟨_, rfl⟩
          obtain ⟨cc, hcc⟩ : ∃ cc, cc = cap - k := ⟨_, rfl⟩
          rw [← hA'] at p3 p4
          rw [← hcc] at p3
          simp only [← hA', ← hmm, ← hcc] at hsl
          obtain ⟨v5, W5, hrun, hrow5, hgr, _⟩ := prow_append hrow 41 A' (R.drop k) mm cc (by rw [List.length_drop, hmm, p1]) p3 p4 (by rw [List.length_append, List.length_take, List.length_drop]; omega) hbl.size
          have hbl5 : Bl w1 W5 := Below.grown hbl hgr hbl.size (fun q hq => (hrow.lt q hq).1)
          have hpg := laid_pgs (p := p) HP.out h0 HS1.out HS2.out s3 (by omega : a ≤ ((100 : Nat) : Int) * 4096) hN k (by rw [← HR.out]; exact HLOW.out) (by rw [← HR.out]; exact HSP.out)
          rw [← HR.out] at hpg
          obtain ⟨P', hP'⟩ : ∃ P', P' = R.take k ++ N ++ R.drop k := ⟨_, rfl⟩
          rw [← hP'] at hpg hrow5
          have HSL := Lib.hid hsl; clear hsl
          have HRUN := Lib.hid hrun; clear hrun
          have HROW5 := Lib.hid hrow5; clear hrow5
          have HBL5 := Lib.hid (K1.out.trans hbl5); clear hbl5
          have HPG := Lib.hid hpg; clear hpg hP' p1 p2 p3 p4 hN hrow hNl hbl hgr hA' hmm hcc
          have hm := HSL.out
          go_upto_region 16 with (first | (at_builtin; refine wpl_append_run rfl (.tmp 73) (.tmp 76) 41 rfl _ _ _ rfl rfl HRUN.out ?_))
          clear hm
          obtain ⟨A5, cap5, hv5⟩ := HROW5.out.shape
          have hl5 := HPG.out.1.len
          have hrl5 := (regs_all HPG.out.1 (by omega)).2.2.2
          obtain ⟨n5, hn5⟩ : ∃ n5, n5 = P'.length := ⟨_, rfl⟩
          rw [← hn5] at hv5 hl5 hrl5
          subst hv5
          clear hn5
          have hn5I : (n5 : Int) ≤ 100 := by omega
          obtain ⟨rl, hrl⟩ : ∃ rl, rl = (regs P').length := ⟨_, rfl⟩
          rw [← hrl] at hrl5
          have hrlI : (rl : Int) ≤ 100 := by omega
          have HRL := Lib.hid hrl; clear hrl hrl5
          go_wp2_with fail
          refine (regions_any HROW5.out HPG.out.1 (by omega)).mono ?_
          rintro e W6 ⟨v6, rfl, r6, k6⟩
          obtain ⟨A6, cap6, hv6⟩ := r6.shape
          rw [← HRL.out] at hv6
          subst hv6
          have HBL6 := Lib.hid (HBL5.out.trans k6)
          have HROW6 := Lib.hid (HROW5.out.bl k6); clear k6 r6
          obtain ⟨AS, capS, e0, e1, _⟩ := (HH.out.bl HBL6.out).cells
          have f0 : W6.frozen? ⟨sb, 0, none⟩ = false := by rw [HBL6.out.frozen (p := ⟨sb, 0, none⟩) HLT.out]; exact HFZ.out
          go_wp2_with fail
          go_ret
          exact ⟨rfl, P', (HH.out.bl HBL6.out).set HROW6.out, HPG.out.1, HPG.out.2, (Fr.of_bl HBL6.out).trans (Fr.set (by exact rfl) _)⟩
end Go.Proofs.Ytilahffbfephbaa
