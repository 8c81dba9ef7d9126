/-
  For all pages, places, sizes and prots the law RegionAsks returns true: the list tells just what the space page by page tells. No condition.
-/
import Derived.Test.YtilahffbfephbaaRows
import Derived.Test.YtilahffbfephbaaAskB
import Derived.Deep.Cut
import Derived.WalkKit
import Derived.ProofKit
import Derived.OpenShut
import Derived.ShutString
import Derived.ChangeOld
import Derived.Below
namespace Go.Proofs.Ytilahffbfephbaa.regionAsks
open Go.ChangeShapes Go.WideShapes Go.ChangeAt Go.RowKit
open Go.ChangeMaps (open_string shut_string)
set_option linter.unusedVariables false
set_option linter.unusedSimpArgs false
set_option maxRecDepth 100000

theorem own : ownKnob Try.prog.godebug = none := by kernel_rfl
theorem laidOut : laidOutB Try.prog = true := by kernel_rfl

/-- WHAT THE WALK IS TOLD OF A SLICE OF INTEGERS THAT CAME IN: it is nil; or it leads to a row of 'cap' cells, the numbers 'zs' (the first 'len' are its elements, the rest its spare room), each fitting its kind. -/
def IsRow (k : IntKind) (w : World) (a : Option Addr) (len cap : Nat) (zs : List Int) : Prop :=
  (a = none ∧ len = 0 ∧ cap = 0 ∧ zs = []) ∨
  ∃ x, a = some x ∧ len ≤ cap ∧ cap ≤ maxLen ∧ zs.length = cap ∧ (∀ i, i < zs.length → w.cell? (x.add i) = some (.int k (zs.getD i 0))) ∧ ∀ n ∈ zs, (Lit.int k n).wf = true

theorem only_one {lo hi a : Int} {L : List Rg} (h : So lo hi L) {r q : Rg} (hr : r ∈ L) (hq : q ∈ L) (h1 : r.s ≤ a) (h2 : a < r.e) (h3 : q.s ≤ a) (h4 : a < q.e) : r = q := by
  obtain ⟨i, hi, rfl⟩ := List.mem_iff_getElem.1 hr
  obtain ⟨j, hj, rfl⟩ := List.mem_iff_getElem.1 hq
  rcases Nat.lt_trichotomy i j with h5 | h5 | h5
  · have := h.get h5 (List.getElem?_eq_getElem hi) (List.getElem?_eq_getElem hj); omega
  · subst h5; rfl
  · have := h.get h5 (List.getElem?_eq_getElem hj) (List.getElem?_eq_getElem hi); omega
/-- One of the first k has it. -/
def Seen (L : List Rg) (a : Int) (k : Nat) : Prop := ∃ j r, j < k ∧ L[j]? = some r ∧ r.s ≤ a ∧ a < r.e

/-! ### The walk: the Go text returns true -/
set_option maxHeartbeats 8000000 in
theorem walk (a0 : Option Addr) (len0 cap0 : Nat) (z0 : List Int) (a1 : Int) (a2 : Int) (a3 : Int) (w : World) (w0 : IsRow .u8 w a0 len0 cap0 z0) (w1 : (Lit.int .u32 a1).wf = true) (w2 : (Lit.int .u32 a2).wf = true) (w3 : (Lit.int .u8 a3).wf = true) :
    Calls Try.prog 4 #[.slice a0 len0 cap0, .int .u32 a1, .int .u32 a2, .int .u8 a3] w fun e w' => e = .returned (.bool true) ∧ Below w.heap.size w w' := by
  obtain ⟨hby, hlen⟩ := isRow_byts w0
  have hp1 : 0 ≤ a1 ∧ a1 ≤ 4294967295 := by
    have h4 : (decide ((0 : Int) ≤ a1) && decide (a1 ≤ 4294967295)) = true := w1
    simpa only [Bool.and_eq_true, decide_eq_true_eq] using h4
  have hp2 : 0 ≤ a2 ∧ a2 ≤ 4294967295 := by
    have h4 : (decide ((0 : Int) ≤ a2) && decide (a2 ≤ 4294967295)) = true := w2
    simpa only [Bool.and_eq_true, decide_eq_true_eq] using h4
  have hp3 : 0 ≤ a3 ∧ a3 ≤ 255 := by
    have h4 : (decide ((0 : Int) ≤ a3) && decide (a3 ≤ 255)) = true := w3
    simpa only [Bool.and_eq_true, decide_eq_true_eq] using h4
  obtain ⟨p1, p2⟩ := hp1
  obtain ⟨p3, p4⟩ := hp2
  obtain ⟨p5, p6⟩ := hp3
  clear w0 w1 w2 w3
  have d1 : 0 ≤ a1 % 300000 := by omega
  have d2 : a1 % 300000 < 300000 := by omega
  have z1 : 0 ≤ a2 % 30000 := by omega
  have z2 : a2 % 30000 < 30000 := by omega
  have q1 : 0 ≤ a3 % 8 := by omega
  have q2 : a3 % 8 < 8 := by omega
  go_enter Try.func4, Try.ntmps4
  go_wp2_with fail
  refine (built2_any _ _ _ _ hby hlen).mono ?_
  rintro e n0 ⟨b, sb, P, rfl, hbo, hnn⟩
  have HBO0 := Lib.hid hbo; clear hbo hby hlen
  have HNN := Lib.hid hnn; clear hnn
  unfold addr0
  go_wp2_with fail
  refine (answers_any _).mono ?_
  rintro e n1 ⟨rfl, k1⟩
  have HBO1 := Lib.hid (HBO0.out.next k1); clear k1 HBO0
  go_upto_region 7 with (fail)
  generalize had : a1 % 300000 = ad at d1 d2
  generalize hsz : a2 % 30000 = sz at z1 z2
  generalize hpp : a3 % 8 = pp at q1 q2
  clear had hsz hpp
  go_wp2_with fail
  refine (at_any HBO1.out.list (regs_rs HBO1.out.pgs).nm.so ad (by have := regs_len HBO1.out.pgs; omega)).mono ?_
  rintro e n2 ⟨r, ok, rfl, hat, k2⟩
  have HBO2 := Lib.hid (HBO1.out.next (k2.alloc (.cells #[.int .u64 r.s, .int .u64 r.e, .int .i64 r.p] 51))); clear HBO1 k2
  have HAT := Lib.hid hat; clear hat
  have hbox : (n2.alloc (.cells #[.int .u64 r.s, .int .u64 r.e, .int .i64 r.p] 51)).heap[n2.heap.size]? = some (.cells #[.int .u64 r.s, .int .u64 r.e, .int .i64 r.p] 51 (0, 0)) := heap_alloc_new n2 _
  have HBOX := Lib.hid hbox; clear hbox
  obtain ⟨AS, capS, e0, _, hpr⟩ := HBO2.out.space.cells
  have HPR := Lib.hid hpr; clear hpr
  unfold rgV
  go_upto_region 8 with (fail)
  generalize n2.alloc (.cells #[.int .u64 r.s, .int .u64 r.e, .int .i64 r.p] 51) = V at *
  go_wp2_with fail
  refine (regions_any HPR.out HBO2.out.pgs (by omega)).mono ?_
  rintro e n3 ⟨v3, rfl, r3, k3⟩
  clear e0
  have HBO3 := Lib.hid (HBO2.out.next k3)
  have HBOX3 := Lib.hid (k3.at_ HBOX.out); clear k3 HBOX HBO2 HPR
  obtain ⟨A, cap, hv3⟩ := r3.shape
  subst hv3
  have hl3 := regs_len HBO3.out.pgs
  obtain ⟨n, hn⟩ : ∃ n, n = (regs P).length := ⟨_, rfl⟩
  rw [← hn] at r3 hl3 ⊢
  have HN := Lib.hid hn; clear hn
  have hnI : (n : Int) ≤ 100 := by omega
  have R3 := Lib.hid r3; clear r3
  obtain ⟨bx, hbx⟩ : ∃ bx, bx = n2.heap.size := ⟨_, rfl⟩
  rw [← hbx] at HBOX3 ⊢
  clear hbx
  go_wp2_with fail
  go_loopw [17, 18] (fun v17 v18 wr => ∃ (k : Nat) (f : Bool), k ≤ n ∧ v18 = .int .i64 k ∧ v17 = .bool f ∧ (f = true ↔ Seen (regs P) ad k) ∧ Bl n3 wr) (fun _ v18 _ => n - (intOf v18).toNat)
  case atStart => exact ⟨0, false, by omega, rfl, rfl, ⟨(fun h => by cases h), (fun ⟨j, _, h, _⟩ => absurd h (by omega))⟩, Bl.refl _⟩
  case round =>
    obtain ⟨k, f, hk, rfl, rfl, hf, hbl⟩ := hrel
    have HF := Lib.hid hf; clear hf
    have HBL := Lib.hid hbl; clear hbl
    have hkI : (k : Int) ≤ (n : Int) := by omega
    by_cases hlt : k < n
    · have hltL : k < (regs P).length := by have := HN.out; omega
      obtain ⟨x, hx⟩ : ∃ x, (regs P)[k]? = some x := ⟨(regs P)[k], List.getElem?_eq_getElem hltL⟩
      have hne : regs P ≠ [] := by intro e; rw [e] at hltL; simp at hltL
      obtain ⟨g, cap', cur, hA, _, hnc, hg, _⟩ := R3.out.form hne
      have hA' : A = some ⟨g, 0, none⟩ := by injection hA
      subst hA'
      obtain ⟨c0, c1, c2⟩ := row_cells (R3.out.bl HBL.out) k x hx
      clear hA hnc hg hne hltL
      have hltI : (k : Int) < (n : Int) := by omega
      have hxm := List.mem_of_getElem? hx
      have HX := Lib.hid hx; clear hx
      by_cases hh : x.s ≤ ad ∧ ad < x.e
      · obtain ⟨h1, h2⟩ := hh
        have hrx : r = x := by
          rcases HAT.out with ⟨_, b1, b2, b3⟩ | ⟨_, _, b1⟩
          · exact only_one (regs_rs HBO3.out.pgs).nm.so b1 hxm b2 b3 h1 h2
          · exact absurd ⟨x, hxm, h1, h2, rfl⟩ (b1 x.p)
        have hb := HBL.out.at_ HBOX3.out
        rw [hrx] at hb
        have b0 : wr.cell? ⟨bx, 0, none⟩ = some (.int .u64 x.s) := by rw [cell_of_row wr _ 0 _ 51 (0, 0) hb]; rfl
        have b1 : wr.cell? ⟨bx, 1, none⟩ = some (.int .u64 x.e) := by rw [cell_of_row wr _ 1 _ 51 (0, 0) hb]; rfl
        have b2 : wr.cell? ⟨bx, 2, none⟩ = some (.int .i64 x.p) := by rw [cell_of_row wr _ 2 _ 51 (0, 0) hb]; rfl
        have hf2 : Seen (regs P) ad (k + 1) := ⟨k, x, by omega, HX.out, h1, h2⟩
        have HF2 := Lib.hid hf2; clear hf2 hb hrx hxm
        go_wp2_with fail
        go_quiet (fail)
        go_wp2_with fail
        refine ⟨⟨k + 1, true, by omega, by go_num, rfl, ⟨fun _ => HF2.out, fun _ => rfl⟩, HBL.out.drewN _⟩, ?_⟩
        simp only [intOf]; omega
      · have hf2 : (f = true) ↔ Seen (regs P) ad (k + 1) := by
          rw [HF.out]
          constructor
          · rintro ⟨j, y, b1, b2⟩; exact ⟨j, y, by omega, b2⟩
          · rintro ⟨j, y, b1, b2, b3⟩
            by_cases hj : j = k
            · subst hj
              rw [HX.out] at b2; cases b2; exact absurd b3 hh
            · exact ⟨j, y, by omega, b2, b3⟩
        have HF2 := Lib.hid hf2; clear hf2 hxm
        by_cases h1 : x.s ≤ ad
        · have h2 : x.e ≤ ad := by omega
          clear hh
          go_wp2_with fail
          refine ⟨⟨k + 1, f, by omega, by go_num, rfl, HF2.out, HBL.out⟩, ?_⟩
          simp only [intOf]; omega
        · have h2 : ad < x.s := by omega
          clear hh
          go_wp2_with fail
          refine ⟨⟨k + 1, f, by omega, by go_num, rfl, HF2.out, HBL.out⟩, ?_⟩
          simp only [intOf]; omega
    · have hge : (n : Int) ≤ (k : Int) := by omega
      have hfo : f = ok := by
        have hs : Seen (regs P) ad k ↔ ok = true := by
          constructor
          · rintro ⟨j, y, b1, b2, b3, b4⟩
            rcases HAT.out with ⟨h, _⟩ | ⟨_, _, h⟩
            · exact h
            · exact absurd ⟨y, List.mem_of_getElem? b2, b3, b4, rfl⟩ (h y.p)
          · intro ho
            rcases HAT.out with ⟨_, b1, b2, b3⟩ | ⟨h, _⟩
            · obtain ⟨j, hj, hjr⟩ := List.mem_iff_getElem.1 b1
              exact ⟨j, r, by have := HN.out; omega, by rw [List.getElem?_eq_getElem hj, hjr], b2, b3⟩
            · rw [h] at ho; cases ho
        have := HF.out.trans hs
        cases f <;> cases ok <;> simp_all
      subst hfo
      have HBO4 := Lib.hid (HBO3.out.next HBL.out)
      clear HAT HF HBOX3 R3
      go_wp2_with fail
      refine (first_any HBO4.out.list (regs_rs HBO4.out.pgs).nm.so ad (ad + sz) pp (by have := regs_len HBO4.out.pgs; omega)).mono ?_
      rintro e n5 ⟨f5, bad, rfl, hf5, k5⟩
      have HBO5 := Lib.hid (HBO4.out.next k5); clear k5
      have HF5 := Lib.hid hf5; clear hf5
      go_wp2_with fail
      refine (rfirsts_any HBO5.out.space HBO5.out.pgs HNN.out ad (ad + sz) pp d1 (by omega) (by omega) (by omega)).mono ?_
      rintro e n6 ⟨f6, yes, rfl, hf6, k6⟩
      have HBO8 := Lib.hid (HBO5.out.next k6); clear k6
      obtain ⟨rfl, rfl⟩ := first_unique HF5.out hf6
      clear hf6 HF5
      go_upto_region 20 with (fail)
      rcases f with _ | _
      · rcases bad with _ | _
        · by_cases hsp : Span (ad / 4096 * 4096) ((ad + sz) / 4096 * 4096)
          · have HSP := Lib.hid hsp; clear hsp
            obtain ⟨v, hv⟩ : ∃ v : Bool, v = true ↔ FreeIn (regs P) (ad / 4096 * 4096) ((ad + sz) / 4096 * 4096) := by
              by_cases h : FreeIn (regs P) (ad / 4096 * 4096) ((ad + sz) / 4096 * 4096)
              · exact ⟨true, by simp [h]⟩
              · exact ⟨false, by simp [h]⟩
            have HV := Lib.hid hv; clear hv
            go_wp2_with fail
            refine (free_any HBO8.out.list (regs_rs HBO8.out.pgs).nm.so _ _ (by omega) HSP.out (by have := regs_len HBO8.out.pgs; omega) v HV.out).mono ?_
            rintro e n9 ⟨rfl, k9⟩
            have HBO9 := Lib.hid (HBO8.out.next k9); clear k9
            go_wp2_with fail
            refine (rfree_yes HBO9.out.space HBO9.out.pgs _ _ (by omega) HSP.out v HV.out).mono ?_
            rintro e n10 ⟨rfl, k10⟩
            have HBO10 := Lib.hid (HBO9.out.next k10); clear k10
            rcases v with _ | _
            · go_wp2_with fail
              go_ret
              exact ⟨rfl, HBO10.out.bl⟩
            · go_wp2_with fail
              go_ret
              exact ⟨rfl, HBO10.out.bl⟩
          · have HSP := Lib.hid hsp; clear hsp
            go_wp2_with fail
            refine (free_no b _ _ (by omega) (by omega) (by omega) (by omega) HSP.out).mono ?_
            rintro e n9 ⟨rfl, k9⟩
            have HBO9 := Lib.hid (HBO8.out.next k9); clear k9
            go_wp2_with fail
            refine (rfree_no sb _ _ (by omega) (by omega) (by omega) (by omega) HSP.out).mono ?_
            rintro e n10 ⟨rfl, k10⟩
            have HBO10 := Lib.hid (HBO9.out.next k10); clear k10
            go_wp2_with fail
            go_ret
            exact ⟨rfl, HBO10.out.bl⟩
        · by_cases hsp : Span (ad / 4096 * 4096) ((ad + sz) / 4096 * 4096)
          · have HSP := Lib.hid hsp; clear hsp
            obtain ⟨v, hv⟩ : ∃ v : Bool, v = true ↔ FreeIn (regs P) (ad / 4096 * 4096) ((ad + sz) / 4096 * 4096) := by
              by_cases h : FreeIn (regs P) (ad / 4096 * 4096) ((ad + sz) / 4096 * 4096)
              · exact ⟨true, by simp [h]⟩
              · exact ⟨false, by simp [h]⟩
            have HV := Lib.hid hv; clear hv
            go_wp2_with fail
            refine (free_any HBO8.out.list (regs_rs HBO8.out.pgs).nm.so _ _ (by omega) HSP.out (by have := regs_len HBO8.out.pgs; omega) v HV.out).mono ?_
            rintro e n9 ⟨rfl, k9⟩
            have HBO9 := Lib.hid (HBO8.out.next k9); clear k9
            go_wp2_with fail
            refine (rfree_yes HBO9.out.space HBO9.out.pgs _ _ (by omega) HSP.out v HV.out).mono ?_
            rintro e n10 ⟨rfl, k10⟩
            have HBO10 := Lib.hid (HBO9.out.next k10); clear k10
            rcases v with _ | _
            · go_wp2_with fail
              go_ret
              exact ⟨rfl, HBO10.out.bl⟩
            · go_wp2_with fail
              go_ret
              exact ⟨rfl, HBO10.out.bl⟩
          · have HSP := Lib.hid hsp; clear hsp
            go_wp2_with fail
            refine (free_no b _ _ (by omega) (by omega) (by omega) (by omega) HSP.out).mono ?_
            rintro e n9 ⟨rfl, k9⟩
            have HBO9 := Lib.hid (HBO8.out.next k9); clear k9
            go_wp2_with fail
            refine (rfree_no sb _ _ (by omega) (by omega) (by omega) (by omega) HSP.out).mono ?_
            rintro e n10 ⟨rfl, k10⟩
            have HBO10 := Lib.hid (HBO9.out.next k10); clear k10
            go_wp2_with fail
            go_ret
            exact ⟨rfl, HBO10.out.bl⟩
      · rcases bad with _ | _
        · by_cases hsp : Span (ad / 4096 * 4096) ((ad + sz) / 4096 * 4096)
          · have HSP := Lib.hid hsp; clear hsp
            obtain ⟨v, hv⟩ : ∃ v : Bool, v = true ↔ FreeIn (regs P) (ad / 4096 * 4096) ((ad + sz) / 4096 * 4096) := by
              by_cases h : FreeIn (regs P) (ad / 4096 * 4096) ((ad + sz) / 4096 * 4096)
              · exact ⟨true, by simp [h]⟩
              · exact ⟨false, by simp [h]⟩
            have HV := Lib.hid hv; clear hv
            go_wp2_with fail
            refine (free_any HBO8.out.list (regs_rs HBO8.out.pgs).nm.so _ _ (by omega) HSP.out (by have := regs_len HBO8.out.pgs; omega) v HV.out).mono ?_
            rintro e n9 ⟨rfl, k9⟩
            have HBO9 := Lib.hid (HBO8.out.next k9); clear k9
            go_wp2_with fail
            refine (rfree_yes HBO9.out.space HBO9.out.pgs _ _ (by omega) HSP.out v HV.out).mono ?_
            rintro e n10 ⟨rfl, k10⟩
            have HBO10 := Lib.hid (HBO9.out.next k10); clear k10
            rcases v with _ | _
            · go_wp2_with fail
              go_ret
              exact ⟨rfl, HBO10.out.bl⟩
            · go_wp2_with fail
              go_ret
              exact ⟨rfl, HBO10.out.bl⟩
          · have HSP := Lib.hid hsp; clear hsp
            go_wp2_with fail
            refine (free_no b _ _ (by omega) (by omega) (by omega) (by omega) HSP.out).mono ?_
            rintro e n9 ⟨rfl, k9⟩
            have HBO9 := Lib.hid (HBO8.out.next k9); clear k9
            go_wp2_with fail
            refine (rfree_no sb _ _ (by omega) (by omega) (by omega) (by omega) HSP.out).mono ?_
            rintro e n10 ⟨rfl, k10⟩
            have HBO10 := Lib.hid (HBO9.out.next k10); clear k10
            go_wp2_with fail
            go_ret
            exact ⟨rfl, HBO10.out.bl⟩
        · by_cases hsp : Span (ad / 4096 * 4096) ((ad + sz) / 4096 * 4096)
          · have HSP := Lib.hid hsp; clear hsp
            obtain ⟨v, hv⟩ : ∃ v : Bool, v = true ↔ FreeIn (regs P) (ad / 4096 * 4096) ((ad + sz) / 4096 * 4096) := by
              by_cases h : FreeIn (regs P) (ad / 4096 * 4096) ((ad + sz) / 4096 * 4096)
              · exact ⟨true, by simp [h]⟩
              · exact ⟨false, by simp [h]⟩
            have HV := Lib.hid hv; clear hv
            go_wp2_with fail
            refine (free_any HBO8.out.list (regs_rs HBO8.out.pgs).nm.so _ _ (by omega) HSP.out (by have := regs_len HBO8.out.pgs; omega) v HV.out).mono ?_
            rintro e n9 ⟨rfl, k9⟩
            have HBO9 := Lib.hid (HBO8.out.next k9); clear k9
            go_wp2_with fail
            refine (rfree_yes HBO9.out.space HBO9.out.pgs _ _ (by omega) HSP.out v HV.out).mono ?_
            rintro e n10 ⟨rfl, k10⟩
            have HBO10 := Lib.hid (HBO9.out.next k10); clear k10
            rcases v with _ | _
            · go_wp2_with fail
              go_ret
              exact ⟨rfl, HBO10.out.bl⟩
            · go_wp2_with fail
              go_ret
              exact ⟨rfl, HBO10.out.bl⟩
          · have HSP := Lib.hid hsp; clear hsp
            go_wp2_with fail
            refine (free_no b _ _ (by omega) (by omega) (by omega) (by omega) HSP.out).mono ?_
            rintro e n9 ⟨rfl, k9⟩
            have HBO9 := Lib.hid (HBO8.out.next k9); clear k9
            go_wp2_with fail
            refine (rfree_no sb _ _ (by omega) (by omega) (by omega) (by omega) HSP.out).mono ?_
            rintro e n10 ⟨rfl, k10⟩
            have HBO10 := Lib.hid (HBO9.out.next k10); clear k10
            go_wp2_with fail
            go_ret
            exact ⟨rfl, HBO10.out.bl⟩

/-! ### The row's step -/
set_option maxRecDepth 100000 in
theorem lifted (os : Os) (started : os.Started) (H : Type) (enc : TypeId × Value → H) :
    ReturnsInHanded {} Try.checked os 4 .any (Rows.regionAsksSpec.pre6 enc Try.prog Try.f4 Rows.regionAsksRow.domain false) (Rows.regionAsksSpec.post enc Try.prog Try.f4 false true false false) := by
  refine returnsInHanded_of_change (C := Try.checked) own started (by kernel_rfl) Try.func4
    (ChangeSpec.witness6 (enc := enc) (C := Try.checked) false ⟨#[], #[.slice none 0 0, .int .u32 0, .int .u32 0, .int .u8 0], []⟩ 8 (by kernel_rfl) (by kernel_rfl) (by kernel_rfl) (by kernel_rfl)) ?_
  intro W base args ds gs before hval0 hW hcnd _
  have hval : ∀ (j : Nat) t v, Try.f4.params[j]? = some t → args[j]? = some v → Value.okWide Try.prog W .any base t v := hval0
  have hW' := hW
  obtain ⟨p, q, hA0, hV, rfl, hfz, hnd⟩ := hW
  have hA : DataW.TrodAll enc Try.prog W 0 (fun _ => true) true Try.f4.params.toList args.toList ds p := hA0
  rw [Try.params4] at hA hval
  obtain ⟨v0, vs0, d0, ds0, p0, q0, hargs, rfl, rfl, h0, r0⟩ := trodAll_cons hA
  obtain ⟨v1, vs1, d1, ds1, p1, q1, rfl, rfl, rfl, h1, r1⟩ := trodAll_cons r0
  obtain ⟨v2, vs2, d2, ds2, p2, q2, rfl, rfl, rfl, h2, r2⟩ := trodAll_cons r1
  obtain ⟨v3, vs3, d3, ds3, p3, q3, rfl, rfl, rfl, h3, r3⟩ := trodAll_cons r2
  obtain ⟨rfl, rfl, rfl⟩ := trodAll_nil r3
  obtain rfl : args = #[v0, v1, v2, v3] := by cases args; simp_all
  obtain ⟨rfl, rfl⟩ := trodVars_none hV
  obtain ⟨a0, len0, cap0, rfl⟩ := okWide_slice Try.underlying46 (hval 0 46 v0 rfl rfl)
  have k0 := h0
  have lt0 : ∀ x ∈ p0, x.block < W.heap.size := by obtain ⟨m, hm⟩ := k0; exact DataW.trod_lt m _ _ _ hm
  obtain ⟨z0, w0⟩ : ∃ zs, IsRow .u8 W a0 len0 cap0 zs := by
    obtain ⟨fuel, hf⟩ := h0
    rcases open_ints Try.underlying46 Try.underlying5 (by kernel_rfl) hf with ⟨hcs, _⟩ | ⟨x, l, c, zs, hcs, _, hl, hm, hz, _, hcell, hwz⟩
    · simp [Value.cells] at hcs
      obtain ⟨rfl, rfl, rfl⟩ := hcs
      exact ⟨[], .inl ⟨rfl, rfl, rfl, rfl⟩⟩
    · simp [Value.cells] at hcs
      obtain ⟨rfl, rfl, rfl⟩ := hcs
      exact ⟨zs, .inr ⟨_, rfl, hl, hm, by simpa using hz, hcell, hwz⟩⟩
  obtain ⟨a1, rfl, rfl, rfl, w1⟩ := open_int Try.underlying47 (hval 1 47 v1 rfl rfl) h1
  obtain ⟨a2, rfl, rfl, rfl, w2⟩ := open_int Try.underlying47 (hval 2 47 v2 rfl rfl) h2
  obtain ⟨a3, rfl, rfl, rfl, w3⟩ := open_int Try.underlying5 (hval 3 5 v3 rfl rfl) h3
  clear hA0 hval0
  refine (walk a0 len0 cap0 z0 a1 a2 a3 W w0 w1 w2 w3).mono fun e W' ⟨he, bel⟩ => ?_
  subst he
  exact ⟨_, rfl, _, _, _, [], _, [], hW', trodAll_mk1 (shut_bool Try.underlying4 _), (trodAll_cons_mk (Below.trod laidOut (by kernel_rfl) (of_decide_eq_true (by kernel_rfl)) k0 bel lt0) (trodAll_cons_mk (shut_int Try.underlying47 w1) (trodAll_cons_mk (shut_int Try.underlying47 w2) (trodAll_cons_mk (shut_int Try.underlying5 w3) trodAll_mk0)))), rfl, bel.frame _, fun h => by cases h⟩

theorem over : Rows.regionAsksRow.holds Try.pinned (OpenSpec.ofChange Rows.regionAsksSpec) :=
  OpenClaim.holds_of_wide 4 Try.f4 rfl rfl rfl rfl rfl rfl rfl ⟨rfl, rfl, rfl, rfl, rfl⟩ rfl rfl rfl rfl rfl (by kernel_rfl) Try.func4 (by kernel_rfl)
    (of_decide_eq_true (by kernel_rfl)) (by unfold Func.isWrapper; first | (rw [if_pos (by decide +kernel)]; kernel_rfl) | (rw [if_neg (by decide +kernel)]; exact ⟨rfl, rfl⟩))
    (fun os started H enc _ => lifted os started H enc)

/-- The statement. -/
theorem proved : Rows.RegionAsksSaid := over
end Go.Proofs.Ytilahffbfephbaa.regionAsks

namespace Go.Proofs.Ytilahffbfephbaa
/-- The statement, proved. -/
theorem regionAsks_holds : Rows.RegionAsksSaid := regionAsks.proved
#print axioms regionAsks_holds
end Go.Proofs.Ytilahffbfephbaa
