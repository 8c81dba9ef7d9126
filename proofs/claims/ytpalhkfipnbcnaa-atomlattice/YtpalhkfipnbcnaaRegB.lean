/-
  Parts of regions: within.
-/
import Derived.Test.YtpalhkfipnbcnaaRegA
import Derived.Test.YtpalhkfipnbcnaaBytes
set_option linter.unusedVariables false
set_option linter.unusedSimpArgs false
namespace Go.Proofs.Ytpalhkfipnbcnaa
open Go.RowKit
set_option maxRecDepth 100000
theorem min_run {P : Program} (ts : Array TypeId) (t : TypeId) (k k' : IntKind) (x y : Int) (w : World) : (Builtin.min_ ts t #[.int k x, .int k' y]).run P w = .ok (.int k (if y < x then y else x)) w := by
  simp [Builtin.min_, Builtin.min2]
theorem max_run {P : Program} (ts : Array TypeId) (t : TypeId) (k k' : IntKind) (x y : Int) (w : World) : (Builtin.max_ ts t #[.int k x, .int k' y]).run P w = .ok (.int k (if x < y then y else x)) w := by
  simp [Builtin.max_, Builtin.max2]
/-- One more region behind a row of the call's own. -/
theorem row_push {W : World} {base : Nat} {v : Value} {L : List Rg} (h : Row W base v L) (q : Rg) (g : Nat) (ty : TypeId) (hg : W.heap[g]? = some (.cells #[.int .u64 q.s, .int .u64 q.e, .int .i64 q.p] 112 (0, 0))) (hl : L.length ≤ 100000) (hbase : base ≤ W.heap.size) :
    ∃ v' W', (Builtin.append_ #[75, 75] ty #[v, .slice (some ⟨g, 0, none⟩) 1 1]).run Try.prog W = .ok v' W' ∧ Row W' base v' (L ++ [q]) ∧ W.grownBy W' v.ownBlock ∧ (v'.ownBlock = v.ownBlock ∨ v'.ownBlock = some W.heap.size) := by
  obtain ⟨i0, hi0, hz0, hz1, hz2⟩ := info_parts info51
  refine row_append (t := 112) (ts := 75) Try.underlying75 hi0 hz0 hz1 hz2 rfl (by omega) rgC_len rgC_one h ty (some ⟨g, 0, none⟩) [q] 1 1 rfl (fun e => by cases e) (fun ad had j u hj => ?_) (fun _ e => by cases e) (by simp; omega) hbase
  cases had
  have e1 : (⟨g, 0, none⟩ : Addr).add j = ⟨g, j, none⟩ := by unfold Addr.add; split <;> simp_all
  rw [e1, cell_of_row W g j _ 112 (0, 0) hg]
  simpa [flat, rgC] using hj
def addr0 (b : Nat) : Value := .pointer (some ⟨b, 0, none⟩)
/-- What a call that answers a row of regions leaves. -/
def RowPost (w : World) (L : List Rg) (e : Ending) (w' : World) : Prop := ∃ v, e = .returned v ∧ Row w' w.heap.size v L ∧ Bl w w'
theorem within_take (L : List Rg) (a b : Int) (k : Nat) (r : Rg) (hk : L[k]? = some r) : within (L.take (k + 1)) a b = within (L.take k) a b ++ (clip a b r).toList := by
  rw [List.take_add_one, hk]
  simp only [within, List.filterMap_append, Option.toList]
  cases h : clip a b r <;> simp [h]
set_option maxHeartbeats 4000000 in
theorem within_any {X : Ctx} {w : World} {b : Nat} {L : List Rg} (h : ListAt X w b L) (a c : Int) (hl : L.length ≤ 1000) :
    Calls Try.prog 94 #[addr0 b, .int .u64 a, .int .u64 c] w (RowPost w (within L a c)) := by
  obtain ⟨v, hb, hr⟩ := h
  obtain ⟨A, cap, rfl⟩ := hr.shape
  have hcell : w.cell? ⟨b, 0, none⟩ = some (.slice A L.length cap) := by rw [cell_of_row w b 0 _ _ (0, 0) hb]; simp
  have hlI : (L.length : Int) ≤ 1000 := by omega
  have HR := Lib.hid hr; clear hr
  have HB := Lib.hid hb; clear hb
  obtain ⟨n, hn⟩ : ∃ n, n = L.length := ⟨_, rfl⟩
  rw [← hn] at hcell hlI HR
  have HN := Lib.hid hn; clear hn
  have HL := Lib.hid hl; clear hl
  unfold addr0
  go_enter Try.func94, Try.ntmps94
  go_wp2_with fail
  go_loopw [7, 9, 15] (fun v7 _ i wr => ∃ k : Nat, k ≤ n ∧ i = .int .i64 k ∧ Row wr w.heap.size v7 (within (L.take k) a c) ∧ Bl w wr) (fun _ _ i _ => n - (intOf i).toNat)
  case atStart => exact ⟨0, by omega, rfl, RowG.nil, Bl.refl _⟩
  case round =>
    obtain ⟨k, hk, rfl, hrow, hbl⟩ := hrel
    have HROW := Lib.hid hrow; clear hrow
    have HBL := Lib.hid hbl; clear hbl
    by_cases hlt : k < n
    · have hltL : k < L.length := by have := HN.out; omega
      obtain ⟨r, hr⟩ : ∃ r, L[k]? = some r := ⟨L[k], List.getElem?_eq_getElem hltL⟩
      have hne : L ≠ [] := by intro e; rw [e] at hltL; simp at hltL
      obtain ⟨g, cap', cur, hA, _, hnc, hg, _⟩ := HR.out.form hne
      have hA' : A = some ⟨g, 0, none⟩ := by injection hA
      subst hA'
      obtain ⟨c0, c1, c2⟩ := row_cells (HR.out.bl HBL.out) k r hr
      clear hA hnc hg hne hltL
      have HRK := Lib.hid hr; clear hr
      have hkI : (k : Int) < (n : Int) := by omega
      obtain ⟨m1, hm1⟩ : ∃ m1, m1 = max r.s a := ⟨_, rfl⟩
      obtain ⟨m2, hm2⟩ : ∃ m2, m2 = min r.e c := ⟨_, rfl⟩
      have mx : ∀ ts t W, (Builtin.max_ ts t #[.int .u64 r.s, .int .u64 a]).run Try.prog W = .ok (.int .u64 m1) W := fun ts t W => by
        rw [max_run]; congr 2; rw [hm1]; omega
      have mn : ∀ ts t W, (Builtin.min_ ts t #[.int .u64 r.e, .int .u64 c]).run Try.prog W = .ok (.int .u64 m2) W := fun ts t W => by
        rw [min_run]; congr 2; rw [hm2]; omega
      have hclip : clip a c r = if m1 < m2 then some ⟨m1, m2, r.p⟩ else none := by rw [hm1, hm2]; unfold clip; split <;> rfl
      have hstep := within_take L a c k r HRK.out
      rw [hclip] at hstep
      have hwl : (within (L.take k) a c).length ≤ 1000 := by
        have h1 := within_len (L.take k) a c
        have h2 := HL.out
        rw [List.length_take] at h1; omega
      clear hclip hm1 hm2
      have HS := Lib.hid hstep; clear hstep
      have HWL := Lib.hid hwl; clear hwl
      by_cases hc : m1 < m2
      · have hb2 : Bl w ((wr.alloc (.cells #[.int .u64 m1, .int .u64 m2, .int .i64 r.p] 112)).alloc (.cells #[.int .u64 m1, .int .u64 m2, .int .i64 r.p] 112)) := (HBL.out.alloc _).alloc _
        have hrow2 := (HROW.out.bl (Bl.new _ (.cells #[.int .u64 m1, .int .u64 m2, .int .i64 r.p] 112))).bl (Bl.new _ (.cells #[.int .u64 m1, .int .u64 m2, .int .i64 r.p] 112))
        obtain ⟨v', W', hrun, hrow3, hgr, _⟩ := row_push hrow2 ⟨m1, m2, r.p⟩ (wr.heap.size + 1) 75 (by
          have := heap_alloc_new (wr.alloc (.cells #[.int .u64 m1, .int .u64 m2, .int .i64 r.p] 112)) (.cells #[.int .u64 m1, .int .u64 m2, .int .i64 r.p] 112)
          rw [show (wr.alloc (.cells #[.int .u64 m1, .int .u64 m2, .int .i64 r.p] 112)).heap.size = wr.heap.size + 1 by simp] at this
          exact this) (by have := HWL.out; omega) hb2.size
        have hbl3 : Bl w W' := Below.grown hb2 hgr hb2.size (fun q hq => (hrow2.lt q hq).1)
        have HROW3 := Lib.hid hrow3; clear hrow3 hrow2 hb2 hgr
        have HBL3 := Lib.hid hbl3; clear hbl3
        have HRUN := Lib.hid hrun; clear hrun
        go_wp2_with (first | (at_builtin; refine wpl_append_run rfl (.tmp 34) (.tmp 36) 75 rfl _ _ _ rfl rfl HRUN.out ?_))
        refine ⟨⟨k + 1, by omega, by go_num, by rw [HS.out, if_pos hc]; exact HROW3.out, HBL3.out⟩, ?_⟩
        simp only [intOf]; omega
      · have hb2 : Bl w (wr.alloc (.cells #[.int .u64 m1, .int .u64 m2, .int .i64 r.p] 112)) := HBL.out.alloc _
        have hrow2 := HROW.out.bl (Bl.new _ (.cells #[.int .u64 m1, .int .u64 m2, .int .i64 r.p] 112))
        have HB2 := Lib.hid hb2; clear hb2
        have HROW2 := Lib.hid hrow2; clear hrow2
        go_wp2_with fail
        refine ⟨⟨k + 1, by omega, by go_num, by rw [HS.out, if_neg hc]; simpa using HROW2.out, HB2.out⟩, ?_⟩
        simp only [intOf]; omega
    · obtain rfl : k = n := by omega
      have hfin := HROW.out
      rw [HN.out, List.take_length] at hfin
      have HF := Lib.hid hfin; clear hfin
      go_wp2_with fail
      go_ret
      exact ⟨_, rfl, HF.out, HBL.out⟩
end Go.Proofs.Ytpalhkfipnbcnaa
