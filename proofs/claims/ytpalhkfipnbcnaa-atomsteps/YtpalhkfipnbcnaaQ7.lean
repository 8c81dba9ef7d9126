/-
  sort.Search over regions; seek; At; First; Free.
  At.
  First, Free, Protect.
  answers; lists of regions that the laws build.
  The greatest room below a place: plain mathematics.
-/
import Derived.Test.YtpalhkfipnbcnaaQ6
import Derived.Laws.ResultCell
set_option linter.unusedVariables false
set_option linter.unusedSimpArgs false
namespace Go.Proofs.Ytpalhkfipnbcnaa
open Go.RowKit
set_option maxRecDepth 100000
/-- What a search finds. -/
def SeekPost (w : World) (L : List Rg) (q : Rg → Bool) (e : Ending) (w' : World) : Prop := ∃ k : Nat, e = .returned (.int .i64 (k : Int)) ∧ k ≤ L.length ∧ (0 < k → ∀ r, L[k - 1]? = some r → q r = false) ∧ (∀ r, L[k]? = some r → q r = true) ∧ Bl w w'
structure SR (w : World) (L : List Rg) (q : Rg → Bool) (i j : Nat) (wr : World) : Prop where
  le : i ≤ j
  top : j ≤ L.length
  low : 0 < i → ∀ r, L[i - 1]? = some r → q r = false
  high : j < L.length → ∀ r, L[j]? = some r → q r = true
  bl : Bl w wr
set_option maxHeartbeats 4000000 in
theorem search_any {w : World} {bi bl : Nat} {L : List Rg} {q : Rg → Bool} (n : Nat) (hn : n = L.length) (hl : n ≤ 1000)
    (hc : ∀ W, Bl w W → ∀ (k : Nat) r, L[k]? = some r → Calls Try.prog 92 #[.int .i64 (k : Int), .pointer (some ⟨bi, 0, none⟩), .pointer (some ⟨bl, 0, none⟩)] W (BoolPost W (q r))) :
    Calls Try.prog 91 #[.int .i64 (n : Int), .func (.func 92) #[] #[.pointer (some ⟨bi, 0, none⟩), .pointer (some ⟨bl, 0, none⟩)]] w (SeekPost w L q) := by
  have HC := Lib.hid hc; clear hc
  have HN := Lib.hid hn; clear hn
  have hlI : (n : Int) ≤ 1000 := by omega
  go_enter Try.func91, Try.ntmps91
  go_wp2_with fail
  go_loopw [5, 6, 7] (fun v5 v6 _ wr => ∃ i j : Nat, v5 = .int .i64 i ∧ v6 = .int .i64 j ∧ SR w L q i j wr) (fun v5 v6 _ _ => (intOf v6).toNat - (intOf v5).toNat)
  case atStart => exact ⟨0, n, rfl, rfl, ⟨by omega, by rw [HN.out]; omega, fun h => absurd h (by omega), fun h => absurd h (by rw [HN.out]; omega), Bl.refl _⟩⟩
  case round =>
    obtain ⟨i, j, rfl, rfl, hsr⟩ := hrel
    have hij := hsr.le
    have hjn := hsr.top
    rw [← HN.out] at hjn
    have HSR := Lib.hid hsr; clear hsr
    have hijI : (i : Int) ≤ (j : Int) := by omega
    have hjI : (j : Int) ≤ 1000 := by omega
    have hi0 : (0 : Int) ≤ (i : Int) := by omega
    by_cases hlt : i < j
    · obtain ⟨m, hm⟩ : ∃ m : Nat, m = (i + j) / 2 := ⟨_, rfl⟩
      have hmI : ((i : Int) + (j : Int)) / 2 = (m : Int) := by omega
      have hm1 : i ≤ m := by omega
      have hm2 : m < j := by omega
      have hmL : m < L.length := by have := HN.out; omega
      have hgm : L[m]? = some L[m] := List.getElem?_eq_getElem hmL
      have cc := fun W hW => HC.out W hW m L[m] hgm
      obtain ⟨qm, hqm⟩ : ∃ qm, qm = q L[m] := ⟨_, rfl⟩
      simp only [← hqm] at cc
      have CC := Lib.hid cc; clear cc
      have HGM := Lib.hid hgm; clear hgm
      have HQM := Lib.hid hqm; clear hqm
      have HMI := Lib.hid hmI; clear hmI hm
      have hltI : (i : Int) < (j : Int) := by omega
      go_wp2_with fail
      rw [HMI.out]
      with_reducible refine (CC.out _ HSR.out.bl).mono ?_
      rintro e w1 ⟨rfl, k1⟩
      have K1 := Lib.hid (HSR.out.bl.trans k1); clear k1
      rcases qm with _ | _
      · have hsr2 : SR w L q (m + 1) j w1 := ⟨by omega, HSR.out.top, fun _ r hr => by
          rw [Nat.add_sub_cancel, HGM.out] at hr; cases hr; exact HQM.out.symm, HSR.out.high, K1.out⟩
        have HSR2 := Lib.hid hsr2; clear hsr2
        go_wp2_with fail
        refine ⟨⟨m + 1, j, by go_num, rfl, HSR2.out⟩, ?_⟩
        simp only [intOf]; omega
      · have hsr2 : SR w L q i m w1 := ⟨hm1, by have := HSR.out.top; omega, HSR.out.low, fun _ r hr => by
          rw [HGM.out] at hr; cases hr; exact HQM.out.symm, K1.out⟩
        have HSR2 := Lib.hid hsr2; clear hsr2
        go_wp2_with fail
        refine ⟨⟨i, m, rfl, rfl, HSR2.out⟩, ?_⟩
        simp only [intOf]; omega
    · obtain rfl : i = j := by omega
      have hpost : SeekPost w L q (.returned (.int .i64 (i : Int))) wr := ⟨i, rfl, HSR.out.top, HSR.out.low, fun r hr => HSR.out.high (List.getElem?_eq_some_iff.1 hr).1 r hr, HSR.out.bl⟩
      have HP := Lib.hid hpost; clear hpost
      go_wp2_with fail
      go_ret
      exact HP.out
set_option maxHeartbeats 1000000 in
theorem seek_42 {X : Ctx} {w : World} {b c : Nat} {L : List Rg} {x : Int} {q : Rg → Bool} (h : ListAt X w b L) (hx : w.cell? ⟨c, 0, none⟩ = some (.int .u64 x)) (hq : Ask 95 c x q) (hl : L.length ≤ 1000) :
    Calls Try.prog 75 #[addr0 b, asks 95 c] w (SeekPost w L q) := by
  have hmf : ∀ (fn : Fn) (first cap : Array Value) (w : World), (Instr.makeFunc fn first cap).run Try.prog w = .ok (.func fn first cap) w := fun _ _ _ _ => rfl
  have hk : Bl w ((w.alloc (.cells #[addr0 b] 107)).alloc (.cells #[asks 95 c] 118)) := (Bl.new w _).alloc _
  have hsk : Seek X ((w.alloc (.cells #[addr0 b] 107)).alloc (.cells #[asks 95 c] 118)) b (w.heap.size + 1) w.heap.size c 95 x L := by
    refine ⟨h.bl hk, ?_, ?_, hk.cell' hx⟩
    · have := heap_alloc_new (w.alloc (.cells #[addr0 b] 107)) (.cells #[asks 95 c] 118)
      rw [show (w.alloc (.cells #[addr0 b] 107)).heap.size = w.heap.size + 1 by simp] at this
      rw [cell_of_row _ _ 0 _ 118 (0, 0) this]; rfl
    · exact (Bl.new (w.alloc (.cells #[addr0 b] 107)) (.cells #[asks 95 c] 118)).cell' (by rw [cell_of_row _ _ 0 _ 107 (0, 0) (heap_alloc_new w _)]; rfl)
  obtain ⟨v, hb, hr⟩ := h
  obtain ⟨A, cap, rfl⟩ := hr.shape
  have hcell : w.cell? ⟨b, 0, none⟩ = some (.slice A L.length cap) := by rw [cell_of_row w b 0 _ _ (0, 0) hb]; simp
  have hblt := lt_at hb
  have cs := search_any (w := (w.alloc (.cells #[addr0 b] 107)).alloc (.cells #[asks 95 c] 118)) (bi := w.heap.size + 1) (bl := w.heap.size) (L := L) (q := q) L.length rfl hl (fun W hW k r hkr => seek1_42 (hsk.bl hW) hq k r hkr hl)
  have CS := Lib.hid cs; clear cs hsk hr hb hx hq
  have HK := Lib.hid hk; clear hk hl
  unfold addr0 asks at *
  go_enter Try.func75, Try.ntmps75
  go_wp2_with fail
  refine CS.out.mono ?_
  rintro e w' ⟨k, rfl, h1, h2, h3, h4⟩
  have hp : SeekPost w L q (.returned (.int .i64 (k : Int))) w' := ⟨k, rfl, h1, h2, h3, HK.out.trans h4⟩
  have HP := Lib.hid hp; clear hp h1 h2 h3 h4
  go_wp2_with fail
  go_ret
  exact HP.out
set_option maxHeartbeats 1000000 in
theorem seek_44 {X : Ctx} {w : World} {b c : Nat} {L : List Rg} {x : Int} {q : Rg → Bool} (h : ListAt X w b L) (hx : w.cell? ⟨c, 0, none⟩ = some (.int .u64 x)) (hq : Ask 76 c x q) (hl : L.length ≤ 1000) :
    Calls Try.prog 75 #[addr0 b, asks 76 c] w (SeekPost w L q) := by
  have hmf : ∀ (fn : Fn) (first cap : Array Value) (w : World), (Instr.makeFunc fn first cap).run Try.prog w = .ok (.func fn first cap) w := fun _ _ _ _ => rfl
  have hk : Bl w ((w.alloc (.cells #[addr0 b] 107)).alloc (.cells #[asks 76 c] 118)) := (Bl.new w _).alloc _
  have hsk : Seek X ((w.alloc (.cells #[addr0 b] 107)).alloc (.cells #[asks 76 c] 118)) b (w.heap.size + 1) w.heap.size c 76 x L := by
    refine ⟨h.bl hk, ?_, ?_, hk.cell' hx⟩
    · have := heap_alloc_new (w.alloc (.cells #[addr0 b] 107)) (.cells #[asks 76 c] 118)
      rw [show (w.alloc (.cells #[addr0 b] 107)).heap.size = w.heap.size + 1 by simp] at this
      rw [cell_of_row _ _ 0 _ 118 (0, 0) this]; rfl
    · exact (Bl.new (w.alloc (.cells #[addr0 b] 107)) (.cells #[asks 76 c] 118)).cell' (by rw [cell_of_row _ _ 0 _ 107 (0, 0) (heap_alloc_new w _)]; rfl)
  obtain ⟨v, hb, hr⟩ := h
  obtain ⟨A, cap, rfl⟩ := hr.shape
  have hcell : w.cell? ⟨b, 0, none⟩ = some (.slice A L.length cap) := by rw [cell_of_row w b 0 _ _ (0, 0) hb]; simp
  have hblt := lt_at hb
  have cs := search_any (w := (w.alloc (.cells #[addr0 b] 107)).alloc (.cells #[asks 76 c] 118)) (bi := w.heap.size + 1) (bl := w.heap.size) (L := L) (q := q) L.length rfl hl (fun W hW k r hkr => seek1_44 (hsk.bl hW) hq k r hkr hl)
  have CS := Lib.hid cs; clear cs hsk hr hb hx hq
  have HK := Lib.hid hk; clear hk hl
  unfold addr0 asks at *
  go_enter Try.func75, Try.ntmps75
  go_wp2_with fail
  refine CS.out.mono ?_
  rintro e w' ⟨k, rfl, h1, h2, h3, h4⟩
  have hp : SeekPost w L q (.returned (.int .i64 (k : Int))) w' := ⟨k, rfl, h1, h2, h3, HK.out.trans h4⟩
  have HP := Lib.hid hp; clear hp h1 h2 h3 h4
  go_wp2_with fail
  go_ret
  exact HP.out
set_option maxHeartbeats 1000000 in
theorem seek_47 {X : Ctx} {w : World} {b c : Nat} {L : List Rg} {x : Int} {q : Rg → Bool} (h : ListAt X w b L) (hx : w.cell? ⟨c, 0, none⟩ = some (.int .u64 x)) (hq : Ask 79 c x q) (hl : L.length ≤ 1000) :
    Calls Try.prog 75 #[addr0 b, asks 79 c] w (SeekPost w L q) := by
  have hmf : ∀ (fn : Fn) (first cap : Array Value) (w : World), (Instr.makeFunc fn first cap).run Try.prog w = .ok (.func fn first cap) w := fun _ _ _ _ => rfl
  have hk : Bl w ((w.alloc (.cells #[addr0 b] 107)).alloc (.cells #[asks 79 c] 118)) := (Bl.new w _).alloc _
  have hsk : Seek X ((w.alloc (.cells #[addr0 b] 107)).alloc (.cells #[asks 79 c] 118)) b (w.heap.size + 1) w.heap.size c 79 x L := by
    refine ⟨h.bl hk, ?_, ?_, hk.cell' hx⟩
    · have := heap_alloc_new (w.alloc (.cells #[addr0 b] 107)) (.cells #[asks 79 c] 118)
      rw [show (w.alloc (.cells #[addr0 b] 107)).heap.size = w.heap.size + 1 by simp] at this
      rw [cell_of_row _ _ 0 _ 118 (0, 0) this]; rfl
    · exact (Bl.new (w.alloc (.cells #[addr0 b] 107)) (.cells #[asks 79 c] 118)).cell' (by rw [cell_of_row _ _ 0 _ 107 (0, 0) (heap_alloc_new w _)]; rfl)
  obtain ⟨v, hb, hr⟩ := h
  obtain ⟨A, cap, rfl⟩ := hr.shape
  have hcell : w.cell? ⟨b, 0, none⟩ = some (.slice A L.length cap) := by rw [cell_of_row w b 0 _ _ (0, 0) hb]; simp
  have hblt := lt_at hb
  have cs := search_any (w := (w.alloc (.cells #[addr0 b] 107)).alloc (.cells #[asks 79 c] 118)) (bi := w.heap.size + 1) (bl := w.heap.size) (L := L) (q := q) L.length rfl hl (fun W hW k r hkr => seek1_47 (hsk.bl hW) hq k r hkr hl)
  have CS := Lib.hid cs; clear cs hsk hr hb hx hq
  have HK := Lib.hid hk; clear hk hl
  unfold addr0 asks at *
  go_enter Try.func75, Try.ntmps75
  go_wp2_with fail
  refine CS.out.mono ?_
  rintro e w' ⟨k, rfl, h1, h2, h3, h4⟩
  have hp : SeekPost w L q (.returned (.int .i64 (k : Int))) w' := ⟨k, rfl, h1, h2, h3, HK.out.trans h4⟩
  have HP := Lib.hid hp; clear hp h1 h2 h3 h4
  go_wp2_with fail
  go_ret
  exact HP.out
end Go.Proofs.Ytpalhkfipnbcnaa

set_option linter.unusedVariables false
set_option linter.unusedSimpArgs false
namespace Go.Proofs.Ytpalhkfipnbcnaa
open Go.RowKit
set_option maxRecDepth 100000
def rgV (r : Rg) : Value := .agg #[.int .u64 r.s, .int .u64 r.e, .int .i64 r.p]
/-- Two results, of which the first lies in a block. -/
theorem results_row_tmp {P : Program} {fn : Func} {p u : Tmp} {ty : TypeId} (h : fn.results = #[.cell p ty, .tmp u]) (tmps : Array Value) (w : World) (g : Nat) (t : TypeId) (cs : Array Value) (fr : Nat × Nat) (d : TypeDesc)
    (hp : tmps.getD p undef = .pointer (some ⟨g, 0, none⟩)) (hg : w.heap[g]? = some (.cells cs t fr))
    (hu : P.underlying ty = some d) (hd : (match d with | .struct _ | .array _ _ => true | _ => false) = true) (hi : (P.info? ty).map (·.size) = some cs.size) :
    (results fn tmps).run P w = .ok (.tuple #[.agg cs, tmps.getD u undef]) w := by
  rw [results_cell_tmp h, hp]
  simp [asAddr, run_loadVar_row w g t ty cs fr d hg hu hd hi, Result.andThen]
theorem set3 {w : World} {g : Nat} {t : TypeId} {a b c : Value} (x y z : Value) (h : w.heap[g]? = some (.cells #[a, b, c] t (0, 0))) :
    (((w.setCell ⟨g, 0, none⟩ x).setCell ⟨g, 1, none⟩ y).setCell ⟨g, 2, none⟩ z).heap[g]? = some (.cells #[x, y, z] t (0, 0)) := by
  have h1 := heap_setCell_same w g 0 _ t x h
  have h2 := heap_setCell_same _ g 1 _ t y h1
  have h3 := heap_setCell_same _ g 2 _ t z h2
  simpa using h3
def AtPost (w : World) (L : List Rg) (x : Int) (e : Ending) (w' : World) : Prop := ∃ r ok, e = .returned (.tuple #[rgV r, .bool ok]) ∧ ((ok = true ∧ r ∈ L ∧ r.s ≤ x ∧ x < r.e) ∨ (ok = false ∧ r = ⟨0, 0, 0⟩ ∧ ∀ p, ¬ In L x p)) ∧ Bl w w'
set_option maxHeartbeats 4000000 in
theorem at_any {X : Ctx} {w : World} {b : Nat} {L : List Rg} (h : ListAt X w b L) (hs : So 0 274877906944 L) (x : Int) (hl : L.length ≤ 1000) :
    Calls Try.prog 90 #[addr0 b, .int .u64 x] w (AtPost w L x) := by
  have hmf : ∀ (fn : Fn) (first cap : Array Value) (w : World), (Instr.makeFunc fn first cap).run Try.prog w = .ok (.func fn first cap) w := fun _ _ _ _ => rfl
  have hk : Bl w ((w.alloc (.cells #[.int .u64 x] 22)).alloc (.cells #[.int .u64 0, .int .u64 0, .int .i64 0] 112)) := (Bl.new w _).alloc _
  have hx : ((w.alloc (.cells #[.int .u64 x] 22)).alloc (.cells #[.int .u64 0, .int .u64 0, .int .i64 0] 112)).cell? ⟨w.heap.size, 0, none⟩ = some (.int .u64 x) :=
    (Bl.new (w.alloc (.cells #[.int .u64 x] 22)) _).cell' (by rw [cell_of_row _ _ 0 _ 22 (0, 0) (heap_alloc_new w _)]; rfl)
  have hz : ((w.alloc (.cells #[.int .u64 x] 22)).alloc (.cells #[.int .u64 0, .int .u64 0, .int .i64 0] 112)).heap[w.heap.size + 1]? = some (.cells #[.int .u64 0, .int .u64 0, .int .i64 0] 112 (0, 0)) := by
    have := heap_alloc_new (w.alloc (.cells #[.int .u64 x] 22)) (.cells #[.int .u64 0, .int .u64 0, .int .i64 0] 112)
    rwa [show (w.alloc (.cells #[.int .u64 x] 22)).heap.size = w.heap.size + 1 by simp] at this
  have cs := seek_42 (h.bl hk) hx (fun r W hW => is42_any r w.heap.size x W hW) hl
  have CS := Lib.hid cs; clear cs
  have HH := Lib.hid (h.bl hk); clear h
  have HK := Lib.hid hk; clear hk
  have HX := Lib.hid hx; clear hx
  have HZ := Lib.hid hz; clear hz
  have HSO := Lib.hid hs; clear hs
  unfold addr0 asks at *
  go_enter Try.func90, Try.ntmps90
  go_wp2_with fail
  refine CS.out.mono ?_
  rintro e w1 ⟨k, rfl, h1, h2, h3, h4⟩
  have hL1 := HH.out.bl h4
  have hx1 := h4.cell' HX.out
  have hz1 := h4.at_ HZ.out
  have hk1 := HK.out.trans h4
  clear CS h4 HH HX HZ HK
  have hin := fun p => in_seek (p := p) HSO.out (fun hk r hr => by have := h2 hk r hr; simpa using this) (fun r hr => by have := h3 r hr; simpa using this) h1
  obtain ⟨v, hb, hr⟩ := hL1
  obtain ⟨A, cap, rfl⟩ := hr.shape
  have hcell : w1.cell? ⟨b, 0, none⟩ = some (.slice A L.length cap) := by rw [cell_of_row w1 b 0 _ _ (0, 0) hb]; simp
  have z0 : w1.cell? ⟨w.heap.size + 1, 0, none⟩ = some (.int .u64 0) := by rw [cell_of_row w1 _ 0 _ 112 (0, 0) hz1]; rfl
  have z1 : w1.cell? ⟨w.heap.size + 1, 1, none⟩ = some (.int .u64 0) := by rw [cell_of_row w1 _ 1 _ 112 (0, 0) hz1]; rfl
  have z2 : w1.cell? ⟨w.heap.size + 1, 2, none⟩ = some (.int .i64 0) := by rw [cell_of_row w1 _ 2 _ 112 (0, 0) hz1]; rfl
  have fz : ∀ j, w1.frozen? ⟨w.heap.size + 1, j, none⟩ = false := fun j => by simp [World.frozen?, hz1]
  have f0 := fz 0
  have f1 := fz 1
  have f2 := fz 2
  clear fz
  have HZ1 := Lib.hid hz1; clear hz1
  have HK1 := Lib.hid hk1; clear hk1
  have HIN := Lib.hid hin; clear hin
  have HR := Lib.hid hr; clear hr hb
  have H3 := Lib.hid h3; clear h3 h2
  obtain ⟨n, hn⟩ : ∃ n, n = L.length := ⟨_, rfl⟩
  rw [← hn] at hcell h1 HR hl
  have HN := Lib.hid hn; clear hn
  have hnI : (n : Int) ≤ 1000 := by omega
  have hkI : (k : Int) ≤ (n : Int) := by omega
  by_cases hkn : k = n
  · have t1 : ((k : Int) == (n : Int)) = true := by simp [hkn]
    have t2 : (k == n) = true := by simp [hkn]
    clear hkn
    go_wp2_with fail
    go_quiet (fail)
    go_wp2_with fail
    have hnone : ∀ p, ¬ In L x p := fun p hp => by
      obtain ⟨r, hr, _⟩ := (HIN.out p).1 hp
      have h5 := (List.getElem?_eq_some_iff.1 hr).1
      have := HN.out
      simp at t2
      omega
    refine bodyPost_ret (results_row_tmp rfl _ _ (w.heap.size + 1) 112 _ (0, 0) _ rfl (set3 _ _ _ HZ1.out) Try.underlying112 rfl (by kernel_rfl)) rfl ?_
    exact ⟨⟨0, 0, 0⟩, false, rfl, .inr ⟨rfl, rfl, hnone⟩, (((HK1.out.drewN _).set (by simp) _).set (by simp) _).set (by simp) _⟩
  · have t1 : ((k : Int) == (n : Int)) = false := by simp; omega
    have t2 : (k == n) = false := by simp; omega
    have hlt : k < n := by omega
    have hltL : k < L.length := by have := HN.out; omega
    obtain ⟨r, hr⟩ : ∃ r, L[k]? = some r := ⟨L[k], List.getElem?_eq_getElem hltL⟩
    have hne : L ≠ [] := by intro e; rw [e] at hltL; simp at hltL
    obtain ⟨g, cap', cur, hA, _, hnc, hg, _⟩ := HR.out.form hne
    have hA' : A = some ⟨g, 0, none⟩ := by injection hA
    subst hA'
    obtain ⟨c0, c1, c2⟩ := row_cells HR.out k r hr
    clear hA hnc hg hne hltL hkn
    have hxe : x < r.e := by have := H3.out r hr; simpa using this
    have hltI : (k : Int) < (n : Int) := by omega
    have HXE := Lib.hid hxe; clear hxe
    by_cases hsx : x < r.s
    · have hnone : ∀ p, ¬ In L x p := fun p hp => by
        obtain ⟨r', hr', h5, _⟩ := (HIN.out p).1 hp
        rw [hr] at hr'; cases hr'; omega
      have HNO := Lib.hid hnone; clear hnone hr
      go_wp2_with fail
      go_quiet (fail)
      go_wp2_with fail
      refine bodyPost_ret (results_row_tmp rfl _ _ (w.heap.size + 1) 112 _ (0, 0) _ rfl (set3 _ _ _ HZ1.out) Try.underlying112 rfl (by kernel_rfl)) rfl ?_
      exact ⟨⟨0, 0, 0⟩, false, rfl, .inr ⟨rfl, rfl, HNO.out⟩, (((HK1.out.drewN _).set (by simp) _).set (by simp) _).set (by simp) _⟩
    · have HIR := Lib.hid (List.mem_of_getElem? hr); clear hr
      have hsx2 : r.s ≤ x := by omega
      go_wp2_with fail
      go_quiet (fail)
      go_wp2_with fail
      refine bodyPost_ret (results_row_tmp rfl _ _ (w.heap.size + 1) 112 _ (0, 0) _ rfl (set3 _ _ _ HZ1.out) Try.underlying112 rfl (by kernel_rfl)) rfl ?_
      exact ⟨r, true, rfl, .inl ⟨rfl, HIR.out, hsx2, HXE.out⟩, (((HK1.out.drewN _).set (by simp) _).set (by simp) _).set (by simp) _⟩
end Go.Proofs.Ytpalhkfipnbcnaa

set_option linter.unusedVariables false
set_option linter.unusedSimpArgs false
namespace Go.Proofs.Ytpalhkfipnbcnaa
open Go.RowKit
set_option maxRecDepth 100000
/-- A place is mapped with all of p. -/
def Can (L : List Rg) (p x : Int) : Prop := ∃ q, In L x q ∧ bits .and .i64 q p = p
def FirstPost (w : World) (L : List Rg) (s t p : Int) (e : Ending) (w' : World) : Prop := ∃ x ok, e = .returned (.tuple #[.int .u64 x, .bool ok]) ∧
  ((ok = true ∧ s ≤ x ∧ x < t ∧ ¬ Can L p x ∧ ∀ y, s ≤ y → y < x → Can L p y) ∨ (ok = false ∧ x = 0 ∧ ∀ y, s ≤ y → y < t → Can L p y)) ∧ Bl w w'
set_option maxHeartbeats 4000000 in
theorem first_any {X : Ctx} {w : World} {b : Nat} {L : List Rg} (h : ListAt X w b L) (hs : So 0 274877906944 L) (s t p : Int) (hl : L.length ≤ 1000) :
    Calls Try.prog 73 #[addr0 b, .int .u64 s, .int .u64 t, .int .i64 p] w (FirstPost w L s t p) := by
  have HH := Lib.hid h; clear h
  have HSO := Lib.hid hs; clear hs
  have HL := Lib.hid hl; clear hl
  unfold addr0
  go_enter Try.func73, Try.ntmps73
  go_wp2_with fail
  go_loopw [1, 10, 11] (fun v1 _ _ wr => ∃ a : Int, v1 = .int .u64 a ∧ s ≤ a ∧ (∀ y, s ≤ y → y < a → Can L p y) ∧ Bl w wr) (fun v1 _ _ _ => (t - intOf v1).toNat)
  case atStart => exact ⟨s, rfl, by omega, fun y h1 h2 => absurd h2 (by omega), Bl.refl _⟩
  case round =>
    obtain ⟨a, rfl, ha, hall, hbl⟩ := hrel
    have HALL := Lib.hid hall; clear hall
    have HBL := Lib.hid hbl; clear hbl
    by_cases hat : a < t
    · go_wp2_with fail
      refine (at_any (HH.out.bl HBL.out) HSO.out a HL.out).mono ?_
      rintro e w1 ⟨r, ok, rfl, hr, k1⟩
      have K1 := Lib.hid (HBL.out.trans k1); clear k1
      unfold rgV
      rcases hr with ⟨rfl, h1, h2, h3⟩ | ⟨rfl, rfl, h1⟩
      · have hmem : In L a r.p := ⟨r, h1, h2, h3, rfl⟩
        by_cases hc : bits .and .i64 r.p p = p
        · have t1 : (bits .and .i64 r.p p == p) = true := by simp [hc]
          have t2 : (bits .and .i64 r.p p != p) = false := by simp [hc]
          have hall2 : ∀ y, s ≤ y → y < r.e → Can L p y := fun y y1 y2 => by
            by_cases hy : y < a
            · exact HALL.out y y1 hy
            · exact ⟨r.p, ⟨r, h1, by omega, y2, rfl⟩, hc⟩
          have HALL2 := Lib.hid hall2; clear hall2 hmem h1 hc
          go_wp2_with fail
          refine ⟨⟨r.e, rfl, by omega, HALL2.out, K1.out.alloc _⟩, ?_⟩
          simp only [intOf]; omega
        · have t1 : (bits .and .i64 r.p p == p) = false := by simp [hc]
          have t2 : (bits .and .i64 r.p p != p) = true := by simp [hc]
          have hno : ¬ Can L p a := fun ⟨q, hq, hb⟩ => hc (by rw [← HSO.out.one hq hmem]; exact hb)
          have hp : FirstPost w L s t p (.returned (.tuple #[.int .u64 a, .bool true])) (w1.alloc (.cells #[.int .u64 r.s, .int .u64 r.e, .int .i64 r.p] 112)) := ⟨a, true, rfl, .inl ⟨rfl, ha, hat, hno, HALL.out⟩, K1.out.alloc _⟩
          have HP := Lib.hid hp; clear hp hno hmem h1 hc
          go_wp2_with fail
          go_ret2
          exact HP.out
      · have hno : ¬ Can L p a := fun ⟨q, hq, hb⟩ => h1 q hq
        have hp : FirstPost w L s t p (.returned (.tuple #[.int .u64 a, .bool true])) (w1.alloc (.cells #[.int .u64 0, .int .u64 0, .int .i64 0] 112)) := ⟨a, true, rfl, .inl ⟨rfl, ha, hat, hno, HALL.out⟩, K1.out.alloc _⟩
        have HP := Lib.hid hp; clear hp hno h1
        go_wp2_with fail
        go_ret2
        exact HP.out
    · have hp : FirstPost w L s t p (.returned (.tuple #[.int .u64 0, .bool false])) wr := ⟨0, false, rfl, .inr ⟨rfl, rfl, fun y y1 y2 => HALL.out y y1 (by omega)⟩, HBL.out⟩
      have HP := Lib.hid hp; clear hp
      go_wp2_with fail
      go_ret2
      exact HP.out
set_option maxHeartbeats 4000000 in
theorem free_any {X : Ctx} {w : World} {b : Nat} {L : List Rg} (h : ListAt X w b L) (hs : So 0 274877906944 L) (s t : Int) (h0 : 0 ≤ s) (hsp : Span s t) (hl : L.length ≤ 1000) (v : Bool) (hv : v = true ↔ FreeIn L s t) :
    Calls Try.prog 65 #[addr0 b, .int .u64 s, .int .u64 t] w (BoolPost w v) := by
  have hmf : ∀ (fn : Fn) (first cap : Array Value) (w : World), (Instr.makeFunc fn first cap).run Try.prog w = .ok (.func fn first cap) w := fun _ _ _ _ => rfl
  have hk : Bl w (w.alloc (.cells #[.int .u64 s] 22)) := Bl.new w _
  have hx : (w.alloc (.cells #[.int .u64 s] 22)).cell? ⟨w.heap.size, 0, none⟩ = some (.int .u64 s) := by rw [cell_of_row _ _ 0 _ 22 (0, 0) (heap_alloc_new w _)]; rfl
  have cs := seek_44 (h.bl hk) hx (fun r W hW => is44_any r w.heap.size s W hW) hl
  have ci := fun W => isSpan_yes s t W h0 hsp
  have hst : s < t := hsp.2.2.1
  have CI := Lib.hid ci; clear ci
  have CS := Lib.hid cs; clear cs
  have HH := Lib.hid (h.bl hk); clear h hsp
  have HK := Lib.hid hk; clear hk
  have HSO := Lib.hid hs; clear hs
  have HV := Lib.hid hv; clear hv
  unfold addr0 asks at *
  go_enter Try.func65, Try.ntmps65
  go_wp2_with fail
  refine (CI.out _).mono ?_
  rintro e w' ⟨rfl, rfl⟩
  go_wp2_with fail
  refine CS.out.mono ?_
  rintro e w1 ⟨k, rfl, h1, h2, h3, h4⟩
  have hL1 := HH.out.bl h4
  have hk1 := HK.out.trans h4
  clear CS h4 HH HK CI hx
  have hin := free_seek HSO.out hst (fun hk r hr => by have := h2 hk r hr; simpa using this) (fun r hr => by have := h3 r hr; simpa using this) h1
  obtain ⟨v1, hb, hr⟩ := hL1
  obtain ⟨A, cap, rfl⟩ := hr.shape
  have hcell : w1.cell? ⟨b, 0, none⟩ = some (.slice A L.length cap) := by rw [cell_of_row w1 b 0 _ _ (0, 0) hb]; simp
  have HK1 := Lib.hid hk1; clear hk1
  have HIN := Lib.hid hin; clear hin
  have HR := Lib.hid hr; clear hr hb h2 h3
  obtain ⟨n, hn⟩ : ∃ n, n = L.length := ⟨_, rfl⟩
  rw [← hn] at hcell h1 HR hl
  have HN := Lib.hid hn; clear hn
  have hnI : (n : Int) ≤ 1000 := by omega
  have hkI : (k : Int) ≤ (n : Int) := by omega
  by_cases hkn : k = n
  · have t1 : ((k : Int) == (n : Int)) = true := by simp [hkn]
    have t2 : (k == n) = true := by simp [hkn]
    have hvt : v = true := HV.out.2 (HIN.out.2 (fun r hr => by
      have h5 := (List.getElem?_eq_some_iff.1 hr).1
      have := HN.out
      omega))
    subst hvt
    clear hkn
    go_wp2_with fail
    go_ret
    exact ⟨rfl, HK1.out⟩
  · have t1 : ((k : Int) == (n : Int)) = false := by simp; omega
    have t2 : (k == n) = false := by simp; omega
    have hlt : k < n := by omega
    have hltL : k < L.length := by have := HN.out; omega
    obtain ⟨r, hr⟩ : ∃ r, L[k]? = some r := ⟨L[k], List.getElem?_eq_getElem hltL⟩
    have hne : L ≠ [] := by intro e; rw [e] at hltL; simp at hltL
    obtain ⟨g, cap', cur, hA, _, hnc, hg, _⟩ := HR.out.form hne
    have hA' : A = some ⟨g, 0, none⟩ := by injection hA
    subst hA'
    obtain ⟨c0, c1, c2⟩ := row_cells HR.out k r hr
    clear hA hnc hg hne hltL hkn
    have hltI : (k : Int) < (n : Int) := by omega
    have hvr : v = decide (t ≤ r.s) := by
      by_cases hd : t ≤ r.s
      · rw [decide_eq_true hd]
        exact HV.out.2 (HIN.out.2 (fun r' hr' => by rw [hr] at hr'; cases hr'; exact hd))
      · rw [decide_eq_false hd]
        cases hvv : v with
        | false => rfl
        | true => exact absurd (HIN.out.1 (HV.out.1 hvv) r hr) hd
    subst hvr
    clear hr HV HIN
    go_wp2_with fail
    go_ret
    exact ⟨rfl, HK1.out⟩
theorem free_no {w : World} (b : Nat) (s t : Int) (h0 : 0 ≤ s) (h1 : s ≤ 18446744073709551615) (h2 : 0 ≤ t) (h3 : t ≤ 18446744073709551615) (hsp : ¬ Span s t) :
    Calls Try.prog 65 #[addr0 b, .int .u64 s, .int .u64 t] w (BoolPost w false) := by
  have ci := fun W => isSpan_no s t W h0 h1 h2 h3 hsp
  have CI := Lib.hid ci; clear ci hsp
  unfold addr0 at *
  go_enter Try.func65, Try.ntmps65
  go_wp2_with fail
  refine (CI.out _).mono ?_
  rintro e w' ⟨rfl, rfl⟩
  go_wp2_with fail
  go_ret
  exact ⟨rfl, Bl.new _ _⟩
/-- All of a span is mapped. -/
def Mapped (L : List Rg) (s t : Int) : Prop := ∀ y, s ≤ y → y < t → ∃ q, In L y q
theorem and_zero (q : Int) : bits .and .i64 q 0 = 0 := by
  have h : bits .and .i64 q 0 = IntKind.i64.wrap ((BitVec.ofInt 64 q &&& 0#64).toNat : Int) := rfl
  rw [h, BitVec.and_zero]; rfl
theorem can_zero {L : List Rg} {y : Int} : Can L 0 y ↔ ∃ q, In L y q := by
  constructor
  · rintro ⟨q, h1, h2⟩; exact ⟨q, h1⟩
  · rintro ⟨q, h1⟩; exact ⟨q, h1, and_zero q⟩
end Go.Proofs.Ytpalhkfipnbcnaa

set_option linter.unusedVariables false
set_option linter.unusedSimpArgs false
namespace Go.Proofs.Ytpalhkfipnbcnaa
open Go.RowKit
set_option maxRecDepth 100000
theorem layL_new (s e p : Int) : layL [] s e [⟨s, e, p⟩] = [⟨s, e, p⟩] := by
  simp [layL, within, join, joinOne_nil]
theorem Fr.only_new {w w1 w2 : World} {b : Nat} (k : Bl w w1) (f : Fr (only b) w1 w2) (hb : w.heap.size ≤ b) : Bl w w2 :=
  ((Fr.of_bl (S := only b) k).trans f).bl fun j hj e => by have e : j = b := e; omega
/-- Regions: in order, whole pages, joined. -/
structure Rs (L : List Rg) : Prop where
  nm : Nm 0 274877906944 L
  al : Al L
theorem Rs.nil : Rs [] := ⟨Nm.nil _ _, Al.nil⟩
theorem Rs.lay {L : List Rg} (h : Rs L) {s e p : Int} (h0 : 0 ≤ s) (hs : Span s e) : Rs (layL L s e [⟨s, e, p⟩]) := by
  obtain ⟨a, b, c, d⟩ := hs
  obtain ⟨h1, h2, h3, h4⟩ := layL_all h.nm.so h0 c d (one_so (p := p) c)
  exact ⟨h1, h3 h.al a b (one_al a b)⟩
theorem Rs.cut {L : List Rg} (h : Rs L) {s e : Int} (h0 : 0 ≤ s) (hs : Span s e) : Rs (layL L s e []) := by
  obtain ⟨a, b, c, d⟩ := hs
  obtain ⟨h1, h2, h3, h4⟩ := layL_all h.nm.so h0 c d (So.nil s e)
  exact ⟨h1, h3 h.al a b Al.nil⟩
theorem lay_in {L : List Rg} (h : Rs L) {s e p : Int} (h0 : 0 ≤ s) (hs : Span s e) (a q : Int) : In (layL L s e [⟨s, e, p⟩]) a q ↔ (s ≤ a ∧ a < e ∧ p = q) ∨ ((a < s ∨ e ≤ a) ∧ In L a q) := by
  obtain ⟨_, _, c, d⟩ := hs
  rw [(layL_all h.nm.so h0 c d (one_so (p := p) c)).2.1, In_one]
theorem cut_in {L : List Rg} (h : Rs L) {s e : Int} (h0 : 0 ≤ s) (hs : Span s e) (a q : Int) : In (layL L s e []) a q ↔ (a < s ∨ e ≤ a) ∧ In L a q := by
  obtain ⟨_, _, c, d⟩ := hs
  rw [(layL_all h.nm.so h0 c d (So.nil s e)).2.1]
  constructor
  · rintro (h1 | h1)
    · exact absurd h1 (In_nil _ _)
    · exact h1
  · exact .inr
/-- The regions that have these places. -/
theorem Rs.eq {L M : List Rg} (h : Rs L) (k : Rs M) (e : ∀ a p, In L a p ↔ In M a p) : L = M := unique h.nm k.nm e
/-- All within n pages: no more regions than pages. -/
theorem Rs.few {L : List Rg} (h : Rs L) (n : Nat) (hn : (n : Int) * 4096 ≤ 274877906944) (hb : ∀ a p, In L a p → a < n * 4096) : L.length ≤ n := by
  have hso : So 0 ((n : Int) * 4096) L := by
    refine ⟨h.nm.so.1, fun r hr => ?_⟩
    have h1 := h.nm.2 r hr
    have h2 := hb (r.e - 1) r.p ⟨r, hr, by omega, by omega, rfl⟩
    omega
  have := len_le hso h.al (by omega)
  omega
theorem one_rs {s e p : Int} (h0 : 0 ≤ s) (hs : Span s e) : Rs [⟨s, e, p⟩] := by
  obtain ⟨a, b, c, d⟩ := hs
  exact ⟨(one_nm c).mono h0 d, one_al a b⟩
end Go.Proofs.Ytpalhkfipnbcnaa

set_option linter.unusedVariables false
set_option linter.unusedSimpArgs false
namespace Go.Proofs.Ytpalhkfipnbcnaa
/-- No room begins so that it ends behind en. -/
def NoRoom (L : List Rg) (sz bel en : Int) : Prop := ∀ y, y % 4096 = 0 → en < y + sz → y + sz ≤ bel → ¬ FreeIn L y (y + sz)
def RoomIs (L : List Rg) (sz bel x : Int) (ok : Bool) : Prop :=
  (ok = true ∧ x % 4096 = 0 ∧ 4096 ≤ x ∧ x + sz ≤ bel ∧ FreeIn L x (x + sz) ∧ NoRoom L sz bel (x + sz)) ∨ (ok = false ∧ x = 0 ∧ ∀ y, y % 4096 = 0 → 4096 ≤ y → y + sz ≤ bel → ¬ FreeIn L y (y + sz))
theorem room_unique {L : List Rg} {sz bel x x' : Int} {ok ok' : Bool} (h : RoomIs L sz bel x ok) (k : RoomIs L sz bel x' ok') : x = x' ∧ ok = ok' := by
  rcases h with ⟨rfl, a1, a2, a3, a4, a5⟩ | ⟨rfl, rfl, a1⟩ <;> rcases k with ⟨rfl, b1, b2, b3, b4, b5⟩ | ⟨rfl, rfl, b1⟩
  · refine ⟨?_, rfl⟩
    rcases Int.lt_trichotomy x x' with h | h | h
    · exact absurd b4 (a5 x' b1 (by omega) b3)
    · exact h
    · exact absurd a4 (b5 x a1 (by omega) a3)
  · exact absurd a4 (b1 x a1 a2 a3)
  · exact absurd b4 (a1 x' b1 b2 b3)
  · exact ⟨rfl, rfl⟩
theorem NoRoom.start (L : List Rg) (sz bel : Int) : NoRoom L sz bel bel := fun y _ h1 h2 => by omega
theorem room_yes {L : List Rg} {sz bel en : Int} (h : NoRoom L sz bel en) (he : en % 4096 = 0) (hs : sz % 4096 = 0) (hb : en ≤ bel) (h1 : 4096 + sz ≤ en) (hf : FreeIn L (en - sz) en) : RoomIs L sz bel (en - sz) true :=
  .inl ⟨rfl, by omega, by omega, by omega, by rw [show en - sz + sz = en by omega]; exact hf, by rw [show en - sz + sz = en by omega]; exact h⟩
theorem room_no {L : List Rg} {sz bel en : Int} (h : NoRoom L sz bel en) (h1 : en < 4096 + sz) : RoomIs L sz bel 0 false :=
  .inr ⟨rfl, rfl, fun y y1 y2 y3 => h y y1 (by omega) y3⟩
/-- A region that is in the way. -/
theorem NoRoom.down {L : List Rg} {sz bel en : Int} (h : NoRoom L sz bel en) (hsz : 0 < sz) {r : Rg} (hr : r ∈ L) (h1 : r.s < r.e) (h2 : en - sz < r.e) : NoRoom L sz bel r.s := fun y y1 y2 y3 => by
  by_cases hy : en < y + sz
  · exact h y y1 hy y3
  · intro hf
    exact hf (max y r.s) r.p (by omega) (by omega) ⟨r, hr, by omega, by omega, rfl⟩
theorem free_first {lo hi en sz : Int} {L : List Rg} (h : So lo hi L) (hall : ∀ r, r ∈ L → en ≤ r.s) : FreeIn L (en - sz) en := by
  rintro x p h1 h2 ⟨r, hr, a1, a2, a3⟩
  have := hall r hr
  omega
theorem free_room {lo hi en sz : Int} {L : List Rg} {k : Nat} (h : So lo hi L) (h1 : 0 < k → ∀ r, L[k - 1]? = some r → r.s < en) (h2 : ∀ r, L[k]? = some r → en ≤ r.s) (hk : k ≤ L.length) (he : 0 < k → ∀ r, L[k - 1]? = some r → r.e ≤ en - sz) : FreeIn L (en - sz) en := by
  rintro x p x1 x2 ⟨r, hr, a1, a2, a3⟩
  rcases seek_start h h1 h2 hk hr with b | ⟨b0, b1⟩ | ⟨b0, q, b1, b2, b3⟩
  · omega
  · have := he b0 r b1; omega
  · have h5 := he b0 q b1
    have h6 := h.2 q (List.mem_of_getElem? b1)
    omega
end Go.Proofs.Ytpalhkfipnbcnaa
