/-
  sort.Search over regions; seek; At; First; Free.
  At.
  First, Free, Protect.
  answers; lists of regions that the laws build.
  The greatest room below a place: plain mathematics.
  Room: of the list.
  Closed facts of the program's types: a page of bytes, maps of pages and of stamps.
-/
import Derived.Test.YtbngjbmfkekdnaaGreatDoorQ2
import Derived.Laws.ResultCell
import Derived.Deep.Cut
import Derived.IntWalk
import Derived.Test.YtbngjbmfkekdnaaGreatDoorRows
import Derived.Test.YtbngjbmfkekdnaaGreatDoorQ1
import Derived.Maps.RangeWalk
import Derived.Maps.OwnOps
set_option linter.unusedVariables false
set_option linter.unusedSimpArgs false
namespace Go.Proofs.YtbngjbmfkekdnaaGreatDoor
open Go.RowKit
set_option maxRecDepth 100000
/-- What a search finds. -/
def SeekPost (w : World) (L : List Rg) (q : Rg → Bool) (e : Ending) (w' : World) : Prop := ∃ k : Nat, e = .returned (.int .i64 (k : Int)) ∧ k ≤ L.length ∧ (0 < k → ∀ r, L[k - 1]? = some r → q r = false) ∧ (∀ r, L[k]? = some r → q r = true) ∧ Bl w w'
structure SR (w : World) (L : List Rg) (q : Rg → Bool) (i j : Nat) (wr : World) : Prop where
  le : i ≤ j
  top : j ≤ L.length
  low : 0 < i → ∀ r, L[i - 1]? = some r → q r = false
  high : j < L.length → ∀ r, L[j]? = some r → q r = true
  bl : Bl w wr
set_option maxHeartbeats 4000000 in
theorem search_any {w : World} {bi bl : Nat} {L : List Rg} {q : Rg → Bool} (n : Nat) (hn : n = L.length) (hl : n ≤ 1000)
    (hc : ∀ W, Bl w W → ∀ (k : Nat) r, L[k]? = some r → Calls Tryz.prog 99 #[.int .i64 (k : Int), .pointer (some ⟨bi, 0, none⟩), .pointer (some ⟨bl, 0, none⟩)] W (BoolPost W (q r))) :
    Calls Tryz.prog 98 #[.int .i64 (n : Int), .func (.func 99) #[] #[.pointer (some ⟨bi, 0, none⟩), .pointer (some ⟨bl, 0, none⟩)]] w (SeekPost w L q) := by
  have HC := Lib.hid hc; clear hc
  have HN := Lib.hid hn; clear hn
  have hlI : (n : Int) ≤ 1000 := by omega
  go_enter Tryz.func98, Tryz.ntmps98
  go_wp2_with fail
  go_loopw [5, 6, 7] (fun v5 v6 _ wr => ∃ i j : Nat, v5 = .int .i64 i ∧ v6 = .int .i64 j ∧ SR w L q i j wr) (fun v5 v6 _ _ => (intOf v6).toNat - (intOf v5).toNat)
  case atStart => exact ⟨0, n, rfl, rfl, ⟨by omega, by rw [HN.out]; omega, fun h => absurd h (by omega), fun h => absurd h (by rw [HN.out]; omega), Bl.refl _⟩⟩
  case round =>
    obtain ⟨i, j, rfl, rfl, hsr⟩ := hrel
    have hij := hsr.le
    have hjn := hsr.top
    rw [← HN.out] at hjn
    have HSR := Lib.hid hsr; clear hsr
    have hijI : (i : Int) ≤ (j : Int) := by omega
    have hjI : (j : Int) ≤ 1000 := by omega
    have hi0 : (0 : Int) ≤ (i : Int) := by omega
    by_cases hlt : i < j
    · obtain ⟨m, hm⟩ : ∃ m : Nat, m = (i + j) / 2 := ⟨_, rfl⟩
      have hmI : ((i : Int) + (j : Int)) / 2 = (m : Int) := by omega
      have hm1 : i ≤ m := by omega
      have hm2 : m < j := by omega
      have hmL : m < L.length := by have := HN.out; omega
      have hgm : L[m]? = some L[m] := List.getElem?_eq_getElem hmL
      have cc := fun W hW => HC.out W hW m L[m] hgm
      obtain ⟨qm, hqm⟩ : ∃ qm, qm = q L[m] := ⟨_, rfl⟩
      simp only [← hqm] at cc
      have CC := Lib.hid cc; clear cc
      have HGM := Lib.hid hgm; clear hgm
      have HQM := Lib.hid hqm; clear hqm
      have HMI := Lib.hid hmI; clear hmI hm
      have hltI : (i : Int) < (j : Int) := by omega
      go_wp2_with fail
      rw [HMI.out]
      with_reducible refine (CC.out _ HSR.out.bl).mono ?_
      rintro e w1 ⟨rfl, k1⟩
      have K1 := Lib.hid (HSR.out.bl.trans k1); clear k1
      rcases qm with _ | _
      · have hsr2 : SR w L q (m + 1) j w1 := ⟨by omega, HSR.out.top, fun _ r hr => by
          rw [Nat.add_sub_cancel, HGM.out] at hr; cases hr; exact HQM.out.symm, HSR.out.high, K1.out⟩
        have HSR2 := Lib.hid hsr2; clear hsr2
        go_wp2_with fail
        refine ⟨⟨m + 1, j, by go_num, rfl, HSR2.out⟩, ?_⟩
        simp only [intOf]; omega
      · have hsr2 : SR w L q i m w1 := ⟨hm1, by have := HSR.out.top; omega, HSR.out.low, fun _ r hr => by
          rw [HGM.out] at hr; cases hr; exact HQM.out.symm, K1.out⟩
        have HSR2 := Lib.hid hsr2; clear hsr2
        go_wp2_with fail
        refine ⟨⟨i, m, rfl, rfl, HSR2.out⟩, ?_⟩
        simp only [intOf]; omega
    · obtain rfl : i = j := by omega
      have hpost : SeekPost w L q (.returned (.int .i64 (i : Int))) wr := ⟨i, rfl, HSR.out.top, HSR.out.low, fun r hr => HSR.out.high (List.getElem?_eq_some_iff.1 hr).1 r hr, HSR.out.bl⟩
      have HP := Lib.hid hpost; clear hpost
      go_wp2_with fail
      go_ret
      exact HP.out
set_option maxHeartbeats 1000000 in
theorem seek_42 {X : Ctx} {w : World} {b c : Nat} {L : List Rg} {x : Int} {q : Rg → Bool} (h : ListAt X w b L) (hx : w.cell? ⟨c, 0, none⟩ = some (.int .u64 x)) (hq : Ask 58 c x q) (hl : L.length ≤ 1000) :
    Calls Tryz.prog 57 #[addr0 b, asks 58 c] w (SeekPost w L q) := by
  have hmf : ∀ (fn : Fn) (first cap : Array Value) (w : World), (Instr.makeFunc fn first cap).run Tryz.prog w = .ok (.func fn first cap) w := fun _ _ _ _ => rfl
  have hk : Bl w ((w.alloc (.cells #[addr0 b] 97)).alloc (.cells #[asks 58 c] 100)) := (Bl.new w _).alloc _
  have hsk : Seek X ((w.alloc (.cells #[addr0 b] 97)).alloc (.cells #[asks 58 c] 100)) b (w.heap.size + 1) w.heap.size c 58 x L := by
    refine ⟨h.bl hk, ?_, ?_, hk.cell' hx⟩
    · have := heap_alloc_new (w.alloc (.cells #[addr0 b] 97)) (.cells #[asks 58 c] 100)
      rw [show (w.alloc (.cells #[addr0 b] 97)).heap.size = w.heap.size + 1 by simp] at this
      rw [cell_of_row _ _ 0 _ 100 (0, 0) this]; rfl
    · exact (Bl.new (w.alloc (.cells #[addr0 b] 97)) (.cells #[asks 58 c] 100)).cell' (by rw [cell_of_row _ _ 0 _ 97 (0, 0) (heap_alloc_new w _)]; rfl)
  obtain ⟨v, hb, hr⟩ := h
  obtain ⟨A, cap, rfl⟩ := hr.shape
  have hcell : w.cell? ⟨b, 0, none⟩ = some (.slice A L.length cap) := by rw [cell_of_row w b 0 _ _ (0, 0) hb]; simp
  have hblt := lt_at hb
  have cs := search_any (w := (w.alloc (.cells #[addr0 b] 97)).alloc (.cells #[asks 58 c] 100)) (bi := w.heap.size + 1) (bl := w.heap.size) (L := L) (q := q) L.length rfl hl (fun W hW k r hkr => seek1_42 (hsk.bl hW) hq k r hkr hl)
  have CS := Lib.hid cs; clear cs hsk hr hb hx hq
  have HK := Lib.hid hk; clear hk hl
  unfold addr0 asks at *
  go_enter Tryz.func57, Tryz.ntmps57
  go_wp2_with fail
  refine CS.out.mono ?_
  rintro e w' ⟨k, rfl, h1, h2, h3, h4⟩
  have hp : SeekPost w L q (.returned (.int .i64 (k : Int))) w' := ⟨k, rfl, h1, h2, h3, HK.out.trans h4⟩
  have HP := Lib.hid hp; clear hp h1 h2 h3 h4
  go_wp2_with fail
  go_ret
  exact HP.out
set_option maxHeartbeats 1000000 in
theorem seek_44 {X : Ctx} {w : World} {b c : Nat} {L : List Rg} {x : Int} {q : Rg → Bool} (h : ListAt X w b L) (hx : w.cell? ⟨c, 0, none⟩ = some (.int .u64 x)) (hq : Ask 93 c x q) (hl : L.length ≤ 1000) :
    Calls Tryz.prog 57 #[addr0 b, asks 93 c] w (SeekPost w L q) := by
  have hmf : ∀ (fn : Fn) (first cap : Array Value) (w : World), (Instr.makeFunc fn first cap).run Tryz.prog w = .ok (.func fn first cap) w := fun _ _ _ _ => rfl
  have hk : Bl w ((w.alloc (.cells #[addr0 b] 97)).alloc (.cells #[asks 93 c] 100)) := (Bl.new w _).alloc _
  have hsk : Seek X ((w.alloc (.cells #[addr0 b] 97)).alloc (.cells #[asks 93 c] 100)) b (w.heap.size + 1) w.heap.size c 93 x L := by
    refine ⟨h.bl hk, ?_, ?_, hk.cell' hx⟩
    · have := heap_alloc_new (w.alloc (.cells #[addr0 b] 97)) (.cells #[asks 93 c] 100)
      rw [show (w.alloc (.cells #[addr0 b] 97)).heap.size = w.heap.size + 1 by simp] at this
      rw [cell_of_row _ _ 0 _ 100 (0, 0) this]; rfl
    · exact (Bl.new (w.alloc (.cells #[addr0 b] 97)) (.cells #[asks 93 c] 100)).cell' (by rw [cell_of_row _ _ 0 _ 97 (0, 0) (heap_alloc_new w _)]; rfl)
  obtain ⟨v, hb, hr⟩ := h
  obtain ⟨A, cap, rfl⟩ := hr.shape
  have hcell : w.cell? ⟨b, 0, none⟩ = some (.slice A L.length cap) := by rw [cell_of_row w b 0 _ _ (0, 0) hb]; simp
  have hblt := lt_at hb
  have cs := search_any (w := (w.alloc (.cells #[addr0 b] 97)).alloc (.cells #[asks 93 c] 100)) (bi := w.heap.size + 1) (bl := w.heap.size) (L := L) (q := q) L.length rfl hl (fun W hW k r hkr => seek1_44 (hsk.bl hW) hq k r hkr hl)
  have CS := Lib.hid cs; clear cs hsk hr hb hx hq
  have HK := Lib.hid hk; clear hk hl
  unfold addr0 asks at *
  go_enter Tryz.func57, Tryz.ntmps57
  go_wp2_with fail
  refine CS.out.mono ?_
  rintro e w' ⟨k, rfl, h1, h2, h3, h4⟩
  have hp : SeekPost w L q (.returned (.int .i64 (k : Int))) w' := ⟨k, rfl, h1, h2, h3, HK.out.trans h4⟩
  have HP := Lib.hid hp; clear hp h1 h2 h3 h4
  go_wp2_with fail
  go_ret
  exact HP.out
set_option maxHeartbeats 1000000 in
theorem seek_47 {X : Ctx} {w : World} {b c : Nat} {L : List Rg} {x : Int} {q : Rg → Bool} (h : ListAt X w b L) (hx : w.cell? ⟨c, 0, none⟩ = some (.int .u64 x)) (hq : Ask 96 c x q) (hl : L.length ≤ 1000) :
    Calls Tryz.prog 57 #[addr0 b, asks 96 c] w (SeekPost w L q) := by
  have hmf : ∀ (fn : Fn) (first cap : Array Value) (w : World), (Instr.makeFunc fn first cap).run Tryz.prog w = .ok (.func fn first cap) w := fun _ _ _ _ => rfl
  have hk : Bl w ((w.alloc (.cells #[addr0 b] 97)).alloc (.cells #[asks 96 c] 100)) := (Bl.new w _).alloc _
  have hsk : Seek X ((w.alloc (.cells #[addr0 b] 97)).alloc (.cells #[asks 96 c] 100)) b (w.heap.size + 1) w.heap.size c 96 x L := by
    refine ⟨h.bl hk, ?_, ?_, hk.cell' hx⟩
    · have := heap_alloc_new (w.alloc (.cells #[addr0 b] 97)) (.cells #[asks 96 c] 100)
      rw [show (w.alloc (.cells #[addr0 b] 97)).heap.size = w.heap.size + 1 by simp] at this
      rw [cell_of_row _ _ 0 _ 100 (0, 0) this]; rfl
    · exact (Bl.new (w.alloc (.cells #[addr0 b] 97)) (.cells #[asks 96 c] 100)).cell' (by rw [cell_of_row _ _ 0 _ 97 (0, 0) (heap_alloc_new w _)]; rfl)
  obtain ⟨v, hb, hr⟩ := h
  obtain ⟨A, cap, rfl⟩ := hr.shape
  have hcell : w.cell? ⟨b, 0, none⟩ = some (.slice A L.length cap) := by rw [cell_of_row w b 0 _ _ (0, 0) hb]; simp
  have hblt := lt_at hb
  have cs := search_any (w := (w.alloc (.cells #[addr0 b] 97)).alloc (.cells #[asks 96 c] 100)) (bi := w.heap.size + 1) (bl := w.heap.size) (L := L) (q := q) L.length rfl hl (fun W hW k r hkr => seek1_47 (hsk.bl hW) hq k r hkr hl)
  have CS := Lib.hid cs; clear cs hsk hr hb hx hq
  have HK := Lib.hid hk; clear hk hl
  unfold addr0 asks at *
  go_enter Tryz.func57, Tryz.ntmps57
  go_wp2_with fail
  refine CS.out.mono ?_
  rintro e w' ⟨k, rfl, h1, h2, h3, h4⟩
  have hp : SeekPost w L q (.returned (.int .i64 (k : Int))) w' := ⟨k, rfl, h1, h2, h3, HK.out.trans h4⟩
  have HP := Lib.hid hp; clear hp h1 h2 h3 h4
  go_wp2_with fail
  go_ret
  exact HP.out
end Go.Proofs.YtbngjbmfkekdnaaGreatDoor

set_option linter.unusedVariables false
set_option linter.unusedSimpArgs false
namespace Go.Proofs.YtbngjbmfkekdnaaGreatDoor
open Go.RowKit
set_option maxRecDepth 100000
def rgV (r : Rg) : Value := .agg #[.int .u64 r.s, .int .u64 r.e, .int .i64 r.p]
/-- Two results, of which the first lies in a block. -/
theorem results_row_tmp {P : Program} {fn : Func} {p u : Tmp} {ty : TypeId} (h : fn.results = #[.cell p ty, .tmp u]) (tmps : Array Value) (w : World) (g : Nat) (t : TypeId) (cs : Array Value) (fr : Nat × Nat) (d : TypeDesc)
    (hp : tmps.getD p undef = .pointer (some ⟨g, 0, none⟩)) (hg : w.heap[g]? = some (.cells cs t fr))
    (hu : P.underlying ty = some d) (hd : (match d with | .struct _ | .array _ _ => true | _ => false) = true) (hi : (P.info? ty).map (·.size) = some cs.size) :
    (results fn tmps).run P w = .ok (.tuple #[.agg cs, tmps.getD u undef]) w := by
  rw [results_cell_tmp h, hp]
  simp [asAddr, run_loadVar_row w g t ty cs fr d hg hu hd hi, Result.andThen]
theorem set3 {w : World} {g : Nat} {t : TypeId} {a b c : Value} (x y z : Value) (h : w.heap[g]? = some (.cells #[a, b, c] t (0, 0))) :
    (((w.setCell ⟨g, 0, none⟩ x).setCell ⟨g, 1, none⟩ y).setCell ⟨g, 2, none⟩ z).heap[g]? = some (.cells #[x, y, z] t (0, 0)) := by
  have h1 := heap_setCell_same w g 0 _ t x h
  have h2 := heap_setCell_same _ g 1 _ t y h1
  have h3 := heap_setCell_same _ g 2 _ t z h2
  simpa using h3
def AtPost (w : World) (L : List Rg) (x : Int) (e : Ending) (w' : World) : Prop := ∃ r ok, e = .returned (.tuple #[rgV r, .bool ok]) ∧ ((ok = true ∧ r ∈ L ∧ r.s ≤ x ∧ x < r.e) ∨ (ok = false ∧ r = ⟨0, 0, 0⟩ ∧ ∀ p, ¬ In L x p)) ∧ Bl w w'
set_option maxHeartbeats 4000000 in
theorem at_any {X : Ctx} {w : World} {b : Nat} {L : List Rg} (h : ListAt X w b L) (hs : So 0 274877906944 L) (x : Int) (hl : L.length ≤ 1000) :
    Calls Tryz.prog 32 #[addr0 b, .int .u64 x] w (AtPost w L x) := by
  have hmf : ∀ (fn : Fn) (first cap : Array Value) (w : World), (Instr.makeFunc fn first cap).run Tryz.prog w = .ok (.func fn first cap) w := fun _ _ _ _ => rfl
  have hk : Bl w ((w.alloc (.cells #[.int .u64 x] 29)).alloc (.cells #[.int .u64 0, .int .u64 0, .int .i64 0] 79)) := (Bl.new w _).alloc _
  have hx : ((w.alloc (.cells #[.int .u64 x] 29)).alloc (.cells #[.int .u64 0, .int .u64 0, .int .i64 0] 79)).cell? ⟨w.heap.size, 0, none⟩ = some (.int .u64 x) :=
    (Bl.new (w.alloc (.cells #[.int .u64 x] 29)) _).cell' (by rw [cell_of_row _ _ 0 _ 29 (0, 0) (heap_alloc_new w _)]; rfl)
  have hz : ((w.alloc (.cells #[.int .u64 x] 29)).alloc (.cells #[.int .u64 0, .int .u64 0, .int .i64 0] 79)).heap[w.heap.size + 1]? = some (.cells #[.int .u64 0, .int .u64 0, .int .i64 0] 79 (0, 0)) := by
    have := heap_alloc_new (w.alloc (.cells #[.int .u64 x] 29)) (.cells #[.int .u64 0, .int .u64 0, .int .i64 0] 79)
    rwa [show (w.alloc (.cells #[.int .u64 x] 29)).heap.size = w.heap.size + 1 by simp] at this
  have cs := seek_42 (h.bl hk) hx (fun r W hW => is42_any r w.heap.size x W hW) hl
  have CS := Lib.hid cs; clear cs
  have HH := Lib.hid (h.bl hk); clear h
  have HK := Lib.hid hk; clear hk
  have HX := Lib.hid hx; clear hx
  have HZ := Lib.hid hz; clear hz
  have HSO := Lib.hid hs; clear hs
  unfold addr0 asks at *
  go_enter Tryz.func32, Tryz.ntmps32
  go_wp2_with fail
  refine CS.out.mono ?_
  rintro e w1 ⟨k, rfl, h1, h2, h3, h4⟩
  have hL1 := HH.out.bl h4
  have hx1 := h4.cell' HX.out
  have hz1 := h4.at_ HZ.out
  have hk1 := HK.out.trans h4
  clear CS h4 HH HX HZ HK
  have hin := fun p => in_seek (p := p) HSO.out (fun hk r hr => by have := h2 hk r hr; simpa using this) (fun r hr => by have := h3 r hr; simpa using this) h1
  obtain ⟨v, hb, hr⟩ := hL1
  obtain ⟨A, cap, rfl⟩ := hr.shape
  have hcell : w1.cell? ⟨b, 0, none⟩ = some (.slice A L.length cap) := by rw [cell_of_row w1 b 0 _ _ (0, 0) hb]; simp
  have z0 : w1.cell? ⟨w.heap.size + 1, 0, none⟩ = some (.int .u64 0) := by rw [cell_of_row w1 _ 0 _ 79 (0, 0) hz1]; rfl
  have z1 : w1.cell? ⟨w.heap.size + 1, 1, none⟩ = some (.int .u64 0) := by rw [cell_of_row w1 _ 1 _ 79 (0, 0) hz1]; rfl
  have z2 : w1.cell? ⟨w.heap.size + 1, 2, none⟩ = some (.int .i64 0) := by rw [cell_of_row w1 _ 2 _ 79 (0, 0) hz1]; rfl
  have fz : ∀ j, w1.frozen? ⟨w.heap.size + 1, j, none⟩ = false := fun j => by simp [World.frozen?, hz1]
  have f0 := fz 0
  have f1 := fz 1
  have f2 := fz 2
  clear fz
  have HZ1 := Lib.hid hz1; clear hz1
  have HK1 := Lib.hid hk1; clear hk1
  have HIN := Lib.hid hin; clear hin
  have HR := Lib.hid hr; clear hr hb
  have H3 := Lib.hid h3; clear h3 h2
  obtain ⟨n, hn⟩ : ∃ n, n = L.length := ⟨_, rfl⟩
  rw [← hn] at hcell h1 HR hl
  have HN := Lib.hid hn; clear hn
  have hnI : (n : Int) ≤ 1000 := by omega
  have hkI : (k : Int) ≤ (n : Int) := by omega
  by_cases hkn : k = n
  · have t1 : ((k : Int) == (n : Int)) = true := by simp [hkn]
    have t2 : (k == n) = true := by simp [hkn]
    clear hkn
    go_wp2_with fail
    go_quiet (fail)
    go_wp2_with fail
    have hnone : ∀ p, ¬ In L x p := fun p hp => by
      obtain ⟨r, hr, _⟩ := (HIN.out p).1 hp
      have h5 := (List.getElem?_eq_some_iff.1 hr).1
      have := HN.out
      simp at t2
      omega
    refine bodyPost_ret (results_row_tmp rfl _ _ (w.heap.size + 1) 79 _ (0, 0) _ rfl (set3 _ _ _ HZ1.out) Tryz.underlying79 rfl (by kernel_rfl)) rfl ?_
    exact ⟨⟨0, 0, 0⟩, false, rfl, .inr ⟨rfl, rfl, hnone⟩, (((HK1.out.drewN _).set (by simp) _).set (by simp) _).set (by simp) _⟩
  · have t1 : ((k : Int) == (n : Int)) = false := by simp; omega
    have t2 : (k == n) = false := by simp; omega
    have hlt : k < n := by omega
    have hltL : k < L.length := by have := HN.out; omega
    obtain ⟨r, hr⟩ : ∃ r, L[k]? = some r := ⟨L[k], List.getElem?_eq_getElem hltL⟩
    have hne : L ≠ [] := by intro e; rw [e] at hltL; simp at hltL
    obtain ⟨g, cap', cur, hA, _, hnc, hg, _⟩ := HR.out.form hne
    have hA' : A = some ⟨g, 0, none⟩ := by injection hA
    subst hA'
    obtain ⟨c0, c1, c2⟩ := row_cells HR.out k r hr
    clear hA hnc hg hne hltL hkn
    have hxe : x < r.e := by have := H3.out r hr; simpa using this
    have hltI : (k : Int) < (n : Int) := by omega
    have HXE := Lib.hid hxe; clear hxe
    by_cases hsx : x < r.s
    · have hnone : ∀ p, ¬ In L x p := fun p hp => by
        obtain ⟨r', hr', h5, _⟩ := (HIN.out p).1 hp
        rw [hr] at hr'; cases hr'; omega
      have HNO := Lib.hid hnone; clear hnone hr
      go_wp2_with fail
      go_quiet (fail)
      go_wp2_with fail
      refine bodyPost_ret (results_row_tmp rfl _ _ (w.heap.size + 1) 79 _ (0, 0) _ rfl (set3 _ _ _ HZ1.out) Tryz.underlying79 rfl (by kernel_rfl)) rfl ?_
      exact ⟨⟨0, 0, 0⟩, false, rfl, .inr ⟨rfl, rfl, HNO.out⟩, (((HK1.out.drewN _).set (by simp) _).set (by simp) _).set (by simp) _⟩
    · have HIR := Lib.hid (List.mem_of_getElem? hr); clear hr
      have hsx2 : r.s ≤ x := by omega
      go_wp2_with fail
      go_quiet (fail)
      go_wp2_with fail
      refine bodyPost_ret (results_row_tmp rfl _ _ (w.heap.size + 1) 79 _ (0, 0) _ rfl (set3 _ _ _ HZ1.out) Tryz.underlying79 rfl (by kernel_rfl)) rfl ?_
      exact ⟨r, true, rfl, .inl ⟨rfl, HIR.out, hsx2, HXE.out⟩, (((HK1.out.drewN _).set (by simp) _).set (by simp) _).set (by simp) _⟩
end Go.Proofs.YtbngjbmfkekdnaaGreatDoor

set_option linter.unusedVariables false
set_option linter.unusedSimpArgs false
namespace Go.Proofs.YtbngjbmfkekdnaaGreatDoor
open Go.RowKit
set_option maxRecDepth 100000
/-- A place is mapped with all of p. -/
def Can (L : List Rg) (p x : Int) : Prop := ∃ q, In L x q ∧ bits .and .i64 q p = p
def FirstPost (w : World) (L : List Rg) (s t p : Int) (e : Ending) (w' : World) : Prop := ∃ x ok, e = .returned (.tuple #[.int .u64 x, .bool ok]) ∧
  ((ok = true ∧ s ≤ x ∧ x < t ∧ ¬ Can L p x ∧ ∀ y, s ≤ y → y < x → Can L p y) ∨ (ok = false ∧ x = 0 ∧ ∀ y, s ≤ y → y < t → Can L p y)) ∧ Bl w w'
set_option maxHeartbeats 4000000 in
theorem first_any {X : Ctx} {w : World} {b : Nat} {L : List Rg} (h : ListAt X w b L) (hs : So 0 274877906944 L) (s t p : Int) (hl : L.length ≤ 1000) :
    Calls Tryz.prog 69 #[addr0 b, .int .u64 s, .int .u64 t, .int .i64 p] w (FirstPost w L s t p) := by
  have HH := Lib.hid h; clear h
  have HSO := Lib.hid hs; clear hs
  have HL := Lib.hid hl; clear hl
  unfold addr0
  go_enter Tryz.func69, Tryz.ntmps69
  go_wp2_with fail
  go_loopw [1, 10, 11] (fun v1 _ _ wr => ∃ a : Int, v1 = .int .u64 a ∧ s ≤ a ∧ (∀ y, s ≤ y → y < a → Can L p y) ∧ Bl w wr) (fun v1 _ _ _ => (t - intOf v1).toNat)
  case atStart => exact ⟨s, rfl, by omega, fun y h1 h2 => absurd h2 (by omega), Bl.refl _⟩
  case round =>
    obtain ⟨a, rfl, ha, hall, hbl⟩ := hrel
    have HALL := Lib.hid hall; clear hall
    have HBL := Lib.hid hbl; clear hbl
    by_cases hat : a < t
    · go_wp2_with fail
      refine (at_any (HH.out.bl HBL.out) HSO.out a HL.out).mono ?_
      rintro e w1 ⟨r, ok, rfl, hr, k1⟩
      have K1 := Lib.hid (HBL.out.trans k1); clear k1
      unfold rgV
      rcases hr with ⟨rfl, h1, h2, h3⟩ | ⟨rfl, rfl, h1⟩
      · have hmem : In L a r.p := ⟨r, h1, h2, h3, rfl⟩
        by_cases hc : bits .and .i64 r.p p = p
        · have t1 : (bits .and .i64 r.p p == p) = true := by simp [hc]
          have t2 : (bits .and .i64 r.p p != p) = false := by simp [hc]
          have hall2 : ∀ y, s ≤ y → y < r.e → Can L p y := fun y y1 y2 => by
            by_cases hy : y < a
            · exact HALL.out y y1 hy
            · exact ⟨r.p, ⟨r, h1, by omega, y2, rfl⟩, hc⟩
          have HALL2 := Lib.hid hall2; clear hall2 hmem h1 hc
          go_wp2_with fail
          refine ⟨⟨r.e, rfl, by omega, HALL2.out, K1.out.alloc _⟩, ?_⟩
          simp only [intOf]; omega
        · have t1 : (bits .and .i64 r.p p == p) = false := by simp [hc]
          have t2 : (bits .and .i64 r.p p != p) = true := by simp [hc]
          have hno : ¬ Can L p a := fun ⟨q, hq, hb⟩ => hc (by rw [← HSO.out.one hq hmem]; exact hb)
          have hp : FirstPost w L s t p (.returned (.tuple #[.int .u64 a, .bool true])) (w1.alloc (.cells #[.int .u64 r.s, .int .u64 r.e, .int .i64 r.p] 79)) := ⟨a, true, rfl, .inl ⟨rfl, ha, hat, hno, HALL.out⟩, K1.out.alloc _⟩
          have HP := Lib.hid hp; clear hp hno hmem h1 hc
          go_wp2_with fail
          go_ret2
          exact HP.out
      · have hno : ¬ Can L p a := fun ⟨q, hq, hb⟩ => h1 q hq
        have hp : FirstPost w L s t p (.returned (.tuple #[.int .u64 a, .bool true])) (w1.alloc (.cells #[.int .u64 0, .int .u64 0, .int .i64 0] 79)) := ⟨a, true, rfl, .inl ⟨rfl, ha, hat, hno, HALL.out⟩, K1.out.alloc _⟩
        have HP := Lib.hid hp; clear hp hno h1
        go_wp2_with fail
        go_ret2
        exact HP.out
    · have hp : FirstPost w L s t p (.returned (.tuple #[.int .u64 0, .bool false])) wr := ⟨0, false, rfl, .inr ⟨rfl, rfl, fun y y1 y2 => HALL.out y y1 (by omega)⟩, HBL.out⟩
      have HP := Lib.hid hp; clear hp
      go_wp2_with fail
      go_ret2
      exact HP.out
set_option maxHeartbeats 4000000 in
theorem free_any {X : Ctx} {w : World} {b : Nat} {L : List Rg} (h : ListAt X w b L) (hs : So 0 274877906944 L) (s t : Int) (h0 : 0 ≤ s) (hsp : Span s t) (hl : L.length ≤ 1000) (v : Bool) (hv : v = true ↔ FreeIn L s t) :
    Calls Tryz.prog 52 #[addr0 b, .int .u64 s, .int .u64 t] w (BoolPost w v) := by
  have hmf : ∀ (fn : Fn) (first cap : Array Value) (w : World), (Instr.makeFunc fn first cap).run Tryz.prog w = .ok (.func fn first cap) w := fun _ _ _ _ => rfl
  have hk : Bl w (w.alloc (.cells #[.int .u64 s] 29)) := Bl.new w _
  have hx : (w.alloc (.cells #[.int .u64 s] 29)).cell? ⟨w.heap.size, 0, none⟩ = some (.int .u64 s) := by rw [cell_of_row _ _ 0 _ 29 (0, 0) (heap_alloc_new w _)]; rfl
  have cs := seek_44 (h.bl hk) hx (fun r W hW => is44_any r w.heap.size s W hW) hl
  have ci := fun W => isSpan_yes s t W h0 hsp
  have hst : s < t := hsp.2.2.1
  have CI := Lib.hid ci; clear ci
  have CS := Lib.hid cs; clear cs
  have HH := Lib.hid (h.bl hk); clear h hsp
  have HK := Lib.hid hk; clear hk
  have HSO := Lib.hid hs; clear hs
  have HV := Lib.hid hv; clear hv
  unfold addr0 asks at *
  go_enter Tryz.func52, Tryz.ntmps52
  go_wp2_with fail
  refine (CI.out _).mono ?_
  rintro e w' ⟨rfl, rfl⟩
  go_wp2_with fail
  refine CS.out.mono ?_
  rintro e w1 ⟨k, rfl, h1, h2, h3, h4⟩
  have hL1 := HH.out.bl h4
  have hk1 := HK.out.trans h4
  clear CS h4 HH HK CI hx
  have hin := free_seek HSO.out hst (fun hk r hr => by have := h2 hk r hr; simpa using this) (fun r hr => by have := h3 r hr; simpa using this) h1
  obtain ⟨v1, hb, hr⟩ := hL1
  obtain ⟨A, cap, rfl⟩ := hr.shape
  have hcell : w1.cell? ⟨b, 0, none⟩ = some (.slice A L.length cap) := by rw [cell_of_row w1 b 0 _ _ (0, 0) hb]; simp
  have HK1 := Lib.hid hk1; clear hk1
  have HIN := Lib.hid hin; clear hin
  have HR := Lib.hid hr; clear hr hb h2 h3
  obtain ⟨n, hn⟩ : ∃ n, n = L.length := ⟨_, rfl⟩
  rw [← hn] at hcell h1 HR hl
  have HN := Lib.hid hn; clear hn
  have hnI : (n : Int) ≤ 1000 := by omega
  have hkI : (k : Int) ≤ (n : Int) := by omega
  by_cases hkn : k = n
  · have t1 : ((k : Int) == (n : Int)) = true := by simp [hkn]
    have t2 : (k == n) = true := by simp [hkn]
    have hvt : v = true := HV.out.2 (HIN.out.2 (fun r hr => by
      have h5 := (List.getElem?_eq_some_iff.1 hr).1
      have := HN.out
      omega))
    subst hvt
    clear hkn
    go_wp2_with fail
    go_ret
    exact ⟨rfl, HK1.out⟩
  · have t1 : ((k : Int) == (n : Int)) = false := by simp; omega
    have t2 : (k == n) = false := by simp; omega
    have hlt : k < n := by omega
    have hltL : k < L.length := by have := HN.out; omega
    obtain ⟨r, hr⟩ : ∃ r, L[k]? = some r := ⟨L[k], List.getElem?_eq_getElem hltL⟩
    have hne : L ≠ [] := by intro e; rw [e] at hltL; simp at hltL
    obtain ⟨g, cap', cur, hA, _, hnc, hg, _⟩ := HR.out.form hne
    have hA' : A = some ⟨g, 0, none⟩ := by injection hA
    subst hA'
    obtain ⟨c0, c1, c2⟩ := row_cells HR.out k r hr
    clear hA hnc hg hne hltL hkn
    have hltI : (k : Int) < (n : Int) := by omega
    have hvr : v = decide (t ≤ r.s) := by
      by_cases hd : t ≤ r.s
      · rw [decide_eq_true hd]
        exact HV.out.2 (HIN.out.2 (fun r' hr' => by rw [hr] at hr'; cases hr'; exact hd))
      · rw [decide_eq_false hd]
        cases hvv : v with
        | false => rfl
        | true => exact absurd (HIN.out.1 (HV.out.1 hvv) r hr) hd
    subst hvr
    clear hr HV HIN
    go_wp2_with fail
    go_ret
    exact ⟨rfl, HK1.out⟩
theorem free_no {w : World} (b : Nat) (s t : Int) (h0 : 0 ≤ s) (h1 : s ≤ 18446744073709551615) (h2 : 0 ≤ t) (h3 : t ≤ 18446744073709551615) (hsp : ¬ Span s t) :
    Calls Tryz.prog 52 #[addr0 b, .int .u64 s, .int .u64 t] w (BoolPost w false) := by
  have ci := fun W => isSpan_no s t W h0 h1 h2 h3 hsp
  have CI := Lib.hid ci; clear ci hsp
  unfold addr0 at *
  go_enter Tryz.func52, Tryz.ntmps52
  go_wp2_with fail
  refine (CI.out _).mono ?_
  rintro e w' ⟨rfl, rfl⟩
  go_wp2_with fail
  go_ret
  exact ⟨rfl, Bl.new _ _⟩
/-- All of a span is mapped. -/
def Mapped (L : List Rg) (s t : Int) : Prop := ∀ y, s ≤ y → y < t → ∃ q, In L y q
theorem and_zero (q : Int) : bits .and .i64 q 0 = 0 := by
  have h : bits .and .i64 q 0 = IntKind.i64.wrap ((BitVec.ofInt 64 q &&& 0#64).toNat : Int) := rfl
  rw [h, BitVec.and_zero]; rfl
theorem can_zero {L : List Rg} {y : Int} : Can L 0 y ↔ ∃ q, In L y q := by
  constructor
  · rintro ⟨q, h1, h2⟩; exact ⟨q, h1⟩
  · rintro ⟨q, h1⟩; exact ⟨q, h1, and_zero q⟩
set_option maxHeartbeats 1000000 in
theorem protect_ok {X : Ctx} {w : World} {b : Nat} {L : List Rg} (h : ListAt X w b L) (hso : So 0 274877906944 L) (s t p : Int) (h0 : 0 ≤ s) (hs : Span s t) (hp0 : 0 ≤ p) (hp1 : p ≤ 7) (hl : L.length ≤ 256) (hm : Mapped L s t) (hc : (layL L s t [⟨s, t, p⟩]).length ≤ 256) :
    Calls Tryz.prog 39 #[addr0 b, .int .u64 s, .int .u64 t, .int .i64 p] w (LayPost X w b (layL L s t [⟨s, t, p⟩])) := by
  have c1 := fun W => isSpan_yes s t W h0 hs
  have c2 := fun W => isProt_yes p W hp0 hp1
  have cf := fun W (k : Bl w W) => first_any (h.bl k) hso s t 0 (by omega)
  have C1 := Lib.hid c1; clear c1
  have C2 := Lib.hid c2; clear c2
  have CF := Lib.hid cf; clear cf
  have HH := Lib.hid h; clear h
  have HSO := Lib.hid hso; clear hso hs
  have HL := Lib.hid hl; clear hl
  have HM := Lib.hid hm; clear hm
  have HC := Lib.hid hc; clear hc
  unfold addr0 at *
  go_enter Tryz.func39, Tryz.ntmps39
  go_wp2_with fail
  refine (C1.out _).mono ?_
  rintro e w' ⟨rfl, rfl⟩
  go_wp2_with fail
  refine (C2.out _).mono ?_
  rintro e w' ⟨rfl, rfl⟩
  go_wp2_with fail
  refine (CF.out _ (Bl.refl _)).mono ?_
  rintro e w1 ⟨x, ok, rfl, hok, k1⟩
  have K1 := Lib.hid k1; clear k1
  rcases hok with ⟨rfl, a1, a2, a3, a4⟩ | ⟨rfl, rfl, a1⟩
  · exact absurd (can_zero.2 (HM.out x a1 a2)) a3
  clear a1
  go_wp2_with fail
  refine (lay_ok ((HH.out.bl K1.out).bl (Bl.new w1 (.cells #[.int .u64 s, .int .u64 t, .int .i64 p] 79))) s t (lit_row w1 ⟨s, t, p⟩) HL.out (by simp) HC.out).mono ?_
  rintro e w' ⟨rfl, h1, h2⟩
  have H1 := Lib.hid h1; clear h1
  have H2 := Lib.hid h2; clear h2
  go_wp2_with fail
  go_ret
  exact ⟨rfl, H1.out.mono (K1.out.alloc _).size, (Fr.of_bl (K1.out.alloc _)).trans H2.out⟩
set_option maxHeartbeats 1000000 in
theorem protect_hole {X : Ctx} {w : World} {b : Nat} {L : List Rg} (h : ListAt X w b L) (hso : So 0 274877906944 L) (s t p : Int) (h0 : 0 ≤ s) (hs : Span s t) (hp0 : 0 ≤ p) (hp1 : p ≤ 7) (hl : L.length ≤ 256) (hm : ¬ Mapped L s t) :
    Calls Tryz.prog 39 #[addr0 b, .int .u64 s, .int .u64 t, .int .i64 p] w (NoPost w 12) := by
  have c1 := fun W => isSpan_yes s t W h0 hs
  have c2 := fun W => isProt_yes p W hp0 hp1
  have cf := fun W (k : Bl w W) => first_any (h.bl k) hso s t 0 (by omega)
  have C1 := Lib.hid c1; clear c1
  have C2 := Lib.hid c2; clear c2
  have CF := Lib.hid cf; clear cf
  have HH := Lib.hid h; clear h
  have HSO := Lib.hid hso; clear hso hs
  have HL := Lib.hid hl; clear hl
  have HM := Lib.hid hm; clear hm
  unfold addr0 at *
  go_enter Tryz.func39, Tryz.ntmps39
  go_wp2_with fail
  refine (C1.out _).mono ?_
  rintro e w' ⟨rfl, rfl⟩
  go_wp2_with fail
  refine (C2.out _).mono ?_
  rintro e w' ⟨rfl, rfl⟩
  go_wp2_with fail
  refine (CF.out _ (Bl.refl _)).mono ?_
  rintro e w1 ⟨x, ok, rfl, hok, k1⟩
  have K1 := Lib.hid k1; clear k1
  rcases hok with ⟨rfl, a1, a2, a3, a4⟩ | ⟨rfl, rfl, a1⟩
  · clear a1 a2 a3 a4
    go_wp2_with fail
    go_ret
    exact ⟨rfl, K1.out⟩
  · exact absurd (fun y y1 y2 => can_zero.1 (a1 y y1 y2)) HM.out
set_option maxHeartbeats 1000000 in
theorem protect_no {w : World} (b : Nat) (s e p : Int) (h0 : 0 ≤ s) (h1 : s ≤ 18446744073709551615) (h2 : 0 ≤ e) (h3 : e ≤ 18446744073709551615) (h : ¬ (Span s e ∧ 0 ≤ p ∧ p ≤ 7)) :
    Calls Tryz.prog 39 #[addr0 b, .int .u64 s, .int .u64 e, .int .i64 p] w (NoPost w 22) := by
  unfold addr0 at *
  by_cases hs : Span s e
  · have c1 := fun W => isSpan_yes s e W h0 hs
    have c2 := fun W => isProt_no p W (fun hp => h ⟨hs, hp⟩)
    have C1 := Lib.hid c1; clear c1
    have C2 := Lib.hid c2; clear c2 h hs
    go_enter Tryz.func39, Tryz.ntmps39
    go_wp2_with fail
    refine (C1.out _).mono ?_
    rintro e w' ⟨rfl, rfl⟩
    go_wp2_with fail
    refine (C2.out _).mono ?_
    rintro e w' ⟨rfl, rfl⟩
    go_wp2_with fail
    go_ret
    exact ⟨rfl, Bl.refl _⟩
  · have c1 := fun W => isSpan_no s e W h0 h1 h2 h3 hs
    have C1 := Lib.hid c1; clear c1 h hs
    go_enter Tryz.func39, Tryz.ntmps39
    go_wp2_with fail
    refine (C1.out _).mono ?_
    rintro e w' ⟨rfl, rfl⟩
    go_wp2_with fail
    go_ret
    exact ⟨rfl, Bl.refl _⟩
end Go.Proofs.YtbngjbmfkekdnaaGreatDoor

set_option linter.unusedVariables false
set_option linter.unusedSimpArgs false
namespace Go.Proofs.YtbngjbmfkekdnaaGreatDoor
open Go.RowKit
set_option maxRecDepth 100000
theorem layL_new (s e p : Int) : layL [] s e [⟨s, e, p⟩] = [⟨s, e, p⟩] := by
  simp [layL, within, join, joinOne_nil]
theorem Fr.only_new {w w1 w2 : World} {b : Nat} (k : Bl w w1) (f : Fr (only b) w1 w2) (hb : w.heap.size ≤ b) : Bl w w2 :=
  ((Fr.of_bl (S := only b) k).trans f).bl fun j hj e => by have e : j = b := e; omega
/-- Regions: in order, whole pages, joined. -/
structure Rs (L : List Rg) : Prop where
  nm : Nm 0 274877906944 L
  al : Al L
theorem Rs.nil : Rs [] := ⟨Nm.nil _ _, Al.nil⟩
theorem Rs.lay {L : List Rg} (h : Rs L) {s e p : Int} (h0 : 0 ≤ s) (hs : Span s e) : Rs (layL L s e [⟨s, e, p⟩]) := by
  obtain ⟨a, b, c, d⟩ := hs
  obtain ⟨h1, h2, h3, h4⟩ := layL_all h.nm.so h0 c d (one_so (p := p) c)
  exact ⟨h1, h3 h.al a b (one_al a b)⟩
theorem Rs.cut {L : List Rg} (h : Rs L) {s e : Int} (h0 : 0 ≤ s) (hs : Span s e) : Rs (layL L s e []) := by
  obtain ⟨a, b, c, d⟩ := hs
  obtain ⟨h1, h2, h3, h4⟩ := layL_all h.nm.so h0 c d (So.nil s e)
  exact ⟨h1, h3 h.al a b Al.nil⟩
theorem lay_in {L : List Rg} (h : Rs L) {s e p : Int} (h0 : 0 ≤ s) (hs : Span s e) (a q : Int) : In (layL L s e [⟨s, e, p⟩]) a q ↔ (s ≤ a ∧ a < e ∧ p = q) ∨ ((a < s ∨ e ≤ a) ∧ In L a q) := by
  obtain ⟨_, _, c, d⟩ := hs
  rw [(layL_all h.nm.so h0 c d (one_so (p := p) c)).2.1, In_one]
theorem cut_in {L : List Rg} (h : Rs L) {s e : Int} (h0 : 0 ≤ s) (hs : Span s e) (a q : Int) : In (layL L s e []) a q ↔ (a < s ∨ e ≤ a) ∧ In L a q := by
  obtain ⟨_, _, c, d⟩ := hs
  rw [(layL_all h.nm.so h0 c d (So.nil s e)).2.1]
  constructor
  · rintro (h1 | h1)
    · exact absurd h1 (In_nil _ _)
    · exact h1
  · exact .inr
/-- The regions that have these places. -/
theorem Rs.eq {L M : List Rg} (h : Rs L) (k : Rs M) (e : ∀ a p, In L a p ↔ In M a p) : L = M := unique h.nm k.nm e
/-- All within n pages: no more regions than pages. -/
theorem Rs.few {L : List Rg} (h : Rs L) (n : Nat) (hn : (n : Int) * 4096 ≤ 274877906944) (hb : ∀ a p, In L a p → a < n * 4096) : L.length ≤ n := by
  have hso : So 0 ((n : Int) * 4096) L := by
    refine ⟨h.nm.so.1, fun r hr => ?_⟩
    have h1 := h.nm.2 r hr
    have h2 := hb (r.e - 1) r.p ⟨r, hr, by omega, by omega, rfl⟩
    omega
  have := len_le hso h.al (by omega)
  omega
theorem one_rs {s e p : Int} (h0 : 0 ≤ s) (hs : Span s e) : Rs [⟨s, e, p⟩] := by
  obtain ⟨a, b, c, d⟩ := hs
  exact ⟨(one_nm c).mono h0 d, one_al a b⟩
end Go.Proofs.YtbngjbmfkekdnaaGreatDoor

set_option linter.unusedVariables false
set_option linter.unusedSimpArgs false
namespace Go.Proofs.YtbngjbmfkekdnaaGreatDoor
/-- No room begins so that it ends behind en. -/
def NoRoom (L : List Rg) (sz bel en : Int) : Prop := ∀ y, y % 4096 = 0 → en < y + sz → y + sz ≤ bel → ¬ FreeIn L y (y + sz)
def RoomIs (L : List Rg) (sz bel x : Int) (ok : Bool) : Prop :=
  (ok = true ∧ x % 4096 = 0 ∧ 4096 ≤ x ∧ x + sz ≤ bel ∧ FreeIn L x (x + sz) ∧ NoRoom L sz bel (x + sz)) ∨ (ok = false ∧ x = 0 ∧ ∀ y, y % 4096 = 0 → 4096 ≤ y → y + sz ≤ bel → ¬ FreeIn L y (y + sz))
theorem room_unique {L : List Rg} {sz bel x x' : Int} {ok ok' : Bool} (h : RoomIs L sz bel x ok) (k : RoomIs L sz bel x' ok') : x = x' ∧ ok = ok' := by
  rcases h with ⟨rfl, a1, a2, a3, a4, a5⟩ | ⟨rfl, rfl, a1⟩ <;> rcases k with ⟨rfl, b1, b2, b3, b4, b5⟩ | ⟨rfl, rfl, b1⟩
  · refine ⟨?_, rfl⟩
    rcases Int.lt_trichotomy x x' with h | h | h
    · exact absurd b4 (a5 x' b1 (by omega) b3)
    · exact h
    · exact absurd a4 (b5 x a1 (by omega) a3)
  · exact absurd a4 (b1 x a1 a2 a3)
  · exact absurd b4 (a1 x' b1 b2 b3)
  · exact ⟨rfl, rfl⟩
theorem NoRoom.start (L : List Rg) (sz bel : Int) : NoRoom L sz bel bel := fun y _ h1 h2 => by omega
theorem room_yes {L : List Rg} {sz bel en : Int} (h : NoRoom L sz bel en) (he : en % 4096 = 0) (hs : sz % 4096 = 0) (hb : en ≤ bel) (h1 : 4096 + sz ≤ en) (hf : FreeIn L (en - sz) en) : RoomIs L sz bel (en - sz) true :=
  .inl ⟨rfl, by omega, by omega, by omega, by rw [show en - sz + sz = en by omega]; exact hf, by rw [show en - sz + sz = en by omega]; exact h⟩
theorem room_no {L : List Rg} {sz bel en : Int} (h : NoRoom L sz bel en) (h1 : en < 4096 + sz) : RoomIs L sz bel 0 false :=
  .inr ⟨rfl, rfl, fun y y1 y2 y3 => h y y1 (by omega) y3⟩
/-- A region that is in the way. -/
theorem NoRoom.down {L : List Rg} {sz bel en : Int} (h : NoRoom L sz bel en) (hsz : 0 < sz) {r : Rg} (hr : r ∈ L) (h1 : r.s < r.e) (h2 : en - sz < r.e) : NoRoom L sz bel r.s := fun y y1 y2 y3 => by
  by_cases hy : en < y + sz
  · exact h y y1 hy y3
  · intro hf
    exact hf (max y r.s) r.p (by omega) (by omega) ⟨r, hr, by omega, by omega, rfl⟩
theorem free_first {lo hi en sz : Int} {L : List Rg} (h : So lo hi L) (hall : ∀ r, r ∈ L → en ≤ r.s) : FreeIn L (en - sz) en := by
  rintro x p h1 h2 ⟨r, hr, a1, a2, a3⟩
  have := hall r hr
  omega
theorem free_room {lo hi en sz : Int} {L : List Rg} {k : Nat} (h : So lo hi L) (h1 : 0 < k → ∀ r, L[k - 1]? = some r → r.s < en) (h2 : ∀ r, L[k]? = some r → en ≤ r.s) (hk : k ≤ L.length) (he : 0 < k → ∀ r, L[k - 1]? = some r → r.e ≤ en - sz) : FreeIn L (en - sz) en := by
  rintro x p x1 x2 ⟨r, hr, a1, a2, a3⟩
  rcases seek_start h h1 h2 hk hr with b | ⟨b0, b1⟩ | ⟨b0, q, b1, b2, b3⟩
  · omega
  · have := he b0 r b1; omega
  · have h5 := he b0 q b1
    have h6 := h.2 q (List.mem_of_getElem? b1)
    omega
end Go.Proofs.YtbngjbmfkekdnaaGreatDoor

set_option linter.unusedVariables false
set_option linter.unusedSimpArgs false
namespace Go.Proofs.YtbngjbmfkekdnaaGreatDoor
open Go.RowKit
set_option maxRecDepth 100000
theorem down_any (n : Int) (w : World) (h0 : 0 ≤ n) (h1 : n ≤ 18446744073709551615) : Calls Tryz.prog 95 #[.int .u64 n] w fun e w' => e = .returned (.int .u64 (n - n % 4096)) ∧ w = w' := by
  have h2 : n % 4096 ≤ n := by omega
  go_enter Tryz.func95, Tryz.ntmps95
  go_wp2
  go_ret
  exact ⟨rfl, rfl⟩
/-- A size in whole pages, at least one. -/
def szOf (size : Int) : Int := max ((size + 4095) / 4096 * 4096) 4096
def belOf (below : Int) : Int := min below 274877906944 / 4096 * 4096
theorem szOf_facts (size : Int) (h0 : 0 ≤ size) (h1 : size ≤ 274877906944) : szOf size % 4096 = 0 ∧ 4096 ≤ szOf size ∧ szOf size ≤ 274877911040 := by unfold szOf; omega
theorem belOf_facts (below : Int) (h0 : 0 ≤ below) : belOf below % 4096 = 0 ∧ 0 ≤ belOf below ∧ belOf below ≤ 274877906944 := by unfold belOf; omega
theorem ups_any (n : Int) (w : World) (h0 : 0 ≤ n) (h1 : n ≤ 274877906944) : Calls Tryz.prog 94 #[.int .u64 n] w fun e w' => e = .returned (.int .u64 ((n + 4095) / 4096 * 4096)) ∧ w = w' := by
  have cd := fun W => down_any (n + 4095) W (by omega) (by omega)
  have he : n + 4095 - (n + 4095) % 4096 = (n + 4095) / 4096 * 4096 := by omega
  rw [he] at cd
  clear he
  have CD := Lib.hid cd; clear cd
  have he2 : n + 4096 - 1 = n + 4095 := by omega
  have HE2 := Lib.hid he2; clear he2
  go_enter Tryz.func94, Tryz.ntmps94
  go_wp2_with fail
  (try rw [HE2.out])
  refine (CD.out _).mono ?_
  rintro e w' ⟨rfl, rfl⟩
  go_wp2_with fail
  go_ret
  exact ⟨rfl, rfl⟩
def boxN (w : World) (b : Nat) : Nat := match w.cell? ⟨b, 0, none⟩ with | some (.int _ n) => n.toNat | _ => 0
theorem boxN_of {w : World} {b : Nat} {k : IntKind} {n : Int} (h : w.cell? ⟨b, 0, none⟩ = some (.int k n)) : boxN w b = n.toNat := by unfold boxN; rw [h]
def RoomPost (w : World) (L : List Rg) (sz bel : Int) (e : Ending) (w' : World) : Prop := ∃ x ok, e = .returned (.tuple #[.int .u64 x, .bool ok]) ∧ RoomIs L sz bel x ok ∧ Bl w w'
structure RM (w : World) (L : List Rg) (sz bel : Int) (be : Nat) (en : Int) (wr : World) : Prop where
  box : wr.heap[be]? = some (.cells #[.int .u64 en] 29 (0, 0))
  al : en % 4096 = 0
  pos : 0 ≤ en
  le : en ≤ bel
  no : NoRoom L sz bel en
  bl : Bl w wr
theorem room_far {w : World} {b : Nat} (size below : Int) (h : 274877906944 < size) : Calls Tryz.prog 53 #[addr0 b, .int .u64 size, .int .u64 below] w fun e w' => e = .returned (.tuple #[.int .u64 0, .bool false]) ∧ Bl w w' := by
  unfold addr0
  go_enter Tryz.func53, Tryz.ntmps53
  go_wp2
  go_ret2
  exact ⟨rfl, Bl.refl _⟩
set_option maxHeartbeats 4000000 in
theorem room_any {X : Ctx} {w : World} {b : Nat} {L : List Rg} (h : ListAt X w b L) (hrs : Rs L) (hl : L.length ≤ 256) (size below : Int) (h0 : 0 ≤ size) (h1 : size ≤ 274877906944) (h2 : 0 ≤ below) (h3 : below ≤ 18446744073709551615) :
    Calls Tryz.prog 53 #[addr0 b, .int .u64 size, .int .u64 below] w (RoomPost w L (szOf size) (belOf below)) := by
  have hmf : ∀ (fn : Fn) (first cap : Array Value) (w : World), (Instr.makeFunc fn first cap).run Tryz.prog w = .ok (.func fn first cap) w := fun _ _ _ _ => rfl
  obtain ⟨z1, z2, z3⟩ := szOf_facts size h0 h1
  obtain ⟨y1, y2, y3⟩ := belOf_facts below h2
  have cu := fun W => ups_any size W h0 h1
  obtain ⟨u, hu⟩ : ∃ u, u = (size + 4095) / 4096 * 4096 := ⟨_, rfl⟩
  simp only [← hu] at cu
  have mx : ∀ ts t W, (Builtin.max_ ts t #[.int .u64 u, .int .u64 4096]).run Tryz.prog W = .ok (.int .u64 (szOf size)) W := fun ts t W => by
    rw [max_run]; congr 2; unfold szOf; rw [← hu]; omega
  obtain ⟨mB, hmB⟩ : ∃ mB, mB = min below 274877906944 := ⟨_, rfl⟩
  have mn : ∀ ts t W, (Builtin.min_ ts t #[.int .u64 below, .int .u64 274877906944]).run Tryz.prog W = .ok (.int .u64 mB) W := fun ts t W => by
    rw [min_run]; congr 2; rw [hmB]; omega
  have cd := fun W => down_any mB W (by omega) (by omega)
  have hbe : mB - mB % 4096 = belOf below := by unfold belOf; rw [← hmB]; omega
  simp only [hbe] at cd
  clear hbe hmB hu
  have CU := Lib.hid cu; clear cu
  have CD := Lib.hid cd; clear cd
  have HH := Lib.hid h; clear h
  have HRS := Lib.hid hrs; clear hrs
  have HL := Lib.hid hl; clear hl
  generalize szOf size = sz at *
  generalize belOf below = bel at *
  have Z1 := Lib.hid z1; clear z1
  have Y1 := Lib.hid y1; clear y1
  unfold addr0
  go_enter Tryz.func53, Tryz.ntmps53
  go_wp2_with fail
  refine (CU.out _).mono ?_
  rintro e w' ⟨rfl, rfl⟩
  go_wp2_with fail
  refine (CD.out _).mono ?_
  rintro e w' ⟨rfl, rfl⟩
  clear CU CD mx mn
  go_wp2_with fail
  have hrm : RM w L sz bel w.heap.size bel (w.alloc (.cells #[.int .u64 bel] 29)) := ⟨heap_alloc_new w _, Y1.out, y2, Int.le_refl _, NoRoom.start _ _ _, Bl.new _ _⟩
  have HRM := Lib.hid hrm; clear hrm
  obtain ⟨be, hbe⟩ : ∃ be, be = w.heap.size := ⟨_, rfl⟩
  rw [← hbe] at HRM ⊢
  have HBE := Lib.hid hbe; clear hbe
  generalize w.alloc (.cells #[.int .u64 bel] 29) = W0 at *
  go_loopw [9] (fun _ wr => ∃ en, RM w L sz bel be en wr) (fun _ wr => boxN wr be)
  case atStart => exact ⟨bel, HRM.out⟩
  case round =>
    obtain ⟨en, hrm⟩ := hrel
    clear HRM
    have bc : wr.cell? ⟨be, 0, none⟩ = some (.int .u64 en) := by rw [cell_of_row wr be 0 _ 29 (0, 0) hrm.box]; rfl
    have hN := boxN_of bc
    have e1 := hrm.pos
    have e2 := hrm.le
    have HRM := Lib.hid hrm; clear hrm
    have HNN := Lib.hid hN; clear hN
    by_cases hge : 4096 + sz ≤ en
    · have cs := seek_47 (HH.out.bl HRM.out.bl) bc (fun r W hW => is47_any r be en W hW) (by have := HL.out; omega)
      unfold asks addr0 at cs
      have CS := Lib.hid cs; clear cs
      have hwr : IntKind.u64.wrap (en - sz) = en - sz := IntWalk.u64_in _ (by omega)
      go_wp2_with fail
      refine CS.out.mono ?_
      rintro e w1 ⟨k, rfl, k1, k2, k3, k4⟩
      have hL1 := (HH.out.bl HRM.out.bl).bl k4
      have bc1 := k4.cell' bc
      have hbox1 := k4.at_ HRM.out.box
      have hbl1 := HRM.out.bl.trans k4
      clear CS k4 bc
      have q1 : 0 < k → ∀ r, L[k - 1]? = some r → r.s < en := fun hk r hr => by have := k2 hk r hr; simpa using this
      have q2 : ∀ r, L[k]? = some r → en ≤ r.s := fun r hr => by have := k3 r hr; simpa using this
      obtain ⟨v, hb, hr⟩ := hL1
      obtain ⟨A, cap, rfl⟩ := hr.shape
      have hcell : w1.cell? ⟨b, 0, none⟩ = some (.slice A L.length cap) := by rw [cell_of_row w1 b 0 _ _ (0, 0) hb]; simp
      have Q1 := Lib.hid q1; clear q1 k2
      have Q2 := Lib.hid q2; clear q2 k3
      have K1 := Lib.hid k1; clear k1
      have HR := Lib.hid hr; clear hr hb
      have HBX := Lib.hid hbox1; clear hbox1
      have HBL1 := Lib.hid hbl1; clear hbl1
      obtain ⟨n, hn⟩ : ∃ n, n = L.length := ⟨_, rfl⟩
      rw [← hn] at hcell HR K1
      have hnI : (n : Int) ≤ 256 := by have := HL.out; omega
      have HN := Lib.hid hn; clear hn
      have hkn := K1.out
      have hknI : (k : Int) ≤ (n : Int) := by omega
      clear hkn
      rcases k with _ | j
      · have hfr : FreeIn L (en - sz) en := free_room HRS.out.nm.so (fun h => absurd h (by omega)) Q2.out (by omega) (fun h => absurd h (by omega))
        have hp : RoomPost w L sz bel (.returned (.tuple #[.int .u64 (en - sz), .bool true])) w1 := ⟨_, _, rfl, room_yes HRM.out.no HRM.out.al Z1.out e2 hge hfr, HBL1.out⟩
        have HP : Hid (∀ q, RoomPost w L sz bel (.returned (.tuple #[.int .u64 (en - sz), .bool true])) (w1.drewN q)) := Lib.hid fun q => ⟨_, _, rfl, room_yes HRM.out.no HRM.out.al Z1.out e2 hge hfr, HBL1.out.drewN q⟩
        clear hp hfr
        go_wp2_with fail
        go_quiet (fail)
        go_wp2_with fail
        go_ret2
        exact HP.out _
      · have hjL : j < L.length := by have := HN.out; omega
        obtain ⟨r, hrj⟩ : ∃ r, L[j]? = some r := ⟨L[j], List.getElem?_eq_getElem hjL⟩
        have hne : L ≠ [] := by intro e; rw [e] at hjL; simp at hjL
        obtain ⟨g, cap', cur, hA, _, hnc, hg, _⟩ := HR.out.form hne
        have hA' : A = some ⟨g, 0, none⟩ := by injection hA
        subst hA'
        obtain ⟨c0, c1, c2⟩ := row_cells HR.out j r hrj
        clear hA hnc hg hne
        obtain ⟨r1, r2, r3⟩ := HRS.out.nm.2 r (List.mem_of_getElem? hrj)
        obtain ⟨ra, rb⟩ := HRS.out.al r (List.mem_of_getElem? hrj)
        have rlt : r.s < en := Q1.out (by omega) r hrj
        have RA := Lib.hid ra; clear ra rb
        have hjn : (j : Int) < (n : Int) := by have := HN.out; omega
        have hj0 : (0 : Int) ≤ (j : Int) := by omega
        have hjI : (j : Int) ≤ 256 := by omega
        have wj : IntKind.i64.wrap (j : Int) = (j : Int) := IntWalk.i64_in _ (by omega)
        have tj : ((j : Int) + 1 == 0) = false := by simp; omega
        have HRJ := Lib.hid hrj; clear hrj
        by_cases hfit : r.e ≤ en - sz
        · have hfr : FreeIn L (en - sz) en := free_room HRS.out.nm.so Q1.out Q2.out (by have := HN.out; omega) (fun _ r' hr' => by
            rw [Nat.add_sub_cancel, HRJ.out] at hr'; cases hr'; exact hfit)
          have HP : Hid (∀ q, RoomPost w L sz bel (.returned (.tuple #[.int .u64 (en - sz), .bool true])) (w1.drewN q)) := Lib.hid fun q => ⟨_, _, rfl, room_yes HRM.out.no HRM.out.al Z1.out e2 hge hfr, HBL1.out.drewN q⟩
          clear hfr
          go_wp2_with fail
          go_quiet (fail)
          go_wp2_with fail
          go_ret2
          exact HP.out _
        · have hfit2 : en - sz < r.e := by omega
          have hfz : w1.frozen? ⟨be, 0, none⟩ = false := by simp [World.frozen?, HBX.out]
          have hdn := HRM.out.no.down (by omega) (List.mem_of_getElem? HRJ.out) r2 hfit2
          have HRM2 : Hid (∀ q, RM w L sz bel be r.s ((w1.drewN q).setCell ⟨be, 0, none⟩ (.int .u64 r.s))) := Lib.hid fun q => ⟨heap_setCell_same (w1.drewN q) be 0 _ 29 _ HBX.out, RA.out, r1, by omega, hdn, (HBL1.out.drewN q).set (by rw [HBE.out]; exact Nat.le_refl _) _⟩
          clear hdn
          go_wp2_with fail
          go_quiet (fail)
          go_wp2_with fail
          refine ⟨⟨r.s, HRM2.out _⟩, ?_⟩
          have hb2 : boxN ((w1.drewN nq).setCell ⟨be, 0, none⟩ (.int .u64 r.s)) be = r.s.toNat := boxN_of (k := .u64) (by rw [cell_of_row _ be 0 _ 29 (0, 0) (HRM2.out nq).box]; rfl)
          rw [hb2, HNN.out]
          omega
    · have hp : RoomPost w L sz bel (.returned (.tuple #[.int .u64 0, .bool false])) wr := ⟨_, _, rfl, room_no HRM.out.no (by omega), HRM.out.bl⟩
      have HP := Lib.hid hp; clear hp
      have hlt : en < 4096 + sz := by omega
      go_wp2_with fail
      go_ret2
      exact HP.out
end Go.Proofs.YtbngjbmfkekdnaaGreatDoor

set_option linter.unusedVariables false
namespace Go.Proofs.YtbngjbmfkekdnaaGreatDoor
open Go.RowKit
set_option maxRecDepth 100000
theorem law27 : Maps.Keyed Tryz.prog 29 := Maps.int_keyed Tryz.underlying29
theorem zero44 (w : World) : (zeroValue 103).run Tryz.prog w = .ok (.pointer none) w := by kernel_rfl
theorem zero27 (w : World) : (zeroValue 29).run Tryz.prog w = .ok (.int .u64 0) w := by kernel_rfl
def zeros : Array Value := (asBytes (List.replicate 4096 0)).toArray
theorem info53 : (Tryz.prog.info? 138).map (fun i => (i.zero, i.size)) = some (some (.agg zeros), 4096) := by kernel_rfl
theorem infoByte : (Tryz.prog.info? 5).map (fun i => (i.zero, i.size, i.bytes)) = some (some (.int .u8 0), 1, 1) := by kernel_rfl
theorem sizeByte : (Tryz.prog.info? 5).map (·.size) = some 1 := by kernel_rfl
end Go.Proofs.YtbngjbmfkekdnaaGreatDoor
