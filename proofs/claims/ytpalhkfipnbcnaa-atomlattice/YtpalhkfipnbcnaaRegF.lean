/-
  sort.Search over regions; seek; At; First; Free.
-/
import Derived.Test.YtpalhkfipnbcnaaRegE
set_option linter.unusedVariables false
set_option linter.unusedSimpArgs false
namespace Go.Proofs.Ytpalhkfipnbcnaa
open Go.RowKit
set_option maxRecDepth 100000
/-- What a search finds. -/
def SeekPost (w : World) (L : List Rg) (q : Rg → Bool) (e : Ending) (w' : World) : Prop := ∃ k : Nat, e = .returned (.int .i64 (k : Int)) ∧ k ≤ L.length ∧ (0 < k → ∀ r, L[k - 1]? = some r → q r = false) ∧ (∀ r, L[k]? = some r → q r = true) ∧ Bl w w'
structure SR (w : World) (L : List Rg) (q : Rg → Bool) (i j : Nat) (wr : World) : Prop where
  le : i ≤ j
  top : j ≤ L.length
  low : 0 < i → ∀ r, L[i - 1]? = some r → q r = false
  high : j < L.length → ∀ r, L[j]? = some r → q r = true
  bl : Bl w wr
set_option maxHeartbeats 4000000 in
theorem search_any {w : World} {bi bl : Nat} {L : List Rg} {q : Rg → Bool} (n : Nat) (hn : n = L.length) (hl : n ≤ 1000)
    (hc : ∀ W, Bl w W → ∀ (k : Nat) r, L[k]? = some r → Calls Try.prog 92 #[.int .i64 (k : Int), .pointer (some ⟨bi, 0, none⟩), .pointer (some ⟨bl, 0, none⟩)] W (BoolPost W (q r))) :
    Calls Try.prog 91 #[.int .i64 (n : Int), .func (.func 92) #[] #[.pointer (some ⟨bi, 0, none⟩), .pointer (some ⟨bl, 0, none⟩)]] w (SeekPost w L q) := by
  have HC := Lib.hid hc; clear hc
  have HN := Lib.hid hn; clear hn
  have hlI : (n : Int) ≤ 1000 := by omega
  go_enter Try.func91, Try.ntmps91
  go_wp2_with fail
  go_loopw [5, 6, 7] (fun v5 v6 _ wr => ∃ i j : Nat, v5 = .int .i64 i ∧ v6 = .int .i64 j ∧ SR w L q i j wr) (fun v5 v6 _ _ => (intOf v6).toNat - (intOf v5).toNat)
  case atStart => exact ⟨0, n, rfl, rfl, ⟨by omega, by rw [HN.out]; omega, fun h => absurd h (by omega), fun h => absurd h (by rw [HN.out]; omega), Bl.refl _⟩⟩
  case round =>
    obtain ⟨i, j, rfl, rfl, hsr⟩ := hrel
    have hij := hsr.le
    have hjn := hsr.top
    rw [← HN.out] at hjn
    have HSR := Lib.hid hsr; clear hsr
    have hijI : (i : Int) ≤ (j : Int) := by omega
    have hjI : (j : Int) ≤ 1000 := by omega
    have hi0 : (0 : Int) ≤ (i : Int) := by omega
    by_cases hlt : i < j
    · obtain ⟨m, hm⟩ : ∃ m : Nat, m = (i + j) / 2 := ⟨_, rfl⟩
      have hmI : ((i : Int) + (j : Int)) / 2 = (m : Int) := by omega
      have hm1 : i ≤ m := by omega
      have hm2 : m < j := by omega
      have hmL : m < L.length := by have := HN.out; omega
      have hgm : L[m]? = some L[m] := List.getElem?_eq_getElem hmL
      have cc := fun W hW => HC.out W hW m L[m] hgm
      obtain ⟨qm, hqm⟩ : ∃ qm, qm = q L[m] := ⟨_, rfl⟩
      simp only [← hqm] at cc
      have CC := Lib.hid cc; clear cc
      have HGM := Lib.hid hgm; clear hgm
      have HQM := Lib.hid hqm; clear hqm
      have HMI := Lib.hid hmI; clear hmI hm
      have hltI : (i : Int) < (j : Int) := by omega
      go_wp2_with fail
      rw [HMI.out]
      with_reducible refine (CC.out _ HSR.out.bl).mono ?_
      rintro e w1 ⟨rfl, k1⟩
      have K1 := Lib.hid (HSR.out.bl.trans k1); clear k1
      rcases qm with _ | _
      · have hsr2 : SR w L q (m + 1) j w1 := ⟨by omega, HSR.out.top, fun _ r hr => by
          rw [Nat.add_sub_cancel, HGM.out] at hr; cases hr; exact HQM.out.symm, HSR.out.high, K1.out⟩
        have HSR2 := Lib.hid hsr2; clear hsr2
        go_wp2_with fail
        refine ⟨⟨m + 1, j, by go_num, rfl, HSR2.out⟩, ?_⟩
        simp only [intOf]; omega
      · have hsr2 : SR w L q i m w1 := ⟨hm1, by have := HSR.out.top; omega, HSR.out.low, fun _ r hr => by
          rw [HGM.out] at hr; cases hr; exact HQM.out.symm, K1.out⟩
        have HSR2 := Lib.hid hsr2; clear hsr2
        go_wp2_with fail
        refine ⟨⟨i, m, rfl, rfl, HSR2.out⟩, ?_⟩
        simp only [intOf]; omega
    · obtain rfl : i = j := by omega
      have hpost : SeekPost w L q (.returned (.int .i64 (i : Int))) wr := ⟨i, rfl, HSR.out.top, HSR.out.low, fun r hr => HSR.out.high (List.getElem?_eq_some_iff.1 hr).1 r hr, HSR.out.bl⟩
      have HP := Lib.hid hpost; clear hpost
      go_wp2_with fail
      go_ret
      exact HP.out
set_option maxHeartbeats 1000000 in
theorem seek_42 {X : Ctx} {w : World} {b c : Nat} {L : List Rg} {x : Int} {q : Rg → Bool} (h : ListAt X w b L) (hx : w.cell? ⟨c, 0, none⟩ = some (.int .u64 x)) (hq : Ask 95 c x q) (hl : L.length ≤ 1000) :
    Calls Try.prog 75 #[addr0 b, asks 95 c] w (SeekPost w L q) := by
  have hmf : ∀ (fn : Fn) (first cap : Array Value) (w : World), (Instr.makeFunc fn first cap).run Try.prog w = .ok (.func fn first cap) w := fun _ _ _ _ => rfl
  have hk : Bl w ((w.alloc (.cells #[addr0 b] 107)).alloc (.cells #[asks 95 c] 118)) := (Bl.new w _).alloc _
  have hsk : Seek X ((w.alloc (.cells #[addr0 b] 107)).alloc (.cells #[asks 95 c] 118)) b (w.heap.size + 1) w.heap.size c 95 x L := by
    refine ⟨h.bl hk, ?_, ?_, hk.cell' hx⟩
    · have := heap_alloc_new (w.alloc (.cells #[addr0 b] 107)) (.cells #[asks 95 c] 118)
      rw [show (w.alloc (.cells #[addr0 b] 107)).heap.size = w.heap.size + 1 by simp] at this
      rw [cell_of_row _ _ 0 _ 118 (0, 0) this]; rfl
    · exact (Bl.new (w.alloc (.cells #[addr0 b] 107)) (.cells #[asks 95 c] 118)).cell' (by rw [cell_of_row _ _ 0 _ 107 (0, 0) (heap_alloc_new w _)]; rfl)
  obtain ⟨v, hb, hr⟩ := h
  obtain ⟨A, cap, rfl⟩ := hr.shape
  have hcell : w.cell? ⟨b, 0, none⟩ = some (.slice A L.length cap) := by rw [cell_of_row w b 0 _ _ (0, 0) hb]; simp
  have hblt := lt_at hb
  have cs := search_any (w := (w.alloc (.cells #[addr0 b] 107)).alloc (.cells #[asks 95 c] 118)) (bi := w.heap.size + 1) (bl := w.heap.size) (L := L) (q := q) L.length rfl hl (fun W hW k r hkr => seek1_42 (hsk.bl hW) hq k r hkr hl)
  have CS := Lib.hid cs; clear cs hsk hr hb hx hq
  have HK := Lib.hid hk; clear hk hl
  unfold addr0 asks at *
  go_enter Try.func75, Try.ntmps75
  go_wp2_with fail
  refine CS.out.mono ?_
  rintro e w' ⟨k, rfl, h1, h2, h3, h4⟩
  have hp : SeekPost w L q (.returned (.int .i64 (k : Int))) w' := ⟨k, rfl, h1, h2, h3, HK.out.trans h4⟩
  have HP := Lib.hid hp; clear hp h1 h2 h3 h4
  go_wp2_with fail
  go_ret
  exact HP.out
set_option maxHeartbeats 1000000 in
theorem seek_44 {X : Ctx} {w : World} {b c : Nat} {L : List Rg} {x : Int} {q : Rg → Bool} (h : ListAt X w b L) (hx : w.cell? ⟨c, 0, none⟩ = some (.int .u64 x)) (hq : Ask 76 c x q) (hl : L.length ≤ 1000) :
    Calls Try.prog 75 #[addr0 b, asks 76 c] w (SeekPost w L q) := by
  have hmf : ∀ (fn : Fn) (first cap : Array Value) (w : World), (Instr.makeFunc fn first cap).run Try.prog w = .ok (.func fn first cap) w := fun _ _ _ _ => rfl
  have hk : Bl w ((w.alloc (.cells #[addr0 b] 107)).alloc (.cells #[asks 76 c] 118)) := (Bl.new w _).alloc _
  have hsk : Seek X ((w.alloc (.cells #[addr0 b] 107)).alloc (.cells #[asks 76 c] 118)) b (w.heap.size + 1) w.heap.size c 76 x L := by
    refine ⟨h.bl hk, ?_, ?_, hk.cell' hx⟩
    · have := heap_alloc_new (w.alloc (.cells #[addr0 b] 107)) (.cells #[asks 76 c] 118)
      rw [show (w.alloc (.cells #[addr0 b] 107)).heap.size = w.heap.size + 1 by simp] at this
      rw [cell_of_row _ _ 0 _ 118 (0, 0) this]; rfl
    · exact (Bl.new (w.alloc (.cells #[addr0 b] 107)) (.cells #[asks 76 c] 118)).cell' (by rw [cell_of_row _ _ 0 _ 107 (0, 0) (heap_alloc_new w _)]; rfl)
  obtain ⟨v, hb, hr⟩ := h
  obtain ⟨A, cap, rfl⟩ := hr.shape
  have hcell : w.cell? ⟨b, 0, none⟩ = some (.slice A L.length cap) := by rw [cell_of_row w b 0 _ _ (0, 0) hb]; simp
  have hblt := lt_at hb
  have cs := search_any (w := (w.alloc (.cells #[addr0 b] 107)).alloc (.cells #[asks 76 c] 118)) (bi := w.heap.size + 1) (bl := w.heap.size) (L := L) (q := q) L.length rfl hl (fun W hW k r hkr => seek1_44 (hsk.bl hW) hq k r hkr hl)
  have CS := Lib.hid cs; clear cs hsk hr hb hx hq
  have HK := Lib.hid hk; clear hk hl
  unfold addr0 asks at *
  go_enter Try.func75, Try.ntmps75
  go_wp2_with fail
  refine CS.out.mono ?_
  rintro e w' ⟨k, rfl, h1, h2, h3, h4⟩
  have hp : SeekPost w L q (.returned (.int .i64 (k : Int))) w' := ⟨k, rfl, h1, h2, h3, HK.out.trans h4⟩
  have HP := Lib.hid hp; clear hp h1 h2 h3 h4
  go_wp2_with fail
  go_ret
  exact HP.out
set_option maxHeartbeats 1000000 in
theorem seek_47 {X : Ctx} {w : World} {b c : Nat} {L : List Rg} {x : Int} {q : Rg → Bool} (h : ListAt X w b L) (hx : w.cell? ⟨c, 0, none⟩ = some (.int .u64 x)) (hq : Ask 79 c x q) (hl : L.length ≤ 1000) :
    Calls Try.prog 75 #[addr0 b, asks 79 c] w (SeekPost w L q) := by
  have hmf : ∀ (fn : Fn) (first cap : Array Value) (w : World), (Instr.makeFunc fn first cap).run Try.prog w = .ok (.func fn first cap) w := fun _ _ _ _ => rfl
  have hk : Bl w ((w.alloc (.cells #[addr0 b] 107)).alloc (.cells #[asks 79 c] 118)) := (Bl.new w _).alloc _
  have hsk : Seek X ((w.alloc (.cells #[addr0 b] 107)).alloc (.cells #[asks 79 c] 118)) b (w.heap.size + 1) w.heap.size c 79 x L := by
    refine ⟨h.bl hk, ?_, ?_, hk.cell' hx⟩
    · have := heap_alloc_new (w.alloc (.cells #[addr0 b] 107)) (.cells #[asks 79 c] 118)
      rw [show (w.alloc (.cells #[addr0 b] 107)).heap.size = w.heap.size + 1 by simp] at this
      rw [cell_of_row _ _ 0 _ 118 (0, 0) this]; rfl
    · exact (Bl.new (w.alloc (.cells #[addr0 b] 107)) (.cells #[asks 79 c] 118)).cell' (by rw [cell_of_row _ _ 0 _ 107 (0, 0) (heap_alloc_new w _)]; rfl)
  obtain ⟨v, hb, hr⟩ := h
  obtain ⟨A, cap, rfl⟩ := hr.shape
  have hcell : w.cell? ⟨b, 0, none⟩ = some (.slice A L.length cap) := by rw [cell_of_row w b 0 _ _ (0, 0) hb]; simp
  have hblt := lt_at hb
  have cs := search_any (w := (w.alloc (.cells #[addr0 b] 107)).alloc (.cells #[asks 79 c] 118)) (bi := w.heap.size + 1) (bl := w.heap.size) (L := L) (q := q) L.length rfl hl (fun W hW k r hkr => seek1_47 (hsk.bl hW) hq k r hkr hl)
  have CS := Lib.hid cs; clear cs hsk hr hb hx hq
  have HK := Lib.hid hk; clear hk hl
  unfold addr0 asks at *
  go_enter Try.func75, Try.ntmps75
  go_wp2_with fail
  refine CS.out.mono ?_
  rintro e w' ⟨k, rfl, h1, h2, h3, h4⟩
  have hp : SeekPost w L q (.returned (.int .i64 (k : Int))) w' := ⟨k, rfl, h1, h2, h3, HK.out.trans h4⟩
  have HP := Lib.hid hp; clear hp h1 h2 h3 h4
  go_wp2_with fail
  go_ret
  exact HP.out
end Go.Proofs.Ytpalhkfipnbcnaa
