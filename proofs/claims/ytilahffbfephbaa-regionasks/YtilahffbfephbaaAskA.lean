/-
  What is asked of a space: at, prot, First; first, page by page.
-/
import Derived.Test.YtilahffbfephbaaRefF
import Derived.Deep.Cut
import Derived.IntWalk
set_option linter.unusedVariables false
set_option linter.unusedSimpArgs false
namespace Go.Proofs.Ytilahffbfephbaa
open Go.RowKit
set_option maxRecDepth 100000
structure AR (P : List Pg) (no : Int) (i j : Nat) : Prop where
  le : i ≤ j
  top : j ≤ P.length
  low : 0 < i → ∀ x, P[i - 1]? = some x → x.no < no
  high : ∀ x, P[j]? = some x → no ≤ x.no
theorem AR.found {P : List Pg} {no : Int} {i : Nat} (h : AR P no i i) (hp : Pgs 100 P) {x : Pg} (hx : x ∈ P) (hn : x.no = no) : P[i]? = some x := by
  obtain ⟨m, hm, hmx⟩ := List.mem_iff_getElem.1 hx
  have hmx : P[m]? = some x := by rw [List.getElem?_eq_getElem hm, hmx]
  rcases Nat.lt_trichotomy m i with h1 | h1 | h1
  · exfalso
    have hi : i - 1 < P.length := by have := h.top; omega
    have h3 := h.low (by omega) P[i - 1] (List.getElem?_eq_getElem hi)
    by_cases h4 : m = i - 1
    · subst h4
      rw [List.getElem?_eq_getElem hi] at hmx
      cases hmx
      omega
    · have := List.pairwise_iff_getElem.1 hp.1 m (i - 1) hm hi (by omega)
      rw [List.getElem?_eq_getElem hm] at hmx
      cases hmx
      omega
  · subst h1; exact hmx
  · exfalso
    have hi : i < P.length := by omega
    have h3 := h.high P[i] (List.getElem?_eq_getElem hi)
    have := List.pairwise_iff_getElem.1 hp.1 i m hi hm h1
    rw [List.getElem?_eq_getElem hm] at hmx
    cases hmx
    omega
def AtSPost (w : World) (P : List Pg) (no : Int) (e : Ending) (w' : World) : Prop := ∃ (k : Nat) (ok : Bool), e = .returned (.tuple #[.int .i64 (k : Int), .bool ok]) ∧ k ≤ P.length ∧ (ok = true → ∃ x, P[k]? = some x ∧ x.no = no) ∧ (ok = false → ∀ x, x ∈ P → x.no ≠ no) ∧ Bl w w'
set_option maxHeartbeats 4000000 in
theorem rat_any {w : World} {sb : Nat} {P : List Pg} (h : SpaceAt w sb P) (hp : Pgs 100 P) (no : Int) : Calls Try.prog 53 #[addr0 sb, .int .u64 no] w (AtSPost w P no) := by
  obtain ⟨AS, capS, e0, _, hpr⟩ := h.cells
  have hn100 := hp.len
  have HP := Lib.hid hp; clear hp h
  have HPR := Lib.hid hpr; clear hpr
  obtain ⟨n, hn⟩ : ∃ n, n = P.length := ⟨_, rfl⟩
  rw [← hn] at e0 HPR hn100
  have hnI : (n : Int) ≤ 100 := by omega
  have HN := Lib.hid hn; clear hn
  unfold addr0
  go_enter Try.func53, Try.ntmps53
  go_wp2_with fail
  go_loop [6, 7, 8] (fun v6 v7 _ => ∃ i j : Nat, v6 = .int .i64 i ∧ v7 = .int .i64 j ∧ AR P no i j) (fun v6 v7 _ => (intOf v7).toNat - (intOf v6).toNat)
  case atStart => exact ⟨0, n, rfl, rfl, ⟨by omega, by rw [HN.out]; omega, fun h => absurd h (by omega), fun x hx => by
    have h5 := (List.getElem?_eq_some_iff.1 hx).1
    have := HN.out
    omega⟩⟩
  case round =>
    obtain ⟨i, j, rfl, rfl, har⟩ := hrel
    have hij := har.le
    have hjn := har.top
    rw [← HN.out] at hjn
    have HAR := Lib.hid har; clear har
    have hijI : (i : Int) ≤ (j : Int) := by omega
    have hjI : (j : Int) ≤ 100 := by omega
    have hi0 : (0 : Int) ≤ (i : Int) := by omega
    by_cases hlt : i < j
    · obtain ⟨m, hm⟩ : ∃ m : Nat, m = (i + j) / 2 := ⟨_, rfl⟩
      have hmI : ((i : Int) + (j : Int)) / 2 = (m : Int) := by omega
      have hm1 : i ≤ m := by omega
      have hm2 : m < j := by omega
      have hmL : m < P.length := by have := HN.out; omega
      obtain ⟨x, hx⟩ : ∃ x, P[m]? = some x := ⟨P[m], List.getElem?_eq_getElem hmL⟩
      have hne : P ≠ [] := by intro e; rw [e] at hmL; simp at hmL
      obtain ⟨g, cap', cur, hA, _, hnc, hg, _⟩ := HPR.out.form hne
      have hA' : AS = some ⟨g, 0, none⟩ := by injection hA
      subst hA'
      obtain ⟨c0, c1, c2⟩ := prow_cells HPR.out m x hx
      clear hA hnc hg hne hmL c1 c2
      have HX := Lib.hid hx; clear hx
      have HMI := Lib.hid hmI; clear hmI hm
      have hltI : (i : Int) < (j : Int) := by omega
      have hmn : (m : Int) < (n : Int) := by omega
      have hm0 : (0 : Int) ≤ (m : Int) := by omega
      go_upto_region 5 with (fail)
      rw [HMI.out]
      by_cases hc : x.no < no
      · have har2 : AR P no (m + 1) j := ⟨by omega, HAR.out.top, fun _ y hy => by
          rw [Nat.add_sub_cancel, HX.out] at hy; cases hy; exact hc, HAR.out.high⟩
        have HAR2 := Lib.hid har2; clear har2
        go_wp2_with fail
        refine ⟨⟨m + 1, j, by go_num, rfl, HAR2.out⟩, ?_⟩
        simp only [intOf]; omega
      · have hc2 : no ≤ x.no := by omega
        have har2 : AR P no i m := ⟨hm1, by have := HAR.out.top; omega, HAR.out.low, fun y hy => by
          rw [HX.out] at hy; cases hy; exact hc2⟩
        have HAR2 := Lib.hid har2; clear har2
        go_wp2_with fail
        refine ⟨⟨i, m, rfl, rfl, HAR2.out⟩, ?_⟩
        simp only [intOf]; omega
    · obtain rfl : i = j := by omega
      have hiI : (i : Int) ≤ 100 := by omega
      by_cases hin : i < n
      · have hinL : i < P.length := by have := HN.out; omega
        obtain ⟨x, hx⟩ : ∃ x, P[i]? = some x := ⟨P[i], List.getElem?_eq_getElem hinL⟩
        have hne : P ≠ [] := by intro e; rw [e] at hinL; simp at hinL
        obtain ⟨g, cap', cur, hA, _, hnc, hg, _⟩ := HPR.out.form hne
        have hA' : AS = some ⟨g, 0, none⟩ := by injection hA
        subst hA'
        obtain ⟨c0, c1, c2⟩ := prow_cells HPR.out i x hx
        clear hA hnc hg hne hinL c1 c2
        have HX := Lib.hid hx; clear hx
        have hinI : (i : Int) < (n : Int) := by omega
        by_cases hq : x.no = no
        · have t1 : (x.no == no) = true := by simp [hq]
          have HPO : Hid (∀ q, AtSPost w P no (.returned (.tuple #[.int .i64 (i : Int), .bool true])) (w.drewN q)) := Lib.hid fun q => ⟨i, true, rfl, HAR.out.top, fun _ => ⟨x, HX.out, hq⟩, (fun h => by cases h), (Bl.refl w).drewN q⟩
          clear hq
          go_wp2_with fail
          go_quiet (fail)
          go_wp2_with fail
          go_ret2
          exact HPO.out _
        · have t1 : (x.no == no) = false := by simp [hq]
          have HPO : Hid (∀ q, AtSPost w P no (.returned (.tuple #[.int .i64 (i : Int), .bool false])) (w.drewN q)) := Lib.hid fun q => ⟨i, false, rfl, HAR.out.top, (fun h => by cases h), fun _ y hy hyn => by
            have := HAR.out.found HP.out hy hyn
            rw [HX.out] at this
            cases this
            exact hq hyn, (Bl.refl w).drewN q⟩
          clear hq
          go_wp2_with fail
          go_quiet (fail)
          go_wp2_with fail
          go_ret2
          exact HPO.out _
      · have hni : (n : Int) ≤ (i : Int) := by omega
        have HPO : Hid (∀ q, AtSPost w P no (.returned (.tuple #[.int .i64 (i : Int), .bool false])) (w.drewN q)) := Lib.hid fun q => ⟨i, false, rfl, HAR.out.top, (fun h => by cases h), fun _ y hy hyn => by
          have := HAR.out.found HP.out hy hyn
          have h5 := (List.getElem?_eq_some_iff.1 this).1
          have := HN.out
          omega, (Bl.refl w).drewN q⟩
        go_wp2_with fail
        go_quiet (fail)
        go_wp2_with fail
        go_ret2
        exact HPO.out _
def ProtPost (w : World) (P : List Pg) (a : Int) (e : Ending) (w' : World) : Prop := ∃ v : Int, e = .returned (.int .i64 v) ∧ ((OnP P a v) ∨ (v = -1 ∧ ∀ q, ¬ OnP P a q)) ∧ Bl w w'
set_option maxHeartbeats 2000000 in
theorem rprot_any {w : World} {sb : Nat} {P : List Pg} (h : SpaceAt w sb P) (hp : Pgs 100 P) (a : Int) (h0 : 0 ≤ a) (h1 : a ≤ 18446744073709551615) : Calls Try.prog 52 #[addr0 sb, .int .u64 a] w (ProtPost w P a) := by
  have HH := Lib.hid h; clear h
  have HP := Lib.hid hp; clear hp
  unfold addr0
  go_enter Try.func52, Try.ntmps52
  go_wp2_with fail
  refine (rat_any HH.out HP.out (a / 4096)).mono ?_
  rintro e w1 ⟨k, ok, rfl, hk, hy, hn, k1⟩
  have K1 := Lib.hid k1; clear k1
  rcases ok with _ | _
  · have hno := hn rfl
    have hp2 : ProtPost w P a (.returned (.int .i64 (-1))) w1 := ⟨-1, rfl, .inr ⟨rfl, fun q ⟨x, hx, b1, b2, b3⟩ => hno x hx (by omega)⟩, K1.out⟩
    have HPO := Lib.hid hp2; clear hp2 hno hy hn hk
    go_wp2_with fail
    go_ret
    exact HPO.out
  · obtain ⟨x, hx, hxn⟩ := hy rfl
    have hp2 : ProtPost w P a (.returned (.int .i64 x.p)) w1 := ⟨x.p, rfl, .inl ⟨x, List.mem_of_getElem? hx, by omega, by omega, rfl⟩, K1.out⟩
    have HPO := Lib.hid hp2; clear hp2 hy hn hxn
    obtain ⟨AS, capS, e0, _, hpr⟩ := (HH.out.bl K1.out).cells
    have hkL : k < P.length := (List.getElem?_eq_some_iff.1 hx).1
    have hne : P ≠ [] := by intro e; rw [e] at hkL; simp at hkL
    obtain ⟨g, cap', cur, hA, _, hnc, hg, _⟩ := hpr.form hne
    have hA' : AS = some ⟨g, 0, none⟩ := by injection hA
    subst hA'
    obtain ⟨c0, c1, c2⟩ := prow_cells hpr k x hx
    have hn100 := HP.out.len
    obtain ⟨n, hnn⟩ : ∃ n, n = P.length := ⟨_, rfl⟩
    rw [← hnn] at e0 hkL hn100
    clear hA hnc hg hne c0 c2 hpr hx hk hnn
    have hkI : (k : Int) < (n : Int) := by omega
    have hnI : (n : Int) ≤ 100 := by omega
    go_wp2_with fail
    go_ret
    exact HPO.out
/-- No prot below 0. -/
def NN (P : List Pg) : Prop := ∀ a q, OnP P a q → 0 ≤ q
def One (w : World) (P : List Pg) (p a : Int) (e : Ending) (w' : World) : Prop := ∃ x ok, e = .returned (.tuple #[.int .u64 x, .bool ok]) ∧ ((ok = true ∧ x = a ∧ ¬ Can (regs P) p a) ∨ (ok = false ∧ Can (regs P) p a)) ∧ Bl w w'
set_option maxHeartbeats 2000000 in
theorem rfirst_any {w : World} {sb : Nat} {P : List Pg} (h : SpaceAt w sb P) (hp : Pgs 100 P) (hnn : NN P) (a p : Int) (h0 : 0 ≤ a) (h1 : a ≤ 1000000) : Calls Try.prog 43 #[addr0 sb, .int .u64 a, .int .i64 1, .int .i64 p] w (One w P p a) := by
  have HH := Lib.hid h; clear h
  have HP := Lib.hid hp; clear hp
  have HNN := Lib.hid hnn; clear hnn
  unfold addr0
  go_enter Try.func43, Try.ntmps43
  go_wp2_with fail
  go_loopw [10, 11] (fun v10 _ wr => ∃ k : Nat, k ≤ 1 ∧ v10 = .int .i64 k ∧ Bl w wr ∧ (k = 1 → Can (regs P) p a)) (fun v10 _ _ => 1 - (intOf v10).toNat)
  case atStart => exact ⟨0, by omega, rfl, Bl.refl _, fun h => by omega⟩
  case round =>
    obtain ⟨k, hk, rfl, hbl, hc⟩ := hrel
    have HBL := Lib.hid hbl; clear hbl
    have HC := Lib.hid hc; clear hc
    by_cases hk0 : k = 0
    · subst hk0
      clear HC
      go_wp2_with fail
      refine (rprot_any (HH.out.bl HBL.out) HP.out a h0 (by omega)).mono ?_
      rintro e w1 ⟨v, rfl, hv, k1⟩
      have K1 := Lib.hid (HBL.out.trans k1); clear k1
      rcases hv with hv | ⟨rfl, hv⟩
      · have v0 := HNN.out a v hv
        by_cases hq : bits .and .i64 v p = p
        · have t1 : (bits .and .i64 v p == p) = true := by simp [hq]
          have t2 : (bits .and .i64 v p != p) = false := by simp [hq]
          have hcan : Can (regs P) p a := ⟨v, (regs_in HP.out a v).2 hv, hq⟩
          have HCAN := Lib.hid hcan; clear hcan hv hq
          go_wp2_with fail
          refine ⟨⟨1, by omega, by go_num, K1.out, fun _ => HCAN.out⟩, ?_⟩
          simp only [intOf]; omega
        · have t1 : (bits .and .i64 v p == p) = false := by simp [hq]
          have t2 : (bits .and .i64 v p != p) = true := by simp [hq]
          have hp2 : One w P p a (.returned (.tuple #[.int .u64 a, .bool true])) w1 := ⟨a, true, rfl, .inl ⟨rfl, rfl, fun ⟨q, h5, h6⟩ => hq (by
            have := (regs_rs HP.out).nm.so.one h5 ((regs_in HP.out a v).2 hv)
            rw [← this]; exact h6)⟩, K1.out⟩
          have HPO := Lib.hid hp2; clear hp2 hv hq
          go_wp2_with fail
          go_ret2
          exact HPO.out
      · have hp2 : One w P p a (.returned (.tuple #[.int .u64 a, .bool true])) w1 := ⟨a, true, rfl, .inl ⟨rfl, rfl, fun ⟨q, h5, h6⟩ => hv q ((regs_in HP.out a q).1 h5)⟩, K1.out⟩
        have HPO := Lib.hid hp2; clear hp2 hv
        go_wp2_with fail
        go_ret2
        exact HPO.out
    · obtain rfl : k = 1 := by omega
      have hp2 : One w P p a (.returned (.tuple #[.int .u64 0, .bool false])) wr := ⟨0, false, rfl, .inr ⟨rfl, HC.out rfl⟩, HBL.out⟩
      have HPO := Lib.hid hp2; clear hp2 hk0
      go_wp2_with fail
      go_ret2
      exact HPO.out
theorem can_page {P : List Pg} (hp : Pgs 100 P) {p a y : Int} (h : Can (regs P) p a) (hy : a / 4096 = y / 4096) : Can (regs P) p y := by
  obtain ⟨q, h1, h2⟩ := h
  obtain ⟨x, hx, b1, b2, b3⟩ := (regs_in hp a q).1 h1
  exact ⟨q, (regs_in hp y q).2 ⟨x, hx, by omega, by omega, b3⟩, h2⟩
set_option maxHeartbeats 2000000 in
theorem rfirsts_any {w : World} {sb : Nat} {P : List Pg} (h : SpaceAt w sb P) (hp : Pgs 100 P) (hnn : NN P) (s t p : Int) (h0 : 0 ≤ s) (h1 : s ≤ 500000) (ht0 : 0 ≤ t) (ht : t ≤ 500000) : Calls Try.prog 27 #[addr0 sb, .int .u64 s, .int .u64 t, .int .i64 p] w (FirstPost w (regs P) s t p) := by
  have HH := Lib.hid h; clear h
  have HP := Lib.hid hp; clear hp
  have HNN := Lib.hid hnn; clear hnn
  unfold addr0
  go_enter Try.func27, Try.ntmps27
  go_wp2_with fail
  go_loopw [10, 11, 12] (fun v10 _ _ wr => ∃ a : Int, v10 = .int .u64 a ∧ s ≤ a ∧ a ≤ 505000 ∧ (∀ y, s ≤ y → y < a → Can (regs P) p y) ∧ Bl w wr) (fun v10 _ _ _ => (t - intOf v10).toNat)
  case atStart => exact ⟨s, rfl, by omega, by omega, fun y y1 y2 => absurd y2 (by omega), Bl.refl _⟩
  case round =>
    obtain ⟨a, rfl, a1, a2, hall, hbl⟩ := hrel
    have HALL := Lib.hid hall; clear hall
    have HBL := Lib.hid hbl; clear hbl
    by_cases hat : a < t
    · go_wp2_with fail
      refine (rfirst_any (HH.out.bl HBL.out) HP.out HNN.out a p (by omega) (by omega)).mono ?_
      rintro e w1 ⟨x, ok, rfl, hx, k1⟩
      have K1 := Lib.hid (HBL.out.trans k1); clear k1
      rcases hx with ⟨rfl, rfl, hno⟩ | ⟨rfl, hcan⟩
      · have hp2 : FirstPost w (regs P) s t p (.returned (.tuple #[.int .u64 x, .bool true])) w1 := ⟨x, true, rfl, .inl ⟨rfl, a1, hat, hno, HALL.out⟩, K1.out⟩
        have HPO := Lib.hid hp2; clear hp2 hno
        go_wp2_with fail
        go_ret2
        exact HPO.out
      · have hall2 : ∀ y, s ≤ y → y < a / 4096 * 4096 + 4096 → Can (regs P) p y := fun y y1 y2 => by
          by_cases hy : y < a
          · exact HALL.out y y1 hy
          · exact can_page HP.out hcan (by omega)
        have HALL2 := Lib.hid hall2; clear hall2 hcan
        have ha0 : 0 ≤ a := by omega
        go_wp2_with fail
        refine ⟨⟨a / 4096 * 4096 + 4096, rfl, by omega, by omega, HALL2.out, K1.out⟩, ?_⟩
        simp only [intOf]; omega
    · have hp2 : FirstPost w (regs P) s t p (.returned (.tuple #[.int .u64 0, .bool false])) wr := ⟨0, false, rfl, .inr ⟨rfl, rfl, fun y y1 y2 => HALL.out y y1 (by omega)⟩, HBL.out⟩
      have HPO := Lib.hid hp2; clear hp2
      have hat2 : t ≤ a := by omega
      go_wp2_with fail
      go_ret2
      exact HPO.out
theorem first_unique {L : List Rg} {s t p x x' : Int} {ok ok' : Bool} (h : (ok = true ∧ s ≤ x ∧ x < t ∧ ¬ Can L p x ∧ ∀ y, s ≤ y → y < x → Can L p y) ∨ (ok = false ∧ x = 0 ∧ ∀ y, s ≤ y → y < t → Can L p y))
    (k : (ok' = true ∧ s ≤ x' ∧ x' < t ∧ ¬ Can L p x' ∧ ∀ y, s ≤ y → y < x' → Can L p y) ∨ (ok' = false ∧ x' = 0 ∧ ∀ y, s ≤ y → y < t → Can L p y)) : x = x' ∧ ok = ok' := by
  rcases h with ⟨rfl, a1, a2, a3, a4⟩ | ⟨rfl, rfl, a1⟩ <;> rcases k with ⟨rfl, b1, b2, b3, b4⟩ | ⟨rfl, rfl, b1⟩
  · refine ⟨?_, rfl⟩
    rcases Int.lt_trichotomy x x' with h | h | h
    · exact absurd (b4 x a1 h) a3
    · exact h
    · exact absurd (a4 x' b1 h) b3
  · exact absurd (b1 x a1 a2) a3
  · exact absurd (a1 x' b1 b2) b3
  · exact ⟨rfl, rfl⟩
end Go.Proofs.Ytilahffbfephbaa
