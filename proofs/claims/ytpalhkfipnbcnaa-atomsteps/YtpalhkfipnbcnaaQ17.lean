/-
  A space of the reference: prot, get, set.
  A space of the reference: First, Bytes, Lays, Load, Probe, Store.
  A space of the reference: Lays, Load, Probe, Store.
-/
import Derived.Test.YtpalhkfipnbcnaaQ16
import Derived.Test.YtpalhkfipnbcnaaQ12
set_option linter.unusedVariables false
set_option linter.unusedSimpArgs false
namespace Go.Proofs.Ytpalhkfipnbcnaa
open Go.RowKit
set_option maxRecDepth 100000
/-- What may be done at a place; -1: it is not mapped. -/
def RProtIs (P : List Pg) (a q : Int) : Prop := OnP P a q ∨ ((∀ q', ¬ OnP P a q') ∧ q = -1)
theorem at_on {P : List Pg} {a : Int} {x : Pg} (hx : x ∈ P) (e : x.no = a / 4096) : OnP P a x.p := ⟨x, hx, by omega, by omega, rfl⟩
theorem at_off {P : List Pg} {a : Int} (h : ∀ x, x ∈ P → x.no ≠ a / 4096) : ∀ q, ¬ OnP P a q := fun q ⟨x, hx, h1, h2, _⟩ => h x hx (by omega)
set_option maxHeartbeats 1000000 in
theorem rp_prot {mo b0 b1 : Int} {w : World} {rb : Nat} {P : List Pg} (h : SpaceAt mo b0 b1 w rb P) (hp : Pgs 67108864 P) (hl : P.length ≤ 5000) (a : Int) (h0 : 0 ≤ a) (h1 : a ≤ 18446744073709551615) :
    Calls Try.prog 71 #[addr0 rb, .int .u64 a] w fun e w' => ∃ q, e = .returned (.int .i64 q) ∧ RProtIs P a q ∧ Bl w w' := by
  have ca := rp_at h hp hl (a / 4096)
  have CA := Lib.hid ca; clear ca
  have H := Lib.hid h; clear h
  have hlI : (P.length : Int) ≤ 5000 := by omega
  unfold addr0 at *
  go_enter Try.func71, Try.ntmps71
  go_wp2_with fail
  with_reducible refine CA.out.mono ?_
  rintro e w1 ⟨j, ok, rfl, hat, k⟩
  have K := Lib.hid k; clear k
  rcases hat with ⟨rfl, x, hx, hn⟩ | ⟨rfl, hno⟩
  · obtain ⟨A, cap, c0, _, hrow⟩ := (H.out.bl K.out).cells
    have hltL : j < P.length := (List.getElem?_eq_some_iff.1 hx).1
    have hne : P ≠ [] := by intro e; rw [e] at hltL; simp at hltL
    obtain ⟨g, cap', cur, hA, _, hnc, hg, _⟩ := hrow.form hne
    have hA' : A = some ⟨g, 0, none⟩ := by injection hA
    subst hA'
    obtain ⟨d0, d1, d2⟩ := prow_cells hrow j x hx
    have hon := at_on (List.mem_of_getElem? hx) hn
    have HON := Lib.hid hon; clear hon hx hn hrow hA hnc hg hne d0 d2
    generalize P.length = n at *
    have hltI : (j : Int) < (n : Int) := by omega
    go_wp2_with fail
    go_ret
    exact ⟨_, rfl, .inl HON.out, K.out⟩
  · have hon := at_off hno
    have HON := Lib.hid hon; clear hon hno
    go_wp2_with fail
    go_ret
    exact ⟨_, rfl, .inr ⟨HON.out, rfl⟩, K.out⟩
theorem byte_at {w : World} {M : Nat → Int} {b o : Nat} {no : Int} (h : w.heap[b]? = some (byteRow M no)) (ho : o < 4096) : w.cell? ⟨b, o, none⟩ = some (.int .u8 (M (no.toNat * 4096 + o))) := by
  rw [cell_of_row w b o _ 5 (0, 0) h]
  have := asBytes_at (pageOf M no.toNat) o (by rw [pageOf_length]; exact ho)
  rw [List.getD_eq_getElem?_getD, pageOf_get _ _ _ ho] at this
  simpa using this
set_option maxHeartbeats 1000000 in
theorem rp_get {S : Nat → Prop} {mo b0 b1 : Int} {w : World} {rb : Nat} {P : List Pg} {M : Nat → Int} (h : RP S w rb P M mo b0 b1) (a : Nat) (ha : a < 2 ^ 64) :
    Calls Try.prog 38 #[addr0 rb, .int .u64 (a : Int)] w fun e w' => e = .returned (.int .u8 (M a)) ∧ Bl w w' := by
  have ca := rp_at h.space h.pgs (by have := h.few; omega) ((a : Int) / 4096)
  have CA := Lib.hid ca; clear ca
  have H := Lib.hid h; clear h
  have hfew := H.out.few
  have haI : (a : Int) ≤ 18446744073709551615 := by omega
  have haI0 : (0 : Int) ≤ (a : Int) := by omega
  have hlI : (P.length : Int) ≤ 5000 := by omega
  unfold addr0 at *
  go_enter Try.func38, Try.ntmps38
  go_wp2_with fail
  with_reducible refine CA.out.mono ?_
  rintro e w1 ⟨j, ok, rfl, hat, k⟩
  have K := Lib.hid k; clear k
  rcases hat with ⟨rfl, x, hx, hn⟩ | ⟨rfl, hno⟩
  · have h1 := H.out.bl K.out
    obtain ⟨A, cap, c0, _, hrow⟩ := h1.space.cells
    have hltL : j < P.length := (List.getElem?_eq_some_iff.1 hx).1
    have hne : P ≠ [] := by intro e; rw [e] at hltL; simp at hltL
    obtain ⟨g, cap', cur, hA, _, hnc, hg, _⟩ := hrow.form hne
    have hA' : A = some ⟨g, 0, none⟩ := by injection hA
    subst hA'
    obtain ⟨d0, d1, d2⟩ := prow_cells hrow j x hx
    obtain ⟨o, ho⟩ : ∃ o, o = a % 4096 := ⟨_, rfl⟩
    have hb := byte_at (o := o) (h1.pages x (List.mem_of_getElem? hx)).2 (by omega)
    have hoI : (a : Int) % 4096 = (o : Int) := by omega
    have hea : x.no.toNat * 4096 + o = a := by omega
    rw [hea] at hb
    have ho4 : (o : Int) < 4096 := by omega
    clear hx hn hrow hA hnc hg hne d0 d1 h1 hea ho
    generalize P.length = n at *
    have hltI : (j : Int) < (n : Int) := by omega
    go_wp2_with fail
    go_ret
    exact ⟨rfl, K.out⟩
  · have h0 := H.out.out a (at_off hno)
    have H0 := Lib.hid h0; clear h0 hno
    go_wp2_with fail
    go_ret
    exact ⟨by rw [H0.out]; rfl, K.out⟩
/-- One byte turned. -/
def upd (M : Nat → Int) (a : Nat) (c : Int) : Nat → Int := fun x => if x = a then c else M x
theorem upd_lay (M : Nat → Int) (a : Nat) (c : Int) : upd M a c = lay M a [c] := by
  funext x
  simp only [upd, lay, List.length_singleton]
  by_cases h : x = a
  · rw [if_pos h, if_pos (by omega)]; subst h; simp
  · rw [if_neg h, if_neg (by omega)]
theorem pageOf_upd (M : Nat → Int) (p o : Nat) (c : Int) : pageOf (upd M (p * 4096 + o) c) p = (pageOf M p).set o c := by
  apply List.ext_getElem?
  intro i
  by_cases hi : i < 4096
  · rw [pageOf_get _ _ _ hi, List.getElem?_set, pageOf_length]
    simp only [upd]
    by_cases e : o = i
    · subst e; rw [if_pos rfl, if_pos rfl, if_pos hi]
    · rw [if_neg (by omega), if_neg e, pageOf_get _ _ _ hi]
  · rw [List.getElem?_eq_none (by rw [pageOf_length]; omega), List.getElem?_eq_none (by rw [List.length_set, pageOf_length]; omega)]
theorem asBytes_set (xs : List Int) (o : Nat) (c : Int) : (asBytes (xs.set o c)).toArray = (asBytes xs).toArray.setIfInBounds o (.int .u8 c) := by
  simp [asBytes, List.map_set]
theorem byteRow_set {w : World} {M : Nat → Int} {b o : Nat} {no : Int} (h : w.heap[b]? = some (byteRow M no)) (c : Int) : (w.setCell ⟨b, o, none⟩ (.int .u8 c)).heap[b]? = some (byteRow (upd M (no.toNat * 4096 + o) c) no) := by
  rw [heap_setCell_same w b o _ 5 _ h]
  unfold byteRow
  rw [pageOf_upd, asBytes_set]
theorem RP.upd {S : Nat → Prop} {mo b0 b1 : Int} {w : World} {rb : Nat} {P : List Pg} {M : Nat → Int} (h : RP S w rb P M mo b0 b1) {x : Pg} (hx : x ∈ P) {o : Nat} (ho : o < 4096) {c : Int} (hc : 0 ≤ c ∧ c ≤ 255) : RP S (w.setCell ⟨x.b, o, none⟩ (.int .u8 c)) rb P (Ytpalhkfipnbcnaa.upd M (x.no.toNat * 4096 + o) c) mo b0 b1 := by
  obtain ⟨v, h1, h2, h3⟩ := h.sp
  obtain ⟨hS, hb⟩ := h.pages x hx
  refine ⟨⟨v, ?_, h2.kept fun g hg => ?_, h3⟩, h.own, h.pgs, h.pr, h.len, h.mo_, fun y => ?_, fun y hy => ?_, h.apart, fun a ha => ?_⟩
  · rw [Below.heap_setCell _ _ _ _ (fun e => by rw [show rb = x.b from e, hb] at h1; exact absurd (cells_ty h1) (by decide))]
    exact h1
  · refine Below.heap_setCell _ _ _ _ (fun e => ?_)
    obtain ⟨cur, hcur⟩ := h2.type hg
    rw [show g = x.b from e, hb] at hcur
    exact absurd (cells_ty hcur) (by decide)
  · simp only [Ytpalhkfipnbcnaa.upd]; split
    · exact hc
    · exact h.by_ y
  · by_cases e : y.b = x.b
    · have hyx : y = x := by
        rcases Nat.lt_trichotomy 0 1 with _ | _ | _
        · obtain ⟨i, hi, rfl⟩ := List.mem_iff_getElem.1 hy
          obtain ⟨j, hj, rfl⟩ := List.mem_iff_getElem.1 hx
          rcases Nat.lt_trichotomy i j with h9 | h9 | h9
          · exact absurd e (List.pairwise_iff_getElem.1 h.apart i j hi hj h9)
          · subst h9; rfl
          · exact absurd e.symm (List.pairwise_iff_getElem.1 h.apart j i hj hi h9)
        · omega
        · omega
      subst hyx
      exact ⟨hS, byteRow_set hb c⟩
    · obtain ⟨h4, h5⟩ := h.pages y hy
      refine ⟨h4, ?_⟩
      rw [Below.heap_setCell _ _ _ _ (fun e2 => e e2)]
      rw [h5]
      unfold byteRow
      rw [pageOf_other _ _ _ (fun o' ho' => ?_)]
      simp only [Ytpalhkfipnbcnaa.upd]
      rw [if_neg (fun e2 => ?_)]
      have h6 : x.no.toNat = y.no.toNat := by omega
      obtain ⟨i, hi, rfl⟩ := List.mem_iff_getElem.1 hy
      obtain ⟨j, hj, rfl⟩ := List.mem_iff_getElem.1 hx
      have h7 := h.pgs.2 _ hy
      have h8 := h.pgs.2 _ hx
      rcases Nat.lt_trichotomy i j with h9 | h9 | h9
      · have := List.pairwise_iff_getElem.1 h.pgs.1 i j hi hj h9; omega
      · subst h9; exact e rfl
      · have := List.pairwise_iff_getElem.1 h.pgs.1 j i hj hi h9; omega
  · simp only [Ytpalhkfipnbcnaa.upd]
    rw [if_neg (fun e => ?_)]
    · exact h.out a ha
    · have h8 := h.pgs.2 _ hx
      exact ha x.p ⟨x, hx, by omega, by omega, rfl⟩
set_option maxHeartbeats 1000000 in
theorem rp_set {S : Nat → Prop} {mo b0 b1 : Int} {w : World} {rb : Nat} {P : List Pg} {M : Nat → Int} (h : RP S w rb P M mo b0 b1) (a : Nat) (ha : a < 2 ^ 64) (c : Int) (hc : 0 ≤ c ∧ c ≤ 255) (hon : ∃ q, OnP P a q) :
    Calls Try.prog 72 #[addr0 rb, .int .u64 (a : Int), .int .u8 c] w fun e w' => e = .returned (.tuple #[]) ∧ RP S w' rb P (upd M a c) mo b0 b1 ∧ Fr S w w' := by
  have ca := rp_at h.space h.pgs (by have := h.few; omega) ((a : Int) / 4096)
  have CA := Lib.hid ca; clear ca
  have H := Lib.hid h; clear h
  have hfew := H.out.few
  have haI : (a : Int) ≤ 18446744073709551615 := by omega
  have haI0 : (0 : Int) ≤ (a : Int) := by omega
  have hlI : (P.length : Int) ≤ 5000 := by omega
  have HON := Lib.hid hon; clear hon
  have HC := Lib.hid hc; clear hc
  unfold addr0 at *
  go_enter Try.func72, Try.ntmps72
  go_wp2_with fail
  with_reducible refine CA.out.mono ?_
  rintro e w1 ⟨j, ok, rfl, hat, k⟩
  have K := Lib.hid k; clear k
  rcases hat with ⟨rfl, x, hx, hn⟩ | ⟨rfl, hno⟩
  · have h1 := H.out.bl K.out
    obtain ⟨A, cap, c0, _, hrow⟩ := h1.space.cells
    have hltL : j < P.length := (List.getElem?_eq_some_iff.1 hx).1
    have hne : P ≠ [] := by intro e; rw [e] at hltL; simp at hltL
    obtain ⟨g, cap', cur, hA, _, hnc, hg, _⟩ := hrow.form hne
    have hA' : A = some ⟨g, 0, none⟩ := by injection hA
    subst hA'
    obtain ⟨d0, d1, d2⟩ := prow_cells hrow j x hx
    obtain ⟨o, ho⟩ : ∃ o, o = a % 4096 := ⟨_, rfl⟩
    have hxm := List.mem_of_getElem? hx
    obtain ⟨hS, hxb⟩ := h1.pages x hxm
    have hb := byte_at (o := o) hxb (by omega)
    have hfz : w1.frozen? ⟨x.b, o, none⟩ = false := by simp [World.frozen?, hxb, byteRow]
    have hoI : (a : Int) % 4096 = (o : Int) := by omega
    have hea : x.no.toNat * 4096 + o = a := by omega
    have h2 := h1.upd hxm (o := o) (by omega) HC.out
    rw [hea] at h2
    have f2 : Fr S w (w1.setCell ⟨x.b, o, none⟩ (.int .u8 c)) := (Fr.of_bl K.out).trans (Fr.set (by exact hS) _)
    have H2 := Lib.hid h2; clear h2
    have F2 := Lib.hid f2; clear f2
    have ho4 : (o : Int) < 4096 := by omega
    clear hx hn hrow hA hnc hg hne d0 d1 h1 hea ho hxm hS hxb
    generalize P.length = n at *
    have hltI : (j : Int) < (n : Int) := by omega
    go_wp2_with fail
    go_end0
    exact ⟨rfl, H2.out, F2.out⟩
  · obtain ⟨q, hq⟩ := HON.out
    exact absurd hq (at_off hno q)
end Go.Proofs.Ytpalhkfipnbcnaa

set_option linter.unusedVariables false
set_option linter.unusedSimpArgs false
namespace Go.Proofs.Ytpalhkfipnbcnaa
open Go.RowKit
set_option maxRecDepth 100000
theorem regs_in {P : List Pg} (h : Pgs 67108864 P) {a q : Int} : In (regs P) a q ↔ OnP P a q := (regs_all h (by omega)).2.1 a q
theorem regs_rs {P : List Pg} (h : Pgs 67108864 P) : Rs (regs P) := (regs_all h (by omega)).1
theorem regs_so {P : List Pg} (h : Pgs 67108864 P) : So 0 274877906944 (regs P) := (regs_rs h).nm.so
section
variable {S : Nat → Prop} {mo b0 b1 : Int} {w : World} {rb : Nat} {P : List Pg} {M : Nat → Int}
set_option maxHeartbeats 2000000 in
theorem rp_first (h : RP S w rb P M mo b0 b1) (a : Int) (n : Nat) (p : Int) (h0 : 0 ≤ a) (h1 : a ≤ 18446744073709551615) (hn : n ≤ 4194304) :
    Calls Try.prog 55 #[addr0 rb, .int .u64 a, .int .i64 (n : Int), .int .i64 p] w (FirstPost w (regs P) a (a + n) p) := by
  have cp := fun W (k : Bl w W) (y : Int) (y0 : 0 ≤ y) (y1 : y ≤ 18446744073709551615) => rp_prot (h.bl k).space h.pgs (by have := h.few; omega) y y0 y1
  have CP := Lib.hid cp; clear cp
  have HPG := Lib.hid h.pgs
  have HPR := Lib.hid h.pr; clear h
  have hnI : (n : Int) ≤ 4194304 := by omega
  unfold addr0 at *
  go_enter Try.func55, Try.ntmps55
  go_wp2_with fail
  go_loopw [10, 11] (fun i _ wr => ∃ k : Nat, k ≤ n ∧ i = .int .i64 k ∧ (∀ y, a ≤ y → y < a + k → Can (regs P) p y) ∧ Bl w wr) (fun i _ _ => n - (intOf i).toNat)
  case atStart => exact ⟨0, by omega, rfl, fun y h1 h2 => absurd h2 (by omega), Bl.refl _⟩
  case round =>
    obtain ⟨k, hk, rfl, hall, hbl⟩ := hrel
    have hin : a + k ≤ 18446744073709551615 := by
      rcases Nat.eq_zero_or_pos k with h9 | h9
      · subst h9; omega
      · obtain ⟨q, hq, _⟩ := hall (a + k - 1) (by omega) (by omega)
        have := (regs_so HPG.out).range hq
        omega
    have HALL := Lib.hid hall; clear hall
    have HBL := Lib.hid hbl; clear hbl
    by_cases hlt : k < n
    · have hltI : (k : Int) < (n : Int) := by omega
      go_wp2_with fail
      with_reducible refine (CP.out _ HBL.out (a + k) (by omega) hin).mono ?_
      rintro e w1 ⟨q, rfl, hq, k1⟩
      have K1 := Lib.hid (HBL.out.trans k1); clear k1
      rcases hq with hq | ⟨hq, rfl⟩
      · have hq0 : 0 ≤ q := by
          obtain ⟨x, hx, _, _, rfl⟩ := hq
          exact (HPR.out x hx).1
        by_cases hc : bits .and .i64 q p = p
        · have t1 : (bits .and .i64 q p != p) = false := by simp [hc]
          have hcan : Can (regs P) p (a + k) := ⟨q, (regs_in HPG.out).2 hq, hc⟩
          have hall2 : ∀ y, a ≤ y → y < a + ((k + 1 : Nat) : Int) → Can (regs P) p y := fun y y1 y2 => by
            rcases Int.lt_or_le y (a + k) with h9 | h9
            · exact HALL.out y y1 h9
            · obtain rfl : y = a + k := by omega
              exact hcan
          have HALL2 := Lib.hid hall2; clear hall2 hcan hc hq
          go_wp2_with fail
          refine ⟨⟨k + 1, by omega, by go_num, HALL2.out, K1.out⟩, ?_⟩
          simp only [intOf]; omega
        · have t1 : (bits .and .i64 q p != p) = true := by simp [hc]
          have hno : ¬ Can (regs P) p (a + k) := fun ⟨q', hq', hb⟩ => hc (by rw [← (regs_so HPG.out).one hq' ((regs_in HPG.out).2 hq)]; exact hb)
          have hp : FirstPost w (regs P) a (a + n) p (.returned (.tuple #[.int .u64 (a + k), .bool true])) w1 := ⟨a + k, true, rfl, .inl ⟨rfl, by omega, by omega, hno, HALL.out⟩, K1.out⟩
          have HP := Lib.hid hp; clear hp hno hc hq
          go_wp2_with fail
          go_ret2
          exact HP.out
      · have hno : ¬ Can (regs P) p (a + k) := fun ⟨q', hq', hb⟩ => hq q' ((regs_in HPG.out).1 hq')
        have hp : FirstPost w (regs P) a (a + n) p (.returned (.tuple #[.int .u64 (a + k), .bool true])) w1 := ⟨a + k, true, rfl, .inl ⟨rfl, by omega, by omega, hno, HALL.out⟩, K1.out⟩
        have HP := Lib.hid hp; clear hp hno hq
        go_wp2_with fail
        go_ret2
        exact HP.out
    · obtain rfl : k = n := by omega
      have hp : FirstPost w (regs P) a (a + k) p (.returned (.tuple #[.int .u64 0, .bool false])) wr := ⟨0, false, rfl, .inr ⟨rfl, rfl, HALL.out⟩, HBL.out⟩
      have HP := Lib.hid hp; clear hp
      go_wp2_with fail
      go_ret2
      exact HP.out
theorem own_bl {w w' : World} {base e size n : Nat} {v : Value} {xs : List Value} (h : w.ownsRow base e size v n xs) (k : Bl w w') : w'.ownsRow base e size v n xs := by
  refine ⟨h.1, ?_⟩
  rcases h.2 with h1 | ⟨g, cap, cur, rfl, h1, h2, h3⟩
  · exact .inl h1
  · exact .inr ⟨g, cap, cur, rfl, h1, k.at_ h2, h3⟩
theorem bytesAt_snoc (M : Nat → Int) (a k : Nat) : bytesAt M a (k + 1) = bytesAt M a k ++ [M (a + k)] := by simp [bytesAt, List.range_succ]
set_option maxHeartbeats 2000000 in
theorem rp_bytes (h : RP S w rb P M mo b0 b1) (a n : Nat) (ha : a + n ≤ 2 ^ 64) (hn : n ≤ 5000) :
    Calls Try.prog 17 #[addr0 rb, .int .u64 (a : Int), .int .i64 (n : Int)] w fun e w' => ∃ B c, e = .returned (.slice B n c) ∧ Rd w' B (bytesAt M a n) ∧ Bl w w' := by
  obtain ⟨i0, hi0, hz0, hz1, hz2⟩ := info_parts infoByte
  have J0 := Lib.hid hi0; clear hi0
  have J1 := Lib.hid hz0; clear hz0
  have J2 := Lib.hid hz1; clear hz1
  have J3 := Lib.hid hz2; clear hz2
  have cg : ∀ W (k : Bl w W) (y : Nat) (z : Int) (hz : z = y) (hy : y < 2 ^ 64), Calls Try.prog 38 #[addr0 rb, .int .u64 z] W fun e w' => e = .returned (.int .u8 (M y)) ∧ Bl W w' := fun W k y z hz hy => by subst hz; exact rp_get (h.bl k) y hy
  have CG := Lib.hid cg; clear cg h
  have hnI : (n : Int) ≤ 5000 := by omega
  have haI : (a : Int) + (n : Int) ≤ 18446744073709551616 := by omega
  have haI0 : (0 : Int) ≤ (a : Int) := by omega
  unfold addr0 at *
  go_enter Try.func17, Try.ntmps17
  go_wp2_with fail
  go_loopw [7, 8] (fun v i wr => ∃ k : Nat, k ≤ n ∧ i = .int .i64 k ∧ wr.ownsRow w.heap.size 5 1 v k (asBytes (bytesAt M a k)) ∧ Bl w wr) (fun _ i _ => n - (intOf i).toNat)
  case atStart => exact ⟨0, by omega, rfl, ⟨by simp [bytesAt, asBytes], .inl ⟨rfl, rfl⟩⟩, Bl.refl _⟩
  case round =>
    obtain ⟨k, hk, rfl, hown, hbl⟩ := hrel
    have HO := Lib.hid hown; clear hown
    have HBL := Lib.hid hbl; clear hbl
    by_cases hlt : k < n
    · have hltI : (k : Int) < (n : Int) := by omega
      go_wp2_with fail
      with_reducible refine (CG.out _ HBL.out (a + k) ((a : Int) + (k : Int)) (by omega) (by omega)).mono ?_
      rintro e w1 ⟨rfl, k1⟩
      have ho1 : w1.ownsRow w.heap.size 5 1 _ k (asBytes (bytesAt M a k)) := own_bl HO.out k1
      have HO1 := Lib.hid ho1; clear ho1
      have HB1 := Lib.hid (HBL.out.trans k1); clear k1
      have hb1 := HB1.out.size
      go_wp2_with (at_builtin; refine wpl_append rfl (.tmp 14) (.tmp 21) 30 rfl w.heap.size 5 i0 Try.underlying30 J0.out J1.out J2.out J3.out _ k (bytesAt M a k) rfl (HO1.out.alloc _) (some ⟨w1.heap.size, 0, none⟩) 1 1 [M (a + k)] rfl (one_cell w1 _) rfl (fun h => by cases h) (by omega) (by simp; omega) ?_; intro v2 w2 hown2 hg2)
      have hb2 : Bl w w2 := (HB1.out.alloc _).grown hg2 (by simp; omega) (own_block_ge HO1.out)
      go_roundw
      case rel => exact ⟨k + 1, by omega, by go_num, by rw [bytesAt_snoc]; exact hown2, hb2⟩
      case measure => simp [intOf]; omega
    · obtain rfl : k = n := by omega
      go_wp2
      go_ret
      obtain ⟨B, c, rfl, hrd, _, _⟩ := Rd.of_own HO.out
      exact ⟨B, c, rfl, hrd, HBL.out⟩
end
end Go.Proofs.Ytpalhkfipnbcnaa

set_option linter.unusedVariables false
set_option linter.unusedSimpArgs false
namespace Go.Proofs.Ytpalhkfipnbcnaa
open Go.RowKit
set_option maxRecDepth 100000
set_option maxHeartbeats 1000000 in
theorem refPut_new (A : Option Addr) (len cap : Nat) (xs : List Int) (x : Int) (n : Nat) (w : World) (hr : Rd w A xs) (hl : xs.length = len) (hc : A = none → cap = 0) (hm : len ≤ 5100) (h1 : 1 ≤ n) (h8 : n ≤ 8) :
    Calls Try.prog 25 #[.slice A len cap, .int .u64 x, .int .i64 n] w fun e w' => ∃ B c, e = .returned (.slice B (len + n) c) ∧ Rd w' B (xs ++ putB x n) ∧ Below w.heap.size w w' ∧ ∀ ad, B = some ad → w.heap.size ≤ ad.block := by
  obtain ⟨i0, hi0, hz0, hz1, hz2⟩ := info_parts infoByte
  have HR := Lib.hid hr; clear hr
  have HL := Lib.hid hl; clear hl
  have HC := Lib.hid hc; clear hc
  have J0 := Lib.hid hi0; clear hi0
  have J1 := Lib.hid hz0; clear hz0
  have J2 := Lib.hid hz1; clear hz1
  have J3 := Lib.hid hz2; clear hz2
  go_enter Try.func25, Try.ntmps25
  go_wp2_with (at_builtin; refine wpl_append rfl (.tmp 9) (.tmp 10) 30 rfl w.heap.size 5 i0 Try.underlying30 J0.out J1.out J2.out J3.out _ 0 [] rfl (own_empty w) A len cap xs rfl (HR.out.alloc _) HL.out HC.out (by omega) (by simp) ?_; intro v1 w1 hown1 hg1; have HO1 := Lib.hid hown1; clear hown1)
  have hbel : Below w.heap.size w w1 := ((Below.refl _ _).alloc (Nat.le_refl _) _).grown hg1 (by simp) (own_block_ge (own_empty w))
  clear hg1
  go_loopw [7, 8] (fun v i wr => ∃ k : Nat, k ≤ n ∧ i = .int .i64 k ∧ wr.ownsRow w.heap.size 5 1 v (len + k) (asBytes (xs ++ putB x k)) ∧ Below w.heap.size w wr) (fun _ i _ => n - (intOf i).toNat)
  case atStart => exact ⟨0, by omega, rfl, by simpa [putB] using HO1.out, hbel⟩
  case round =>
    obtain ⟨k, hk, rfl, hown, hbr⟩ := hrel
    clear hbel HO1
    have HO := Lib.hid hown; clear hown
    by_cases hlt : k < n
    · go_wp2_with (at_builtin; refine wpl_append rfl (.tmp 24) (.tmp 31) 30 rfl w.heap.size 5 i0 Try.underlying30 J0.out J1.out J2.out J3.out _ (len + k) (xs ++ putB x k) rfl (HO.out.alloc _) (some ⟨wr.heap.size, 0, none⟩) 1 1 [x / 2 ^ (8 * k) % 256] rfl (one_cell wr _) rfl (fun h => by cases h) (by omega) (by have := hbr.size; simp; omega) ?_; intro v2 w2 hown2 hg2)
      have hsz := hbr.size
      have hb2 : Below w.heap.size w w2 := (hbr.alloc hsz _).grown hg2 (by simp; omega) (own_block_ge HO.out)
      go_roundw
      case rel => exact ⟨k + 1, by omega, by go_num, by rw [putB_succ, ← List.append_assoc]; exact hown2, hb2⟩
      case measure => simp [intOf]; omega
    · obtain rfl : k = n := by omega
      go_wp2
      go_ret
      have hge := own_block_ge HO.out
      obtain ⟨B, c, rfl, hrd, _, _⟩ := Rd.of_own HO.out
      exact ⟨B, c, rfl, hrd, hbr, fun ad e => by subst e; exact hge ad.block rfl⟩


theorem fr_new {S : Nat → Prop} {w w' : World} {g : Nat} (h : Fr S w w') (i j : Nat) (u v : Value) (hg : w.heap.size ≤ g) : Fr S w ((w'.setCell ⟨g, i, none⟩ u).setCell ⟨g, j, none⟩ v) :=
  ⟨h.os, h.tape, h.output, by simpa [World.setCell] using h.size, fun k hk hn => by
    rw [Below.heap_setCell _ _ _ _ (by simp; omega), Below.heap_setCell _ _ _ _ (by simp; omega)]; exact h.block k hk hn⟩
theorem lay_snoc (M : Nat → Int) (a k : Nat) (xs : List Int) (hk : k < xs.length) : lay M a (xs.take (k + 1)) = upd (lay M a (xs.take k)) (a + k) (xs.getD k 0) := by
  rw [upd_lay, List.take_add_one, List.getElem?_eq_getElem hk, List.getD_eq_getElem?_getD, List.getElem?_eq_getElem hk]
  have h := lay_lay M a (xs.take k) [xs[k]]
  rw [show (xs.take k).length = k by rw [List.length_take]; omega] at h
  exact h.symm
section
variable {S : Nat → Prop} {mo b0 b1 : Int} {w : World} {rb : Nat} {P : List Pg} {M : Nat → Int}
set_option maxHeartbeats 2000000 in
theorem rp_lays (h : RP S w rb P M mo b0 b1) (a : Nat) (A : Option Addr) (len cap : Nat) (xs : List Int) (hr : Rd w A xs) (hl : xs.length = len) (hb : ∀ k, 0 ≤ xs.getD k 0 ∧ xs.getD k 0 ≤ 255) (hA : ∀ ad, A = some ad → ¬ S ad.block)
    (hat : a + len ≤ 274877906944) (hlen : len ≤ 4194304) (hon : ∀ i, i < len → ∃ q, OnP P ((a : Int) + (i : Int)) q) :
    Calls Try.prog 56 #[addr0 rb, .int .u64 (a : Int), .slice A len cap] w fun e w' => e = .returned (.tuple #[]) ∧ RP S w' rb P (lay M a xs) mo b0 b1 ∧ Fr S w w' := by
  have HR := Lib.hid hr; clear hr
  have HL := Lib.hid hl; clear hl
  have HB := Lib.hid hb; clear hb
  have HAA := Lib.hid hA; clear hA
  have HON := Lib.hid hon; clear hon
  have H := Lib.hid h; clear h
  have cs : ∀ W M' (h : RP S W rb P M' mo b0 b1) (y : Nat) (z c : Int) (hz : z = y) (hy : y < 2 ^ 64) (hc : 0 ≤ c ∧ c ≤ 255) (hon : ∃ q, OnP P y q), Calls Try.prog 72 #[addr0 rb, .int .u64 z, .int .u8 c] W fun e w' => e = .returned (.tuple #[]) ∧ RP S w' rb P (upd M' y c) mo b0 b1 ∧ Fr S W w' := fun W M' h y z c hz hy hc hon => by subst hz; exact rp_set h y hy c hc hon
  have CS := Lib.hid cs; clear cs
  have hatI : (a : Int) + (len : Int) ≤ 274877906944 := by omega
  have haI0 : (0 : Int) ≤ (a : Int) := by omega
  have HAT := Lib.hid hat; clear hat hatI haI0
  obtain ⟨Z, hZ⟩ : ∃ Z : Int, Z = a := ⟨_, rfl⟩
  rw [← hZ]
  have HZ := Lib.hid hZ; clear hZ
  have hz0 : 0 ≤ Z := by have := HZ.out; omega
  have hz1 : Z ≤ 274877906944 := by have := HZ.out; have := HAT.out; omega
  have hlenI : (len : Int) ≤ 4194304 := by omega
  unfold addr0 at *
  go_enter Try.func56, Try.ntmps56
  go_wp2_with fail
  go_loopw [6] (fun i wr => ∃ k : Nat, k ≤ len ∧ i = .int .i64 k ∧ RP S wr rb P (lay M a (xs.take k)) mo b0 b1 ∧ Fr S w wr) (fun i _ => len - (intOf i).toNat)
  case atStart => exact ⟨0, by omega, rfl, by rw [List.take_zero, lay_nil]; exact H.out, Fr.refl _ _⟩
  case round =>
    obtain ⟨k, hk, rfl, hrp, hfr⟩ := hrel
    have HRP := Lib.hid hrp; clear hrp
    have HFR := Lib.hid hfr; clear hfr
    by_cases hlt : k < len
    · have hr2 := HR.out.fr HFR.out (fun _ => HAA.out)
      obtain ⟨b, off, hA, hcell⟩ := hr2.at_ k (by rw [HL.out]; exact hlt)
      have hA2 := hA
      subst hA
      have hx := HB.out k
      have HSN := Lib.hid (lay_snoc M a k xs (by rw [HL.out]; exact hlt))
      have hon := HON.out k hlt
      rw [show (a : Int) + (k : Int) = ((a + k : Nat) : Int) by omega] at hon
      have HO := Lib.hid hon
      generalize xs.getD k 0 = x at *
      have HX := Lib.hid hx
      have hin : (k : Int) < (len : Int) := by omega
      have t1 : decide (Z < 274877906944) = true := by have := HAT.out; have := HZ.out; simp; omega
      have t2 : decide (Z + (k : Int) < 274877906944) = true := by have := HAT.out; have := HZ.out; simp; omega
      clear hr2 hon hA2
      go_wp2_with fail
      with_reducible refine (CS.out _ _ HRP.out (a + k) (Z + (k : Int)) x (by have := HZ.out; omega) (by have := HAT.out; omega) HX.out HO.out).mono ?_
      rintro e w1 ⟨rfl, h1, f1⟩
      rw [← HSN.out] at h1
      have H1 := Lib.hid h1; clear h1
      have F1 := Lib.hid (HFR.out.trans f1); clear f1
      go_wp2_with fail
      refine ⟨⟨k + 1, by omega, by go_num, H1.out, F1.out⟩, ?_⟩
      simp only [intOf]; omega
    · obtain rfl : k = len := by omega
      have hfin := HRP.out
      rw [← HL.out, List.take_length] at hfin
      have HF := Lib.hid hfin; clear hfin
      go_wp2_with fail
      go_end0
      exact ⟨rfl, HF.out, HFR.out⟩
theorem rwide_yes (n : Int) (w : World) (h : n = 1 ∨ n = 2 ∨ n = 4 ∨ n = 8) : Calls Try.prog 54 #[.int .i64 n] w fun x w' => x = .returned (.bool true) ∧ w = w' := by
  rcases h with rfl | rfl | rfl | rfl
  all_goals
    go_enter Try.func54, Try.ntmps54
    go_wp2
    go_ret
    exact ⟨rfl, rfl⟩
set_option maxHeartbeats 2000000 in
theorem rp_probe (h : RP S w rb P M mo b0 b1) (a : Int) (n : Nat) (h0 : 0 ≤ a) (h1 : a ≤ 18446744073709551615) (hn : n = 1 ∨ n = 2 ∨ n = 4 ∨ n = 8) :
    Calls Try.prog 34 #[addr0 rb, .int .u64 a, .int .i64 (n : Int)] w (FaultPost w (regs P) 2 a n 2) := by
  have cw := fun W => rwide_yes (n : Int) W (by omega)
  have cl := rp_first (h.bl (Bl.new w (.cells #[.int .i64 0, .int .u64 0] 41))) a n 2 h0 h1 (by omega)
  have CW := Lib.hid cw; clear cw
  have CL := Lib.hid cl; clear cl hn h
  unfold addr0 at *
  go_enter Try.func34, Try.ntmps34
  go_wp2_with fail
  refine (CW.out _).mono ?_
  rintro e w' ⟨rfl, rfl⟩
  go_wp2_with fail
  with_reducible refine CL.out.mono ?_
  rintro e w1 ⟨x, ok, rfl, hh, k⟩
  have hb := new2 w w1 _ _ _ k
  obtain ⟨d0, d1⟩ := two_cells hb
  have k1 := (Bl.new w (.cells #[.int .i64 0, .int .u64 0] 41)).trans k
  have f0 : ∀ i, w1.frozen? ⟨w.heap.size, i, none⟩ = false := fun i => by simp [World.frozen?, hb]
  have f00 := f0 0
  have f01 := f0 1
  have HB := Lib.hid hb; clear hb
  have K1 := Lib.hid k1; clear k1 k f0
  rcases hh with ⟨rfl, hh⟩ | ⟨rfl, hx, hh⟩
  · have HH := Lib.hid hh; clear hh
    go_wp2_with fail
    (try simp only [Exit.inBlock, Exit.then])
    refine bodyPost_ret (results_cell_row rfl _ _ w.heap.size 41 _ (0, 0) _ rfl (set2 _ _ HB.out) Try.underlying41 rfl (by kernel_rfl)) rfl ?_
    exact ⟨2, x, rfl, .inl ⟨rfl, HH.out⟩, (K1.out.set (Nat.le_refl _) _).set (Nat.le_refl _) _⟩
  · have HH := Lib.hid hh; clear hh
    have HX := Lib.hid hx; clear hx
    go_wp2_with fail
    (try simp only [Exit.inBlock, Exit.then])
    refine bodyPost_ret (results_cell_row rfl _ _ w.heap.size 41 _ (0, 0) _ rfl (set2 _ _ HB.out) Try.underlying41 rfl (by kernel_rfl)) rfl ?_
    exact ⟨0, 0, rfl, .inr ⟨rfl, rfl, HH.out⟩, (K1.out.set (Nat.le_refl _) _).set (Nat.le_refl _) _⟩
set_option maxHeartbeats 2000000 in
theorem rp_load (h : RP S w rb P M mo b0 b1) (a n : Nat) (ha : a < 2 ^ 64) (hn : n = 1 ∨ n = 2 ∨ n = 4 ∨ n = 8) :
    Calls Try.prog 36 #[addr0 rb, .int .u64 (a : Int), .int .i64 (n : Int)] w (LoadPost w (regs P) M a n) := by
  have cw := fun W => rwide_yes (n : Int) W (by omega)
  have cl := rp_first (h.bl (Bl.new w (.cells #[.int .i64 0, .int .u64 0] 41))) a n 1 (by omega) (by omega) (by omega)
  have cb := fun W (k : Bl w W) (ht : a + n ≤ 274877906944) => rp_bytes (h.bl k) a n (by omega) (by omega)
  have cg := fun W B c (hr : Rd W B (bytesAt M a n)) => refGet_in B n c _ n W hr (bytesAt_length M a n) (by omega) (by omega) (by omega) (bytesAt_bd h.by_ a n)
  have HSO := Lib.hid (regs_so h.pgs)
  have CW := Lib.hid cw; clear cw
  have CL := Lib.hid cl; clear cl
  have CB := Lib.hid cb; clear cb
  have CG := Lib.hid cg; clear cg h
  have HN := Lib.hid hn; clear hn
  unfold addr0 at *
  go_enter Try.func36, Try.ntmps36
  go_wp2_with fail
  refine (CW.out _).mono ?_
  rintro e w' ⟨rfl, rfl⟩
  go_wp2_with fail
  with_reducible refine CL.out.mono ?_
  rintro e w1 ⟨x, ok, rfl, hh, k⟩
  have hb := new2 w w1 _ _ _ k
  have k1 := (Bl.new w (.cells #[.int .i64 0, .int .u64 0] 41)).trans k
  rcases hh with ⟨rfl, hh⟩ | ⟨rfl, hx, hh⟩
  · obtain ⟨d0, d1⟩ := two_cells hb
    have f0 : ∀ i, w1.frozen? ⟨w.heap.size, i, none⟩ = false := fun i => by simp [World.frozen?, hb]
    have f00 := f0 0
    have f01 := f0 1
    have HB := Lib.hid hb; clear hb
    have K1 := Lib.hid k1; clear k1 k f0
    have HH := Lib.hid hh; clear hh
    go_wp2_with fail
    (try simp only [Exit.inBlock, Exit.then])
    refine bodyPost_ret (results_tmp_row rfl _ _ w.heap.size 41 _ (0, 0) _ rfl (set2 _ _ HB.out) Try.underlying41 rfl (by kernel_rfl)) rfl ?_
    exact ⟨0, 1, x, rfl, .inl ⟨rfl, rfl, HH.out⟩, (K1.out.set (Nat.le_refl _) _).set (Nat.le_refl _) _⟩
  · have htop := can_below HSO.out hh (by have := HN.out; omega)
    have HTOP := Lib.hid htop; clear htop
    have HH := Lib.hid hh; clear hh
    have HX := Lib.hid hx; clear hx
    have HB := Lib.hid hb; clear hb
    have K1 := Lib.hid k1; clear k1 k
    go_wp2_with fail
    with_reducible refine (CB.out _ K1.out HTOP.out).mono ?_
    rintro e w2 ⟨B, c, rfl, hr2, k2⟩
    have R2 := Lib.hid hr2; clear hr2
    have HB2 := Lib.hid (k2.at_ HB.out)
    have K2 := Lib.hid (K1.out.trans k2); clear k2
    go_wp2_with fail
    with_reducible refine (CG.out _ B c R2.out).mono ?_
    rintro e w' ⟨rfl, rfl⟩
    obtain ⟨d0, d1⟩ := two_cells HB2.out
    have f0 : ∀ i, w2.frozen? ⟨w.heap.size, i, none⟩ = false := fun i => by simp [World.frozen?, HB2.out]
    have f00 := f0 0
    have f01 := f0 1
    clear f0
    go_wp2_with fail
    (try simp only [Exit.inBlock, Exit.then])
    refine bodyPost_ret (results_tmp_row rfl _ _ w.heap.size 41 _ (0, 0) _ rfl (set2 _ _ HB2.out) Try.underlying41 rfl (by kernel_rfl)) rfl ?_
    exact ⟨_, 0, 0, rfl, .inr ⟨rfl, rfl, rfl, HH.out⟩, (K2.out.set (Nat.le_refl _) _).set (Nat.le_refl _) _⟩
def RStorePost (S : Nat → Prop) (w : World) (rb : Nat) (P : List Pg) (M : Nat → Int) (mo b0 b1 : Int) (a n : Nat) (x : Int) (e : Ending) (w' : World) : Prop := ∃ k y, e = .returned (faultV k y) ∧
  ((k = 2 ∧ (a : Int) ≤ y ∧ y < a + n ∧ ¬ Can (regs P) 2 y ∧ (∀ z, (a : Int) ≤ z → z < y → Can (regs P) 2 z) ∧ Bl w w') ∨
   (k = 0 ∧ y = 0 ∧ (∀ z, (a : Int) ≤ z → z < a + n → Can (regs P) 2 z) ∧ RP S w' rb P (lay M a (putB x n)) mo b0 b1 ∧ Fr S w w'))
set_option maxHeartbeats 4000000 in
theorem rp_store (h : RP S w rb P M mo b0 b1) (a n : Nat) (x : Int) (ha : a < 2 ^ 64) (hn : n = 1 ∨ n = 2 ∨ n = 4 ∨ n = 8) :
    Calls Try.prog 35 #[addr0 rb, .int .u64 (a : Int), .int .i64 (n : Int), .int .u64 x] w (RStorePost S w rb P M mo b0 b1 a n x) := by
  have cp := rp_probe (h.bl (Bl.new w (.cells #[.int .i64 0, .int .u64 0] 41))) a n (by omega) (by omega) hn
  have cput := fun W => refPut_new none 0 0 [] x n W Rd.nil_ rfl (fun _ => rfl) (by omega) (by omega) (by omega)
  simp only [List.nil_append, Nat.zero_add] at cput
  have hsm : RP (fun b => S b ∧ b < w.heap.size) w rb P M mo b0 b1 := h.among fun b hb hS => ⟨hS, hb⟩
  have HSO := Lib.hid (regs_so h.pgs)
  have HPG := Lib.hid h.pgs
  have H := Lib.hid h; clear h
  have HSM := Lib.hid hsm; clear hsm
  have CP := Lib.hid cp; clear cp
  have CPUT := Lib.hid cput; clear cput
  have HN := Lib.hid hn; clear hn
  have HA := Lib.hid ha; clear ha
  have cl := fun W (h : RP (fun b => S b ∧ b < w.heap.size) W rb P M mo b0 b1) B c (hr : Rd W B (putB x n)) (hB : ∀ ad, B = some ad → w.heap.size ≤ ad.block) (ht : a + n ≤ 274877906944) (hc : ∀ z, (a : Int) ≤ z → z < a + n → Can (regs P) 2 z) =>
    rp_lays h a B n c (putB x n) hr (putB_length x n) (putB_bd x n) (fun ad e hh => by have := hB ad e; omega) ht (by have := HN.out; omega) (fun i hi => by
      obtain ⟨q, hq, _⟩ := hc ((a : Int) + (i : Int)) (by omega) (by omega)
      exact ⟨q, (regs_in HPG.out).1 hq⟩)
  have CL := Lib.hid cl; clear cl
  unfold addr0 at *
  go_enter Try.func35, Try.ntmps35
  go_wp2_with fail
  with_reducible refine CP.out.mono ?_
  rintro e w1 ⟨k, y, rfl, hh, kk⟩
  have hb := new2 w w1 _ _ _ kk
  have k1 := (Bl.new w (.cells #[.int .i64 0, .int .u64 0] 41)).trans kk
  have HB := Lib.hid hb; clear hb
  have K1 := Lib.hid k1; clear k1 kk
  unfold faultV
  rcases hh with ⟨hk, hh⟩ | ⟨hk, hx, hh⟩
  · subst hk
    have HH := Lib.hid hh; clear hh
    have hb2 := (Bl.new w1 (.cells #[.int .i64 2, .int .u64 y] 41)).at_ HB.out
    obtain ⟨d0, d1⟩ := two_cells hb2
    obtain ⟨d2, d3⟩ := two_cells (heap_alloc_new w1 (.cells #[.int .i64 2, .int .u64 y] 41))
    have f0 : ∀ i, (w1.alloc (.cells #[.int .i64 2, .int .u64 y] 41)).frozen? ⟨w.heap.size, i, none⟩ = false := fun i => by simp [World.frozen?, hb2]
    have f00 := f0 0
    have f01 := f0 1
    have HB2 := Lib.hid hb2; clear hb2
    have K2 := Lib.hid (K1.out.alloc (.cells #[.int .i64 2, .int .u64 y] 41))
    clear HB K1 f0
    go_wp2_with fail
    (try simp only [Exit.inBlock, Exit.then])
    refine bodyPost_ret (results_cell_row rfl _ _ w.heap.size 41 _ (0, 0) _ rfl (set2 _ _ HB2.out) Try.underlying41 rfl (by kernel_rfl)) rfl ?_
    exact ⟨2, y, rfl, .inl ⟨rfl, HH.out.1, HH.out.2.1, HH.out.2.2.1, HH.out.2.2.2, (K2.out.set (Nat.le_refl _) _).set (Nat.le_refl _) _⟩⟩
  · subst hk hx
    have htop := can_below HSO.out hh (by have := HN.out; omega)
    have HH := Lib.hid hh; clear hh
    have HTOP := Lib.hid htop; clear htop
    go_wp2_with fail
    have K2 := Lib.hid (K1.out.alloc (.cells #[.int .i64 0, .int .u64 0] 41))
    have HB2 := Lib.hid ((Bl.new w1 (.cells #[.int .i64 0, .int .u64 0] 41)).at_ HB.out)
    have HN2 := Lib.hid (heap_alloc_new w1 (.cells #[.int .i64 0, .int .u64 0] 41))
    have HS1 := Lib.hid (show w1.heap.size < (w1.alloc (.cells #[.int .i64 0, .int .u64 0] 41)).heap.size by simp)
    have HS0 := Lib.hid K1.out.size
    clear HB K1
    obtain ⟨g2, hg2⟩ : ∃ g2, g2 = w1.heap.size := ⟨_, rfl⟩
    rw [← hg2] at HN2 HS1 HS0 ⊢
    clear hg2
    generalize w1.alloc (.cells #[.int .i64 0, .int .u64 0] 41) = W at *
    with_reducible refine (CPUT.out _).mono ?_
    rintro e w3 ⟨B, c, rfl, hr3, k3, hB3⟩
    have R3 := Lib.hid hr3; clear hr3
    have HB3 := Lib.hid hB3; clear hB3
    have K3 := Lib.hid (show Bl W w3 from k3); clear k3
    go_wp2_with fail
    with_reducible refine (CL.out _ (HSM.out.bl (K2.out.trans K3.out)) B c R3.out (fun ad e => Nat.le_trans K2.out.size (HB3.out ad e)) HTOP.out HH.out).mono ?_
    rintro e w4 ⟨rfl, h4, f4⟩
    have hb4 := f4.at_ (K3.out.at_ HB2.out) (fun e => absurd e.2 (by omega))
    have hn4 := f4.at_ (K3.out.at_ HN2.out) (fun e => absurd e.2 (by have := HS0.out; omega))
    obtain ⟨d0, d1⟩ := two_cells hb4
    obtain ⟨d2, d3⟩ := two_cells hn4
    have f0 : ∀ i, w4.frozen? ⟨w.heap.size, i, none⟩ = false := fun i => by simp [World.frozen?, hb4]
    have f00 := f0 0
    have f01 := f0 1
    have HB4 := Lib.hid hb4; clear hb4 hn4 f0
    have f5 : Fr S w ((w4.setCell ⟨w.heap.size, 0, none⟩ (.int .i64 0)).setCell ⟨w.heap.size, 1, none⟩ (.int .u64 0)) :=
      fr_new (((Fr.of_bl (K2.out.trans K3.out)).trans (f4.mono fun b _ e => e.1))) _ _ _ _ (Nat.le_refl _)
    have h5 : RP S ((w4.setCell ⟨w.heap.size, 0, none⟩ (.int .i64 0)).setCell ⟨w.heap.size, 1, none⟩ (.int .u64 0)) rb P (lay M a (putB x n)) mo b0 b1 :=
      (h4.kept ((Fr.set (S := only w.heap.size) (p := ⟨w.heap.size, 0, none⟩) rfl (.int .i64 0)).trans (Fr.set (S := only w.heap.size) (p := ⟨w.heap.size, 1, none⟩) rfl (.int .u64 0))) (fun b _ hS e => by have h7 : b = w.heap.size := e; omega)).among fun b _ e => e.1
    have H5 := Lib.hid h5; clear h5
    have F5 := Lib.hid f5; clear f5 h4 f4
    go_wp2_with fail
    (try simp only [Exit.inBlock, Exit.then])
    refine bodyPost_ret (results_cell_row rfl _ _ w.heap.size 41 _ (0, 0) _ rfl (set2 _ _ HB4.out) Try.underlying41 rfl (by kernel_rfl)) rfl ?_
    exact ⟨0, 0, rfl, .inr ⟨rfl, rfl, HH.out, H5.out, F5.out⟩⟩
end
end Go.Proofs.Ytpalhkfipnbcnaa
