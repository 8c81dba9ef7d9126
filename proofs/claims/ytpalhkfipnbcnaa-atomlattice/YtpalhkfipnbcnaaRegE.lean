/-
  Pages; the search among regions.
-/
import Derived.Test.YtpalhkfipnbcnaaRegD
import Derived.Test.YtpalhkfipnbcnaaRegN
set_option linter.unusedVariables false
set_option linter.unusedSimpArgs false
namespace Go.Proofs.Ytpalhkfipnbcnaa
open Go.RowKit
set_option maxRecDepth 100000
def IntPost (w : World) (n : Int) (e : Ending) (w' : World) : Prop := e = .returned (.int .i64 n) ∧ Bl w w'
set_option maxHeartbeats 4000000 in
theorem pages_any {X : Ctx} {w : World} {b : Nat} {L : List Rg} (h : ListAt X w b L) (hs : So 0 274877906944 L) (hl : L.length ≤ 1000) :
    Calls Try.prog 69 #[addr0 b] w (IntPost w (tot L / 4096)) := by
  obtain ⟨v, hb, hr⟩ := h
  obtain ⟨A, cap, rfl⟩ := hr.shape
  have hcell : w.cell? ⟨b, 0, none⟩ = some (.slice A L.length cap) := by rw [cell_of_row w b 0 _ _ (0, 0) hb]; simp
  have hlI : (L.length : Int) ≤ 1000 := by omega
  have HR := Lib.hid hr; clear hr
  have HB := Lib.hid hb; clear hb
  have HSO := Lib.hid hs; clear hs
  obtain ⟨n, hn⟩ : ∃ n, n = L.length := ⟨_, rfl⟩
  rw [← hn] at hcell hlI HR
  have HN := Lib.hid hn; clear hn
  have HL := Lib.hid hl; clear hl
  unfold addr0
  go_enter Try.func69, Try.ntmps69
  go_wp2_with fail
  go_loopw [3, 5, 13] (fun v3 _ i wr => ∃ k : Nat, k ≤ n ∧ i = .int .i64 k ∧ v3 = .int .u64 (tot (L.take k)) ∧ Bl w wr) (fun _ _ i _ => n - (intOf i).toNat)
  case atStart => exact ⟨0, by omega, rfl, rfl, Bl.refl _⟩
  case round =>
    obtain ⟨k, hk, rfl, rfl, hbl⟩ := hrel
    have HBL := Lib.hid hbl; clear hbl
    have ht := (HSO.out.take k).tot_le (by omega)
    obtain ⟨t1, t2⟩ := ht
    by_cases hlt : k < n
    · have hltL : k < L.length := by have := HN.out; omega
      obtain ⟨r, hr⟩ : ∃ r, L[k]? = some r := ⟨L[k], List.getElem?_eq_getElem hltL⟩
      have hne : L ≠ [] := by intro e; rw [e] at hltL; simp at hltL
      obtain ⟨g, cap', cur, hA, _, hnc, hg, _⟩ := HR.out.form hne
      have hA' : A = some ⟨g, 0, none⟩ := by injection hA
      subst hA'
      obtain ⟨c0, c1, c2⟩ := row_cells (HR.out.bl HBL.out) k r hr
      clear hA hnc hg hne hltL
      obtain ⟨s0, s1, s2⟩ := HSO.out.2 r (List.mem_of_getElem? hr)
      have hstep := tot_take L k r hr
      have HS := Lib.hid hstep; clear hstep
      have hkI : (k : Int) < (n : Int) := by omega
      clear hr
      generalize tot (L.take k) = T at *
      go_wp2_with fail
      refine ⟨⟨k + 1, by omega, by go_num, by rw [HS.out], HBL.out.alloc _⟩, ?_⟩
      simp only [intOf]; omega
    · obtain rfl : k = n := by omega
      rw [HN.out, List.take_length] at t1 t2 ⊢
      generalize tot L = T at *
      go_wp2_with fail
      go_ret
      exact ⟨rfl, HBL.out⟩
/-- One of the three questions, over a region: the place beside it lies in a box. -/
theorem is42_any (r : Rg) (c : Nat) (x : Int) (w : World) (hc : w.cell? ⟨c, 0, none⟩ = some (.int .u64 x)) :
    Calls Try.prog 95 #[.agg #[.int .u64 r.s, .int .u64 r.e, .int .i64 r.p], .pointer (some ⟨c, 0, none⟩)] w fun e w' => e = .returned (.bool (decide (x < r.e))) ∧ Bl w w' := by
  have hlt := block_lt_of_cell hc
  go_enter Try.func95, Try.ntmps95
  go_wp2
  go_ret
  exact ⟨rfl, Bl.new _ _⟩
theorem is44_any (r : Rg) (c : Nat) (x : Int) (w : World) (hc : w.cell? ⟨c, 0, none⟩ = some (.int .u64 x)) :
    Calls Try.prog 76 #[.agg #[.int .u64 r.s, .int .u64 r.e, .int .i64 r.p], .pointer (some ⟨c, 0, none⟩)] w fun e w' => e = .returned (.bool (decide (x < r.e))) ∧ Bl w w' := by
  have hlt := block_lt_of_cell hc
  go_enter Try.func76, Try.ntmps76
  go_wp2
  go_ret
  exact ⟨rfl, Bl.new _ _⟩
theorem is47_any (r : Rg) (c : Nat) (x : Int) (w : World) (hc : w.cell? ⟨c, 0, none⟩ = some (.int .u64 x)) :
    Calls Try.prog 79 #[.agg #[.int .u64 r.s, .int .u64 r.e, .int .i64 r.p], .pointer (some ⟨c, 0, none⟩)] w fun e w' => e = .returned (.bool (decide (x ≤ r.s))) ∧ Bl w w' := by
  have hlt := block_lt_of_cell hc
  go_enter Try.func79, Try.ntmps79
  go_wp2
  go_ret
  exact ⟨rfl, Bl.new _ _⟩
/-- A question that a closure asks. -/
def Ask (F c : Nat) (x : Int) (q : Rg → Bool) : Prop := ∀ (r : Rg) (w : World), w.cell? ⟨c, 0, none⟩ = some (.int .u64 x) →
  Calls Try.prog F #[.agg #[.int .u64 r.s, .int .u64 r.e, .int .i64 r.p], .pointer (some ⟨c, 0, none⟩)] w fun e w' => e = .returned (.bool (q r)) ∧ Bl w w'
def asks (F c : Nat) : Value := .func (.func F) #[] #[.pointer (some ⟨c, 0, none⟩)]
/-- What the search's closure reads. -/
structure Seek (X : Ctx) (w : World) (b bi bl c F : Nat) (x : Int) (L : List Rg) : Prop where
  list : ListAt X w b L
  is : w.cell? ⟨bi, 0, none⟩ = some (asks F c)
  me : w.cell? ⟨bl, 0, none⟩ = some (addr0 b)
  place : w.cell? ⟨c, 0, none⟩ = some (.int .u64 x)
theorem Seek.bl {X : Ctx} {w w' : World} {b bi bl c F : Nat} {x : Int} {L : List Rg} (h : Seek X w b bi bl c F x L) (k : Bl w w') : Seek X w' b bi bl c F x L :=
  ⟨h.list.bl k, k.cell' h.is, k.cell' h.me, k.cell' h.place⟩
def BoolPost (w : World) (v : Bool) (e : Ending) (w' : World) : Prop := e = .returned (.bool v) ∧ Bl w w'
theorem keepK {w w8 w9 : World} {p1 p2 p3 p4 p5 p6 p7 : Addr} {v1 v2 v3 v4 v5 v6 v7 : Value} (h : w8.cell? p1 = some v1 ∧ w8.cell? p2 = some v2 ∧ w8.cell? p3 = some v3 ∧ w8.cell? p4 = some v4 ∧ w8.cell? p5 = some v5 ∧ w8.cell? p6 = some v6 ∧ w8.cell? p7 = some v7 ∧ Bl w w8) (k : Bl w8 w9) :
    w9.cell? p1 = some v1 ∧ w9.cell? p2 = some v2 ∧ w9.cell? p3 = some v3 ∧ w9.cell? p4 = some v4 ∧ w9.cell? p5 = some v5 ∧ w9.cell? p6 = some v6 ∧ w9.cell? p7 = some v7 ∧ Bl w w9 := by
  obtain ⟨h1, h2, h3, h4, h5, h6, h7, h8⟩ := h
  exact ⟨k.cell' h1, k.cell' h2, k.cell' h3, k.cell' h4, k.cell' h5, k.cell' h6, k.cell' h7, h8.trans k⟩
set_option maxHeartbeats 4000000 in
theorem seek1_42 {X : Ctx} {w : World} {b bi bl c : Nat} {x : Int} {L : List Rg} {q : Rg → Bool} (h : Seek X w b bi bl c 95 x L) (hq : Ask 95 c x q) (k : Nat) (r : Rg) (hk : L[k]? = some r) (hl : L.length ≤ 1000) :
    Calls Try.prog 92 #[.int .i64 (k : Int), .pointer (some ⟨bi, 0, none⟩), .pointer (some ⟨bl, 0, none⟩)] w (BoolPost w (q r)) := by
  obtain ⟨v, hb, hr⟩ := h.list
  have hlt : k < L.length := (List.getElem?_eq_some_iff.1 hk).1
  have hne : L ≠ [] := by intro e; rw [e] at hlt; simp at hlt
  obtain ⟨g, cap, cur, rfl, _, hnc, hg, _⟩ := hr.form hne
  obtain ⟨c0, c1, c2⟩ := row_cells hr k r hk
  have hcell : w.cell? ⟨b, 0, none⟩ = some (.slice (some ⟨g, 0, none⟩) L.length cap) := by rw [cell_of_row w b 0 _ _ (0, 0) hb]; simp
  have h1 := h.is
  have h2 := h.me
  have h3 := h.place
  have hkI : (k : Int) < (L.length : Int) := by omega
  have hlI : (L.length : Int) ≤ 1000 := by omega
  have HQ := Lib.hid hq; clear hq hb hr hnc hg hne h hk hl
  generalize L.length = n at *
  unfold asks addr0 at *
  have hS : w.cell? ⟨bi, 0, none⟩ = some (.func (.func 95) #[] #[.pointer (some ⟨c, 0, none⟩)]) ∧ w.cell? ⟨bl, 0, none⟩ = some (.pointer (some ⟨b, 0, none⟩)) ∧ w.cell? ⟨c, 0, none⟩ = some (.int .u64 x) ∧ w.cell? ⟨b, 0, none⟩ = some (.slice (some ⟨g, 0, none⟩) n cap) ∧ w.cell? ⟨g, k * 3, none⟩ = some (.int .u64 r.s) ∧ w.cell? ⟨g, k * 3 + 1, none⟩ = some (.int .u64 r.e) ∧ w.cell? ⟨g, k * 3 + 2, none⟩ = some (.int .i64 r.p) ∧ Bl w w := ⟨h1, h2, h3, hcell, c0, c1, c2, Bl.refl _⟩
  have HS := Lib.hid hS; clear hS h1 h2 h3 hcell c0 c1 c2
  obtain ⟨rs, re, rp⟩ := r
  simp only at HS ⊢
  go_enter Try.func92, Try.ntmps92
  go_wp2_with fail
  go_region_held3 (fun w' => w'.cell? ⟨bi, 0, none⟩ = some (.func (.func 95) #[] #[.pointer (some ⟨c, 0, none⟩)]) ∧ w'.cell? ⟨bl, 0, none⟩ = some (.pointer (some ⟨b, 0, none⟩)) ∧ w'.cell? ⟨c, 0, none⟩ = some (.int .u64 x) ∧ w'.cell? ⟨b, 0, none⟩ = some (.slice (some ⟨g, 0, none⟩) n cap) ∧ w'.cell? ⟨g, k * 3, none⟩ = some (.int .u64 rs) ∧ w'.cell? ⟨g, k * 3 + 1, none⟩ = some (.int .u64 re) ∧ w'.cell? ⟨g, k * 3 + 2, none⟩ = some (.int .i64 rp) ∧ Bl w w') (first | assumption | exact HS.out | exact keepK HS.out ((Bl.refl w).drewN 1)) ((go_at_call 95; refine (HQ.out ⟨rs, re, rp⟩ _ (by first | exact HS.out.2.2.1 | (rename_i hh; exact hh.2.2.1))).mono ?_; rintro e w9 ⟨rfl, k9⟩; have hkk := keepK (by first | assumption | exact HS.out) k9))
  all_goals go_wp2
  all_goals go_ret
  all_goals exact ⟨rfl, hkk.2.2.2.2.2.2.2⟩
set_option maxHeartbeats 4000000 in
theorem seek1_44 {X : Ctx} {w : World} {b bi bl c : Nat} {x : Int} {L : List Rg} {q : Rg → Bool} (h : Seek X w b bi bl c 76 x L) (hq : Ask 76 c x q) (k : Nat) (r : Rg) (hk : L[k]? = some r) (hl : L.length ≤ 1000) :
    Calls Try.prog 92 #[.int .i64 (k : Int), .pointer (some ⟨bi, 0, none⟩), .pointer (some ⟨bl, 0, none⟩)] w (BoolPost w (q r)) := by
  obtain ⟨v, hb, hr⟩ := h.list
  have hlt : k < L.length := (List.getElem?_eq_some_iff.1 hk).1
  have hne : L ≠ [] := by intro e; rw [e] at hlt; simp at hlt
  obtain ⟨g, cap, cur, rfl, _, hnc, hg, _⟩ := hr.form hne
  obtain ⟨c0, c1, c2⟩ := row_cells hr k r hk
  have hcell : w.cell? ⟨b, 0, none⟩ = some (.slice (some ⟨g, 0, none⟩) L.length cap) := by rw [cell_of_row w b 0 _ _ (0, 0) hb]; simp
  have h1 := h.is
  have h2 := h.me
  have h3 := h.place
  have hkI : (k : Int) < (L.length : Int) := by omega
  have hlI : (L.length : Int) ≤ 1000 := by omega
  have HQ := Lib.hid hq; clear hq hb hr hnc hg hne h hk hl
  generalize L.length = n at *
  unfold asks addr0 at *
  have hS : w.cell? ⟨bi, 0, none⟩ = some (.func (.func 76) #[] #[.pointer (some ⟨c, 0, none⟩)]) ∧ w.cell? ⟨bl, 0, none⟩ = some (.pointer (some ⟨b, 0, none⟩)) ∧ w.cell? ⟨c, 0, none⟩ = some (.int .u64 x) ∧ w.cell? ⟨b, 0, none⟩ = some (.slice (some ⟨g, 0, none⟩) n cap) ∧ w.cell? ⟨g, k * 3, none⟩ = some (.int .u64 r.s) ∧ w.cell? ⟨g, k * 3 + 1, none⟩ = some (.int .u64 r.e) ∧ w.cell? ⟨g, k * 3 + 2, none⟩ = some (.int .i64 r.p) ∧ Bl w w := ⟨h1, h2, h3, hcell, c0, c1, c2, Bl.refl _⟩
  have HS := Lib.hid hS; clear hS h1 h2 h3 hcell c0 c1 c2
  obtain ⟨rs, re, rp⟩ := r
  simp only at HS ⊢
  go_enter Try.func92, Try.ntmps92
  go_wp2_with fail
  go_region_held3 (fun w' => w'.cell? ⟨bi, 0, none⟩ = some (.func (.func 76) #[] #[.pointer (some ⟨c, 0, none⟩)]) ∧ w'.cell? ⟨bl, 0, none⟩ = some (.pointer (some ⟨b, 0, none⟩)) ∧ w'.cell? ⟨c, 0, none⟩ = some (.int .u64 x) ∧ w'.cell? ⟨b, 0, none⟩ = some (.slice (some ⟨g, 0, none⟩) n cap) ∧ w'.cell? ⟨g, k * 3, none⟩ = some (.int .u64 rs) ∧ w'.cell? ⟨g, k * 3 + 1, none⟩ = some (.int .u64 re) ∧ w'.cell? ⟨g, k * 3 + 2, none⟩ = some (.int .i64 rp) ∧ Bl w w') (first | assumption | exact HS.out | exact keepK HS.out ((Bl.refl w).drewN 1)) ((go_at_call 76; refine (HQ.out ⟨rs, re, rp⟩ _ (by first | exact HS.out.2.2.1 | (rename_i hh; exact hh.2.2.1))).mono ?_; rintro e w9 ⟨rfl, k9⟩; have hkk := keepK (by first | assumption | exact HS.out) k9))
  all_goals go_wp2
  all_goals go_ret
  all_goals exact ⟨rfl, hkk.2.2.2.2.2.2.2⟩
set_option maxHeartbeats 4000000 in
theorem seek1_47 {X : Ctx} {w : World} {b bi bl c : Nat} {x : Int} {L : List Rg} {q : Rg → Bool} (h : Seek X w b bi bl c 79 x L) (hq : Ask 79 c x q) (k : Nat) (r : Rg) (hk : L[k]? = some r) (hl : L.length ≤ 1000) :
    Calls Try.prog 92 #[.int .i64 (k : Int), .pointer (some ⟨bi, 0, none⟩), .pointer (some ⟨bl, 0, none⟩)] w (BoolPost w (q r)) := by
  obtain ⟨v, hb, hr⟩ := h.list
  have hlt : k < L.length := (List.getElem?_eq_some_iff.1 hk).1
  have hne : L ≠ [] := by intro e; rw [e] at hlt; simp at hlt
  obtain ⟨g, cap, cur, rfl, _, hnc, hg, _⟩ := hr.form hne
  obtain ⟨c0, c1, c2⟩ := row_cells hr k r hk
  have hcell : w.cell? ⟨b, 0, none⟩ = some (.slice (some ⟨g, 0, none⟩) L.length cap) := by rw [cell_of_row w b 0 _ _ (0, 0) hb]; simp
  have h1 := h.is
  have h2 := h.me
  have h3 := h.place
  have hkI : (k : Int) < (L.length : Int) := by omega
  have hlI : (L.length : Int) ≤ 1000 := by omega
  have HQ := Lib.hid hq; clear hq hb hr hnc hg hne h hk hl
  generalize L.length = n at *
  unfold asks addr0 at *
  have hS : w.cell? ⟨bi, 0, none⟩ = some (.func (.func 79) #[] #[.pointer (some ⟨c, 0, none⟩)]) ∧ w.cell? ⟨bl, 0, none⟩ = some (.pointer (some ⟨b, 0, none⟩)) ∧ w.cell? ⟨c, 0, none⟩ = some (.int .u64 x) ∧ w.cell? ⟨b, 0, none⟩ = some (.slice (some ⟨g, 0, none⟩) n cap) ∧ w.cell? ⟨g, k * 3, none⟩ = some (.int .u64 r.s) ∧ w.cell? ⟨g, k * 3 + 1, none⟩ = some (.int .u64 r.e) ∧ w.cell? ⟨g, k * 3 + 2, none⟩ = some (.int .i64 r.p) ∧ Bl w w := ⟨h1, h2, h3, hcell, c0, c1, c2, Bl.refl _⟩
  have HS := Lib.hid hS; clear hS h1 h2 h3 hcell c0 c1 c2
  obtain ⟨rs, re, rp⟩ := r
  simp only at HS ⊢
  go_enter Try.func92, Try.ntmps92
  go_wp2_with fail
  go_region_held3 (fun w' => w'.cell? ⟨bi, 0, none⟩ = some (.func (.func 79) #[] #[.pointer (some ⟨c, 0, none⟩)]) ∧ w'.cell? ⟨bl, 0, none⟩ = some (.pointer (some ⟨b, 0, none⟩)) ∧ w'.cell? ⟨c, 0, none⟩ = some (.int .u64 x) ∧ w'.cell? ⟨b, 0, none⟩ = some (.slice (some ⟨g, 0, none⟩) n cap) ∧ w'.cell? ⟨g, k * 3, none⟩ = some (.int .u64 rs) ∧ w'.cell? ⟨g, k * 3 + 1, none⟩ = some (.int .u64 re) ∧ w'.cell? ⟨g, k * 3 + 2, none⟩ = some (.int .i64 rp) ∧ Bl w w') (first | assumption | exact HS.out | exact keepK HS.out ((Bl.refl w).drewN 1)) ((go_at_call 79; refine (HQ.out ⟨rs, re, rp⟩ _ (by first | exact HS.out.2.2.1 | (rename_i hh; exact hh.2.2.1))).mono ?_; rintro e w9 ⟨rfl, k9⟩; have hkk := keepK (by first | assumption | exact HS.out) k9))
  all_goals go_wp2
  all_goals go_ret
  all_goals exact ⟨rfl, hkk.2.2.2.2.2.2.2⟩
end Go.Proofs.Ytpalhkfipnbcnaa
