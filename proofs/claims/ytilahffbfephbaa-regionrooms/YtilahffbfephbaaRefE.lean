/-
  A list and a space that are the same; built.
-/
import Derived.Test.YtilahffbfephbaaRefD
import Derived.Test.YtilahffbfephbaaRegJ
set_option linter.unusedVariables false
set_option linter.unusedSimpArgs false
namespace Go.Proofs.Ytilahffbfephbaa
open Go.RowKit
set_option maxRecDepth 100000
theorem regs_rs {P : List Pg} (h : Pgs 100 P) : Rs (regs P) := (regs_all h (by omega)).1
theorem regs_in {P : List Pg} (h : Pgs 100 P) (a q : Int) : In (regs P) a q ↔ OnP P a q := (regs_all h (by omega)).2.1 a q
theorem regs_len {P : List Pg} (h : Pgs 100 P) : (regs P).length ≤ 100 := by
  have h1 := (regs_all h (by omega)).2.2.2
  have h2 := h.len
  omega
theorem onP_lt {P : List Pg} (h : Pgs 100 P) {a q : Int} (k : OnP P a q) : 0 ≤ a ∧ a < 409600 := by
  obtain ⟨x, hx, h1, h2, h3⟩ := k
  have := h.2 x hx
  omega
theorem lay_few {P : List Pg} (h : Pgs 100 P) {s t p : Int} (h0 : 0 ≤ s) (hs : Span s t) (ht : t ≤ 409600) : (layL (regs P) s t [⟨s, t, p⟩]).length ≤ 256 := by
  have := ((regs_rs h).lay (p := p) h0 hs).few 100 (by omega) (fun a r k => by
    rcases (lay_in (regs_rs h) h0 hs a r).1 k with k | k
    · omega
    · have := onP_lt h ((regs_in h a r).1 k.2); omega)
  omega
theorem cut_few {P : List Pg} (h : Pgs 100 P) {s t : Int} (h0 : 0 ≤ s) (hs : Span s t) : (layL (regs P) s t []).length ≤ 256 := by
  have := ((regs_rs h).cut h0 hs).few 100 (by omega) (fun a r k => by
    have k := (cut_in (regs_rs h) h0 hs a r).1 k
    have := onP_lt h ((regs_in h a r).1 k.2); omega)
  omega
theorem lay_regs {P P' : List Pg} (h : Pgs 100 P) (h' : Pgs 100 P') {s t p : Int} (h0 : 0 ≤ s) (hs : Span s t) (hon : ∀ a q, OnP P' a q ↔ (s ≤ a ∧ a < t ∧ p = q) ∨ ((a < s ∨ t ≤ a) ∧ OnP P a q)) : layL (regs P) s t [⟨s, t, p⟩] = regs P' := by
  refine ((regs_rs h).lay h0 hs).eq (regs_rs h') fun a q => ?_
  rw [lay_in (regs_rs h) h0 hs, regs_in h, regs_in h', hon]
theorem cut_regs {P P' : List Pg} (h : Pgs 100 P) (h' : Pgs 100 P') {s t : Int} (h0 : 0 ≤ s) (hs : Span s t) (hon : ∀ a q, OnP P' a q ↔ (a < s ∨ t ≤ a) ∧ OnP P a q) : layL (regs P) s t [] = regs P' := by
  refine ((regs_rs h).cut h0 hs).eq (regs_rs h') fun a q => ?_
  rw [cut_in (regs_rs h) h0 hs, regs_in h, regs_in h', hon]
/-- A list and a space of the same pages, both of the call's own. -/
structure Both (w : World) (b sb : Nat) (P : List Pg) (wr : World) : Prop where
  list : ListAt wr b (regs P)
  space : SpaceAt wr sb P
  pgs : Pgs 100 P
  bl : Bl w wr
  b0 : w.heap.size ≤ b
  s0 : w.heap.size ≤ sb
theorem Both.next {w wr w' : World} {b sb : Nat} {P : List Pg} (h : Both w b sb P wr) (k : Bl wr w') : Both w b sb P w' :=
  ⟨h.list.bl k, h.space.bl k, h.pgs, h.bl.trans k, h.b0, h.s0⟩
/-- The list has turned, then the space. -/
theorem Both.lay {w wr w1 w2 : World} {b sb : Nat} {P P' : List Pg} {s t p : Int} (h : Both w b sb P wr) (h0 : 0 ≤ s) (hs : Span s t) (l1 : ListAt w1 b (layL (regs P) s t [⟨s, t, p⟩])) (f1 : Fr (only b) wr w1) (f2 : Fr (only sb) w1 w2)
    (s2 : SpaceAt w2 sb P') (hp : Pgs 100 P') (hon : ∀ a q, OnP P' a q ↔ (s ≤ a ∧ a < t ∧ p = q) ∨ ((a < s ∨ t ≤ a) ∧ OnP P a q)) : Both w b sb P' w2 := by
  rw [lay_regs h.pgs hp h0 hs hon] at l1
  have s1 := space_list h.list h.space f1
  exact ⟨list_space l1 s1 f2, s2, hp, Fr.only_new (Fr.only_new h.bl f1 h.b0) f2 h.s0, h.b0, h.s0⟩
theorem Both.cut {w wr w1 w2 : World} {b sb : Nat} {P P' : List Pg} {s t : Int} (h : Both w b sb P wr) (h0 : 0 ≤ s) (hs : Span s t) (l1 : ListAt w1 b (layL (regs P) s t [])) (f1 : Fr (only b) wr w1) (f2 : Fr (only sb) w1 w2)
    (s2 : SpaceAt w2 sb P') (hp : Pgs 100 P') (hon : ∀ a q, OnP P' a q ↔ (a < s ∨ t ≤ a) ∧ OnP P a q) : Both w b sb P' w2 := by
  rw [cut_regs h.pgs hp h0 hs hon] at l1
  have s1 := space_list h.list h.space f1
  exact ⟨list_space l1 s1 f2, s2, hp, Fr.only_new (Fr.only_new h.bl f1 h.b0) f2 h.s0, h.b0, h.s0⟩
def BuiltPost (w : World) (e : Ending) (w' : World) : Prop := ∃ b sb P, e = .returned (.tuple #[addr0 b, addr0 sb]) ∧ Both w b sb P w'
theorem regs_nil : regs [] = [] := rfl
set_option maxHeartbeats 4000000 in
theorem built_any (w : World) (A : Option Addr) (len cap : Nat) (h : Byts w A len) (hl : len ≤ 9223372036854775807) : Calls Try.prog 24 #[.slice A len cap] w (BuiltPost w) := by
  have HBY := Lib.hid h; clear h
  have hlI : (len : Int) ≤ 9223372036854775807 := by omega
  have hl0 : (0 : Int) ≤ (len : Int) := by omega
  go_enter Try.func24, Try.ntmps24
  go_wp2_with fail
  refine (new_any _).mono ?_
  rintro e w1 ⟨b, rfl, hb, l1, k1⟩
  have HB := Lib.hid hb; clear hb
  have L1 := Lib.hid l1; clear l1
  have K1 := Lib.hid k1; clear k1
  go_wp2_with fail
  refine (newS_any _).mono ?_
  rintro e w2 ⟨sb, rfl, hsb, l2, k2⟩
  have hboth : Both w b sb [] w2 := ⟨by rw [regs_nil]; exact L1.out.bl k2, l2, Pgs.nil _, K1.out.trans k2, HB.out, Nat.le_trans K1.out.size hsb⟩
  have HBO := Lib.hid hboth; clear hboth hsb l2 k2 HB L1 K1
  unfold addr0
  go_wp2_with fail
  go_loopw [6] (fun i wr => ∃ (k : Nat) (P : List Pg), k ≤ 60 ∧ i = .int .i64 k ∧ Both w b sb P wr) (fun i _ => 60 - (intOf i).toNat)
  case atStart => exact ⟨0, [], by omega, rfl, HBO.out⟩
  case round =>
    obtain ⟨k, P, hk, rfl, hbo⟩ := hrel
    clear HBO
    have HBO := Lib.hid hbo; clear hbo
    have hkI : (k : Int) ≤ 60 := by omega
    by_cases hgo : k < len ∧ k < 60
    · obtain ⟨g1, g2⟩ := hgo
      obtain ⟨bb, off, ha, hcs⟩ := (HBY.out.bl HBO.out.bl) (by omega)
      subst ha
      obtain ⟨c, hc, c0, c1⟩ := hcs k g1
      clear hcs
      have g1I : (k : Int) < (len : Int) := by omega
      have g2I : (k : Int) < 60 := by omega
      by_cases h8 : c % 16 < 8
      · have hsp : Span ((k : Int) * 4096) (((k : Int) + 1) * 4096) := ⟨by omega, by omega, by omega, by omega⟩
        have HSP := Lib.hid hsp; clear hsp
        have c2 : 0 ≤ c % 16 := by omega
        have c3 : c % 16 ≤ 7 := by omega
        go_wp2_with fail
        refine (map_ok HBO.out.list _ _ _ (by omega) HSP.out c2 c3 (by have := regs_len HBO.out.pgs; omega) (lay_few HBO.out.pgs (by omega) HSP.out (by omega))).mono ?_
        rintro e w3 ⟨rfl, l3, f3⟩
        have L3 := Lib.hid l3; clear l3
        have S3 := Lib.hid (space_list HBO.out.list HBO.out.space f3)
        have F3 := Lib.hid f3; clear f3
        have K3 := Lib.hid (Fr.only_new HBO.out.bl F3.out HBO.out.b0)
        have hc3 := K3.out.cell' (HBO.out.bl.cell' (p := ⟨bb, off + k, none⟩) (v := .int .u8 c) (by
          obtain ⟨bb', off', ha', hcs'⟩ := HBY.out (by omega)
          cases ha'
          obtain ⟨c', hc', _⟩ := hcs' k g1
          have := HBO.out.bl.cell' hc'
          rw [hc] at this
          cases this
          exact hc') |> fun h => by
            obtain ⟨bb', off', ha', hcs'⟩ := HBY.out (by omega)
            cases ha'
            obtain ⟨c', hc', _⟩ := hcs' k g1
            have := HBO.out.bl.cell' hc'
            rw [hc] at this
            cases this
            exact hc')
        go_wp2_with fail
        refine (rlay_any S3.out HBO.out.pgs _ _ _ (by omega) HSP.out (by omega)).mono ?_
        rintro e w4 ⟨rfl, P', s4, p4, o4, f4⟩
        have hbo2 := Lib.hid (HBO.out.lay (by omega) HSP.out L3.out F3.out f4 s4 p4 o4)
        clear s4 p4 o4 f4 hc3 hc
        go_wp2_with fail
        refine ⟨⟨k + 1, P', by omega, by go_num, hbo2.out⟩, ?_⟩
        simp only [intOf]; omega
      · have h8' : 8 ≤ c % 16 := by omega
        go_wp2_with fail
        refine ⟨⟨k + 1, P, by omega, by go_num, HBO.out⟩, ?_⟩
        simp only [intOf]; omega
    · by_cases h1 : k < len
      · have h1I : (k : Int) < (len : Int) := by omega
        have h2 : 60 ≤ (k : Int) := by omega
        clear hgo
        go_wp2_with fail
        go_ret2
        exact ⟨b, sb, P, rfl, HBO.out⟩
      · have h1I : (len : Int) ≤ (k : Int) := by omega
        clear hgo
        go_wp2_with fail
        go_ret2
        exact ⟨b, sb, P, rfl, HBO.out⟩
end Go.Proofs.Ytilahffbfephbaa
