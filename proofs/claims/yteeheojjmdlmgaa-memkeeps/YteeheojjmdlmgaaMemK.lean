/-
  A heap below a wall; one byte that is put.
-/
import Derived.Test.YteeheojjmdlmgaaMemJ
import Derived.Test.YteeheojjmdlmgaaLawR
set_option linter.unusedVariables false
set_option linter.unusedSimpArgs false
namespace Go.Proofs.Yteeheojjmdlmgaa
open Go.RowKit
set_option maxRecDepth 100000
/-- One byte out of a literal. -/
theorem mput_one {T : Nat → Prop} {W : World} {sb n : Nat} {L : List Rg} {M st : Nat → Int} {mo ba en : Int} (h : MS T W sb n L M st mo ba en) (a : Nat) (y : Int) (hy : 0 ≤ y ∧ y ≤ 255) (ha : a < 2 ^ 64) (hn : n < 10000000) (hT : ∀ b, W.heap.size ≤ b → T b) :
    Calls Try.prog 10 #[addr0 sb, .int .u64 (a : Int), .slice (some ⟨W.heap.size, 0, none⟩) 1 1] (W.alloc (.cells #[.int .u8 y] 5)) fun e w' => e = .returned (.tuple #[]) ∧ ∃ M' st', MS T w' sb (n + 6) L M' st' mo ba en ∧ ((∃ q, In L a q) → M' = lay M a [y]) ∧ ((∀ q, ¬ In L a q) → M' = M) ∧ Fr T W w' := by
  have hg := h.gap (Bl.new W (.cells #[.int .u8 y] 5)) W.heap.size (W.alloc (.cells #[.int .u8 y] 5)).heap.size (Nat.le_refl _)
  have hsz : (W.alloc (.cells #[.int .u8 y] 5)).heap.size = W.heap.size + 1 := by simp
  refine (mput_any hg a (some ⟨W.heap.size, 0, none⟩) 1 1 [y] (one_cell W y) rfl (by omega) (fun k => ?_) (fun _ ad e e2 => ?_) ha (by omega) hn (gap_new hT W.heap.size (by omega))
    (fun t M1 st1 => (t = 0 ∧ M1 = M) ∨ (t = 1 ∧ ((∃ q, In L a q) → M1 = lay M a [y]) ∧ ((∀ q, ¬ In L a q) → M1 = M))) (.inl ⟨rfl, rfl⟩) ?_).mono ?_
  · rcases k with _ | k
    · exact hy
    · simp
  · cases e
    exact e2.2 ⟨Nat.le_refl _, by rw [hsz]; exact Nat.lt_succ_self _⟩
  · intro t M1 st1 c d hp ht hc hd
    rcases hp with ⟨rfl, rfl⟩ | ⟨rfl, _⟩
    · simp only [Nat.add_zero] at hc
      obtain rfl : c = a := by omega
      obtain rfl : d = 1 := by simp only [List.length_singleton] at hd; omega
      refine ⟨fun hin st' _ => .inr ⟨rfl, fun _ => rfl, fun hno => ?_⟩, fun hno => .inr ⟨rfl, fun ⟨q, hq⟩ => absurd hq (hno q), fun _ => rfl⟩⟩
      obtain ⟨q, hq⟩ := hin
      exact absurd hq (hno q)
    · simp at ht
  · rintro e w' ⟨rfl, M', st', m, hp, f⟩
    rcases hp with ⟨h0, _⟩ | ⟨_, h1, h2⟩
    · cases h0
    · exact ⟨rfl, M', st', m.ungap, h1, h2, (Fr.of_bl (Bl.new W _)).trans f.ungap⟩
theorem so_of {L : List Rg} (h : Rs L) {lo hi : Int} (hb : ∀ x p, In L x p → lo ≤ x ∧ x < hi) : So lo hi L := by
  refine ⟨h.nm.so.1, fun r hr => ?_⟩
  have h1 := h.nm.so.2 r hr
  have h2 := hb r.s r.p ⟨r, hr, by omega, by omega, rfl⟩
  have h3 := hb (r.e - 1) r.p ⟨r, hr, by omega, by omega, rfl⟩
  omega
/-- A heap that ends at en, below a page at place at. -/
structure HI (L : List Rg) (M : Nat → Int) (en at_ : Int) : Prop where
  rs : Rs L
  pl : ∀ x q, In L x q ↔ q = 3 ∧ ((8192 ≤ x ∧ x < (en + 4095) / 4096 * 4096) ∨ (at_ ≤ x ∧ x < at_ + 4096))
  zero : ∀ x : Nat, (x : Int) < at_ → M x = 0
  e0 : 8192 ≤ en
  e1 : (en + 4095) / 4096 * 4096 ≤ at_
  a0 : at_ % 4096 = 0
  a1 : at_ ≤ 126976
theorem HI.few {L : List Rg} {M : Nat → Int} {en at_ : Int} (h : HI L M en at_) : L.length ≤ 32 ∧ tot L ≤ 122880 := by
  have h1 := h.a1
  have e1 := h.e1
  have hb : ∀ x p, In L x p → 8192 ≤ x ∧ x < at_ + 4096 := fun x p hx => by
    have := (h.pl x p).1 hx
    have := h.e0
    omega
  refine ⟨h.rs.few 32 (by omega) (fun a p ha => by have := hb a p ha; omega), ?_⟩
  have := So.tot_le (so_of h.rs hb) (by have := h.e0; omega)
  omega
theorem wiped_zero {M : Nat → Int} {at_ : Int} (h : ∀ x : Nat, (x : Int) < at_ → M x = 0) (a b : Nat) : ∀ x : Nat, (x : Int) < at_ → wiped M a b x = 0 := fun x hx => by
  simp only [wiped]
  split
  · rfl
  · exact h x hx
/-- What becomes of it when its end moves. -/
theorem HI.grow {L : List Rg} {M : Nat → Int} {en at_ : Int} (h : HI L M en at_) {x : Int} (h1 : (en + 4095) / 4096 * 4096 < (x + 4095) / 4096 * 4096) (h2 : (x + 4095) / 4096 * 4096 ≤ at_) (hx : 0 ≤ x) (was now : Nat) (hw : (was : Int) = (en + 4095) / 4096 * 4096) (hn : (now : Int) = (x + 4095) / 4096 * 4096) : HI (layL L was now [⟨was, now, 3⟩]) (wiped M was now) x at_ := by
  have a0 := h.a0
  have a1 := h.a1
  have e0 := h.e0
  have hs : Span (was : Int) (now : Int) := ⟨by omega, by omega, by omega, by omega⟩
  refine ⟨h.rs.lay (by omega) hs, fun y q => ?_, wiped_zero h.zero _ _, by omega, h2, a0, a1⟩
  rw [lay_in h.rs (by omega) hs, h.pl, hw, hn]
  omega
theorem HI.shrink {L : List Rg} {M : Nat → Int} {en at_ : Int} (h : HI L M en at_) {x : Int} (h1 : (x + 4095) / 4096 * 4096 < (en + 4095) / 4096 * 4096) (h2 : 8192 ≤ x) (was now : Nat) (hw : (was : Int) = (en + 4095) / 4096 * 4096) (hn : (now : Int) = (x + 4095) / 4096 * 4096) : HI (layL L now was []) (wiped M now was) x at_ := by
  have a0 := h.a0
  have a1 := h.a1
  have e1 := h.e1
  have hs : Span (now : Int) (was : Int) := ⟨by omega, by omega, by omega, by omega⟩
  refine ⟨h.rs.cut (by omega) hs, fun y q => ?_, wiped_zero h.zero _ _, h2, by omega, a0, a1⟩
  rw [cut_in h.rs (by omega) hs, h.pl, hw, hn]
  omega
theorem HI.stay {L : List Rg} {M : Nat → Int} {en at_ : Int} (h : HI L M en at_) {x : Int} (h1 : (x + 4095) / 4096 * 4096 = (en + 4095) / 4096 * 4096) (h2 : 8192 ≤ x) : HI L M x at_ := ⟨h.rs, fun y q => by rw [h.pl, h1], h.zero, h2, by rw [h1]; exact h.e1, h.a0, h.a1⟩
theorem MS.setEnd {T : Nat → Prop} {w : World} {sb n : Nat} {L : List Rg} {M st : Nat → Int} {mo ba en x : Int} (h : MS T w sb n L M st mo ba en) (h0 : 0 ≤ x) (h1 : x ≤ 274877906944) : MS T (w.setCell ⟨sb, 7, none⟩ (.int .u64 x)) sb n L M st mo ba x := by
  have hh := h.heap
  refine h.setNums (Fr.set (S := only sb) (p := ⟨sb, 7, none⟩) rfl _) (fun v pm sm c l hb => ?_) ⟨hh.1, hh.2.1, h0, h1⟩
  rw [heap_setCell_same w sb 7 _ 61 (.int .u64 x) hb]; rfl
theorem heap_brk {T : Nat → Prop} {w : World} {sb n : Nat} {L : List Rg} {M st : Nat → Int} {en at_ : Int} (hi : HI L M en at_) (h : MS T w sb n L M st 40 8192 en) (x : Int) (h0 : 0 ≤ x) (h1 : x < 200000) (hn : n < 70000000) (hT : ∀ b, w.heap.size ≤ b → T b) :
    Calls Try.prog 18 #[addr0 sb, .int .u64 x] w fun e w' => ∃ y L' M' st', e = .returned (.int .u64 y) ∧ ((8192 ≤ x ∧ (x + 4095) / 4096 * 4096 ≤ at_ ∧ y = x) ∨ (¬ (8192 ≤ x ∧ (x + 4095) / 4096 * 4096 ≤ at_) ∧ y = en)) ∧ HI L' M' y at_ ∧ MS T w' sb (n + 8192) L' M' st' 40 8192 y ∧ Fr T w w' := by
  have a1 := hi.a1
  have e0 := hi.e0
  have e1 := hi.e1
  obtain ⟨u1, u2, u3, u4⟩ := upN_of (x := x) (by omega) (by omega)
  obtain ⟨v1, v2, v3, v4⟩ := upN_of (x := en) (by omega) (by omega)
  refine (mbrk_any h x h0 (by omega) hT (fun W L' q1 q2 q3 q4 q5 q6 => mclear_any q6 _ _ q1 q2 q3 q4 (by omega) (by omega) (fun b hb => hT b (Nat.le_trans q5 hb)))).mono ?_
  rintro e w' ⟨y, rfl, hb⟩
  rcases hb with ⟨c1, rfl, k⟩ | ⟨c1, c2, ok, w1, hr, hy⟩
  · exact ⟨_, L, M, st, rfl, .inr ⟨fun e => c1 ⟨e.1, by omega⟩, rfl⟩, hi, (h.bl k).mono (by omega), Fr.of_bl k⟩
  · rcases hr with ⟨r1, rfl, r3, r4, r5, st', g1, g2, g3⟩ | ⟨r1, rfl, r3, st', g1, g2, g3⟩ | ⟨r1, rfl, k⟩ | ⟨rfl, k, r1⟩
    · rcases hy with ⟨hx, _⟩ | ⟨_, rfl, rfl⟩
      · cases hx
      have hat : (upN y : Int) ≤ at_ := by
        rcases Int.lt_or_le at_ (upN y : Int) with h9 | h9
        · exact absurd ((hi.pl at_ 3).2 ⟨rfl, .inr (by omega)⟩) (r3 at_ 3 (by omega) h9)
        · exact h9
      exact ⟨_, _, _, st', rfl, .inl ⟨c1, by omega, rfl⟩, hi.grow (by omega) (by omega) h0 _ _ v4 u4, g1.setEnd (by omega) (by omega), g3.trans (Fr.set h.own _)⟩
    · rcases hy with ⟨hx, _⟩ | ⟨_, rfl, rfl⟩
      · cases hx
      exact ⟨_, _, _, st', rfl, .inl ⟨c1, by omega, rfl⟩, hi.shrink (by omega) c1 _ _ v4 u4, g1.setEnd (by omega) (by omega), g3.trans (Fr.set h.own _)⟩
    · rcases hy with ⟨hx, _⟩ | ⟨_, rfl, rfl⟩
      · cases hx
      exact ⟨_, L, M, st, rfl, .inl ⟨c1, by omega, rfl⟩, hi.stay (by omega) c1, ((h.bl k).setEnd (by omega) (by omega)).mono (by omega), (Fr.of_bl k).trans (Fr.set h.own _)⟩
    · have hy' : y = en ∧ w' = w1 := by
        rcases hy with ⟨_, h8, h9⟩ | ⟨hx, _⟩
        · exact ⟨h8, h9⟩
        · cases hx
      obtain ⟨rfl, rfl⟩ := hy'
      refine ⟨_, L, M, st, rfl, .inr ⟨fun hx => ?_, rfl⟩, hi, (h.bl k).mono (by omega), Fr.of_bl k⟩
      rcases r1 with ⟨r1, r2⟩ | ⟨r1, r2⟩
      · have hg := hi.grow (x := x) (by omega) hx.2 h0 _ _ v4 u4
        have hfew := hg.few
        rcases r2 with r2 | r2 | r2
        · refine r2 fun z p z1 z2 hin => ?_
          have := (hi.pl z p).1 hin
          omega
        · omega
        · omega
      · have hg := hi.shrink (x := x) (by omega) hx.1 _ _ v4 u4
        have hfew := hg.few
        omega
end Go.Proofs.Yteeheojjmdlmgaa
