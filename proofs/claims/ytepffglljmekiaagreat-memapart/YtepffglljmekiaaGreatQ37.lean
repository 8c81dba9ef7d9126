/-
  What each call that may change a space leaves: bytes or prots that changed have a greater stamp.
  Brk, SetBrk, Store, Put and Out as turns of a space.
-/
import Derived.Test.YtepffglljmekiaaGreatQ34
import Derived.Test.YtepffglljmekiaaGreatQ36
set_option linter.unusedVariables false
set_option linter.unusedSimpArgs false
namespace Go.Proofs.YtepffglljmekiaaGreat
open Go.RowKit
set_option maxRecDepth 100000
theorem mclear_all {T : Nat → Prop} {w : World} {sb n : Nat} {L : List Rg} {M st : Nat → Int} {mo ba en : Int} (h : MS T w sb n L M st mo ba en) (a b : Nat) (ha : a % 4096 = 0) (hb : b % 4096 = 0) (hab : a < b) (hbt : b ≤ 274877906944) (hn : n < 80000000) (hT : ∀ b, w.heap.size ≤ b → T b) :
    Calls Tryz.prog 68 #[.pointer (some ⟨sb, 1, none⟩), .int .u64 (a : Int), .int .u64 (b : Int)] w fun e w' => e = .returned (.tuple #[]) ∧ ClearPost T w sb n L M st mo ba en a b w' := by
  by_cases hnar : b - a ≤ 16777216
  · exact mclear_any h a b ha hb hab hbt hnar hn hT
  · obtain ⟨rg, f, k0, h1, h2, h3⟩ := h.ex
    have cc := clear_wide h1 (a / 4096) (b / 4096 - 1) (by omega) (by omega) hn (off_new h2 hT)
    rw [show a / 4096 * 4096 = a by omega, show (b / 4096 - 1 + 1) * 4096 = b by omega] at cc
    refine cc.mono ?_
    rintro e w' ⟨rfl, ⟨f', k', st', h4, hr⟩, hf⟩
    exact ⟨rfl, st', h.stored h2 h3 h4 hf (wiped_bd h.by_ a b), hr.mono fun p hp => by omega, hf.off_of⟩
theorem clears_all {T : Nat → Prop} {w : World} {sb n : Nat} {M st : Nat → Int} {mo ba en : Int} (a b : Nat) (hn : n < 80000000) (hT : ∀ b, w.heap.size ≤ b → T b) : Clears T w sb n M st mo ba en a b :=
  fun W L' q1 q2 q3 q4 q5 q6 => mclear_all q6 a b q1 q2 q3 q4 hn (fun b hb => hT b (Nat.le_trans q5 hb))
/-- Whatever changed has a greater stamp. -/
def Step (L L' : List Rg) (M M' st st' : Nat → Int) : Prop := ∀ p, p < 2 ^ 64 → st p ≤ st' p ∧ (((∃ x : Nat, x / 4096 = p ∧ M' x ≠ M x) ∨ (∃ q, ¬ (In L ((p : Int) * 4096) q ↔ In L' ((p : Int) * 4096) q))) → st p < st' p)
theorem Step.refl (L : List Rg) (M st : Nat → Int) : Step L L M M st st := fun p _ => ⟨Int.le_refl _, fun h => by
  rcases h with ⟨x, _, hx⟩ | ⟨q, hq⟩
  · exact absurd rfl hx
  · exact absurd Iff.rfl hq⟩
theorem Step.bytes {L : List Rg} {M M' st st' : Nat → Int} (h : Rise st st' (fun p => ∃ x : Nat, x / 4096 = p ∧ M' x ≠ M x)) : Step L L M M' st st' := fun p hp => ⟨(h p hp).1, fun e => by
  rcases e with e | ⟨q, hq⟩
  · exact (h p hp).2 e
  · exact absurd Iff.rfl hq⟩
/-- What a call leaves of a space. -/
def Turned (T : Nat → Prop) (w : World) (sb n : Nat) (L : List Rg) (M st : Nat → Int) (mo : Int) (w' : World) : Prop := ∃ L' M' st' ba' en', MS T w' sb (n + 40000) L' M' st' mo ba' en' ∧ Step L L' M M' st st' ∧ Fr T w w'
section
variable {T : Nat → Prop} {w w' : World} {sb n : Nat} {L : List Rg} {M st : Nat → Int} {mo ba en : Int}
theorem Turned.none_ (h : MS T w sb n L M st mo ba en) (k : Bl w w') : Turned T w sb n L M st mo w' := ⟨L, M, st, ba, en, (h.bl k).mono (by omega), Step.refl _ _ _, Fr.of_bl k⟩
/-- A span is laid and cleared. -/
theorem Turned.clear {L' : List Rg} {a b : Nat} (h : ClearPost T w sb n L' M st mo ba en a b w') (ha : a % 4096 = 0) (hb : b % 4096 = 0) (hin : ∀ x q, (x < (a : Int) ∨ (b : Int) ≤ x) → (In L x q ↔ In L' x q)) : Turned T w sb n L M st mo w' := by
  obtain ⟨st', h1, h2, h3⟩ := h
  refine ⟨L', _, st', ba, en, h1.mono (by omega), fun p hp => ⟨(h2 p hp).1, fun e => (h2 p hp).2 ?_⟩, h3⟩
  rcases e with ⟨x, hx, hne⟩ | ⟨q, hq⟩
  · have hxx : a ≤ x ∧ x < b := by
      simp only [wiped] at hne
      by_cases hc : a ≤ x ∧ x < b
      · exact hc
      · rw [if_neg hc] at hne; exact absurd rfl hne
    omega
  · rcases Nat.lt_or_ge (p * 4096) a with h4 | h4
    · exact absurd (hin _ q (.inl (by omega))) hq
    · rcases Nat.lt_or_ge (p * 4096) b with h5 | h5
      · exact ⟨h4, h5⟩
      · exact absurd (hin _ q (.inr (by omega))) hq
theorem Turned.lay (h : MS T w sb n L M st mo ba en) {a b : Nat} {p r : Int} (hl : LayAny T w sb n L M st mo ba en a b p r w') : Turned T w sb n L M st mo w' := by
  rcases hl with ⟨_, hs, _, _, _, _, hc⟩ | ⟨_, _, k⟩ | ⟨_, _, _, k⟩
  · refine Turned.clear hc (by have := hs.1; omega) (by have := hs.2.1; omega) fun x q hx => ?_
    rw [lay_in h.rs (by omega) hs]
    exact ⟨fun e => .inr ⟨hx, e⟩, fun e => by rcases e with ⟨e1, e2, _⟩ | ⟨_, e⟩; omega; exact e⟩
  · exact Turned.none_ h k
  · exact Turned.none_ h k
end
theorem map_turn {T : Nat → Prop} {w : World} {sb n : Nat} {L : List Rg} {M st : Nat → Int} {mo ba en : Int} (h : MS T w sb n L M st mo ba en) (a : Nat) (size p : Int) (fx : Bool) (ha : a < 2 ^ 64) (h0 : 0 ≤ size) (hn : n < 70000000) (hT : ∀ b, w.heap.size ≤ b → T b) :
    Calls Tryz.prog 16 #[addr0 sb, .int .u64 (a : Int), .int .u64 size, .int .i64 p, .bool fx] w fun e w' => (∃ x r, e = .returned (.tuple #[.int .u64 x, .int .i64 r]) ∧ Wd x) ∧ Turned T w sb n L M st mo w' := by
  by_cases hv : (a : Int) % 4096 = 0 ∧ size ≠ 0 ∧ size ≤ 274877906944 ∧ 0 ≤ p ∧ p ≤ 7
  · rcases fx with _ | _
    · refine (mmap_free h a size p ha h0 hv (by omega) hT).mono ?_
      rintro e w' ⟨x, ok, _, hh⟩
      rcases hh with ⟨_, rfl, k⟩ | ⟨_, c, b, _, _, r, rfl, hl⟩
      · exact ⟨⟨_, _, rfl, Wd.zero⟩, Turned.none_ h k⟩
      · refine ⟨⟨_, _, rfl, ?_⟩, Turned.lay h hl⟩
        split
        · rename_i hr0
          rcases hl with ⟨_, hs, _⟩ | ⟨hr1, _⟩ | ⟨hr1, _⟩
          · obtain ⟨_, _, s3, s4⟩ := hs
            exact ⟨by omega, by omega⟩
          · omega
          · omega
        · exact Wd.zero
    · have hw := wrap_in (a + (size + 4095) / 4096 * 4096)
      refine (mmap_fixed h a size p ha h0 hv (by omega) hT (IntKind.u64.wrap (a + (size + 4095) / 4096 * 4096)).toNat (by rw [Int.toNat_of_nonneg hw.1])).mono ?_
      rintro e w' ⟨r, rfl, hl⟩
      refine ⟨⟨_, _, rfl, ?_⟩, Turned.lay h hl⟩
      split
      · exact Wd.nat ha
      · exact Wd.zero
  · refine (mmap_bad sb a size p fx (by omega) h0 hv).mono ?_
    rintro e w' ⟨rfl, rfl⟩
    exact ⟨⟨_, _, rfl, Wd.zero⟩, Turned.none_ h (Bl.refl _)⟩
theorem unmap_turn {T : Nat → Prop} {w : World} {sb n : Nat} {L : List Rg} {M st : Nat → Int} {mo ba en : Int} (h : MS T w sb n L M st mo ba en) (a : Nat) (size : Int) (ha : a < 2 ^ 64) (hn : n < 70000000) (hT : ∀ b, w.heap.size ≤ b → T b) :
    Calls Tryz.prog 27 #[addr0 sb, .int .u64 (a : Int), .int .u64 size] w fun e w' => (∃ r, e = .returned (.int .i64 r)) ∧ Turned T w sb n L M st mo w' := by
  have hw := wrap_in (a + upW size)
  refine (munmap_of h a (IntKind.u64.wrap (a + upW size)).toNat size ha (by rw [Int.toNat_of_nonneg hw.1]) (by omega) hT (clears_all _ _ (by omega) hT)).mono ?_
  rintro e w' ⟨r, rfl, hh⟩
  refine ⟨⟨r, rfl⟩, ?_⟩
  rcases hh with ⟨_, hs, _, hc⟩ | ⟨_, _, k⟩
  · refine Turned.clear hc (by have := hs.1; omega) (by have := hs.2.1; omega) fun x q hx => ?_
    rw [cut_in h.rs (by omega) hs]
    exact ⟨fun e => ⟨hx, e⟩, fun e => e.2⟩
  · exact Turned.none_ h k
theorem protect_turn {T : Nat → Prop} {w : World} {sb n : Nat} {L : List Rg} {M st : Nat → Int} {mo ba en : Int} (h : MS T w sb n L M st mo ba en) (a : Nat) (size p : Int) (ha : a < 2 ^ 64) (hn : n < 70000000) (hT : ∀ b, w.heap.size ≤ b → T b) :
    Calls Tryz.prog 28 #[addr0 sb, .int .u64 (a : Int), .int .u64 size, .int .i64 p] w fun e w' => (∃ r, e = .returned (.int .i64 r)) ∧ Turned T w sb n L M st mo w' := by
  have hw := wrap_in (a + upW size)
  refine (mprotect_any h a (IntKind.u64.wrap (a + upW size)).toNat size p ha (by rw [Int.toNat_of_nonneg hw.1]) (by omega) hT).mono ?_
  rintro e w' ⟨r, rfl, hh⟩
  refine ⟨⟨r, rfl⟩, ?_⟩
  rcases hh with ⟨_, hs, _, _, _, _, st', h1, h2, h3⟩ | ⟨_, _, k⟩
  · refine ⟨_, M, st', ba, en, h1.mono (by omega), fun q hq => ⟨(h2 q hq).1, fun e => (h2 q hq).2 ?_⟩, h3⟩
    rcases e with ⟨x, _, hne⟩ | ⟨y, hy⟩
    · exact absurd rfl hne
    · rw [lay_in h.rs (by omega) hs] at hy
      rcases Nat.lt_or_ge (q * 4096) a with h4 | h4
      · exact absurd ⟨fun e => .inr ⟨.inl (by omega), e⟩, fun e => by rcases e with ⟨e1, _⟩ | ⟨_, e⟩; omega; exact e⟩ hy
      · rcases Nat.lt_or_ge (q * 4096) (IntKind.u64.wrap (a + upW size)).toNat with h5 | h5
        · exact ⟨h4, h5⟩
        · exact absurd ⟨fun e => .inr ⟨.inr (by omega), e⟩, fun e => by rcases e with ⟨_, e1, _⟩ | ⟨_, e⟩; omega; exact e⟩ hy
  · exact Turned.none_ h k
end Go.Proofs.YtepffglljmekiaaGreat

set_option linter.unusedVariables false
set_option linter.unusedSimpArgs false
namespace Go.Proofs.YtepffglljmekiaaGreat
open Go.RowKit
set_option maxRecDepth 100000
theorem MS.setEnd {T : Nat → Prop} {w : World} {sb n : Nat} {L : List Rg} {M st : Nat → Int} {mo ba en x : Int} (h : MS T w sb n L M st mo ba en) (h0 : 0 ≤ x) (h1 : x ≤ 274877906944) : MS T (w.setCell ⟨sb, 7, none⟩ (.int .u64 x)) sb n L M st mo ba x := by
  have hh := h.heap
  refine h.setNums (Fr.set (S := only sb) (p := ⟨sb, 7, none⟩) rfl _) (fun v pm sm c l hb => ?_) ⟨hh.1, hh.2.1, h0, h1⟩
  rw [heap_setCell_same w sb 7 _ 77 (.int .u64 x) hb]; rfl
theorem Turned.setEnd {T : Nat → Prop} {w w' : World} {sb n : Nat} {L : List Rg} {M st : Nat → Int} {mo x : Int} (h : Turned T w sb n L M st mo w') (hT : T sb) (h0 : 0 ≤ x) (h1 : x ≤ 274877906944) : Turned T w sb n L M st mo (w'.setCell ⟨sb, 7, none⟩ (.int .u64 x)) := by
  obtain ⟨L', M', st', ba', en', e1, e2, e3⟩ := h
  exact ⟨L', M', st', ba', x, e1.setEnd h0 h1, e2, e3.trans (Fr.set hT _)⟩
theorem brk_turn {T : Nat → Prop} {w : World} {sb n : Nat} {L : List Rg} {M st : Nat → Int} {mo ba en : Int} (h : MS T w sb n L M st mo ba en) (x : Int) (h0 : 0 ≤ x) (hn : n < 70000000) (hT : ∀ b, w.heap.size ≤ b → T b) :
    Calls Tryz.prog 26 #[addr0 sb, .int .u64 x] w fun e w' => (∃ y, e = .returned (.int .u64 y) ∧ Wd y) ∧ Turned T w sb n L M st mo w' := by
  have hh := h.heap
  refine (mbrk_any h x h0 (by omega) hT (clears_all _ _ (by omega) hT)).mono ?_
  rintro e w' ⟨y, rfl, hb⟩
  refine ⟨⟨y, rfl, ?_⟩, ?_⟩
  · rcases hb with ⟨_, rfl, _⟩ | ⟨_, x2, _, _, _, ⟨_, rfl, _⟩ | ⟨_, rfl, _⟩⟩
    · exact ⟨hh.2.2.1, by have := hh.2.2.2; omega⟩
    · exact ⟨hh.2.2.1, by have := hh.2.2.2; omega⟩
    · exact ⟨h0, by omega⟩
  rcases hb with ⟨_, _, k⟩ | ⟨x1, x2, ok, w1, hr, hy⟩
  · exact Turned.none_ h k
  · obtain ⟨u1, u2, u3, u4⟩ := upN_of (x := x) h0 x2
    obtain ⟨v1, v2, v3, v4⟩ := upN_of (x := en) hh.2.2.1 hh.2.2.2
    have ht : Turned T w sb n L M st mo w1 := by
      rcases hr with ⟨r1, _, _, _, _, hc⟩ | ⟨r1, _, _, hc⟩ | ⟨_, _, k⟩ | ⟨_, k, _⟩
      · have hs : Span (upN en : Int) (upN x : Int) := ⟨by omega, by omega, by omega, by omega⟩
        refine Turned.clear hc v2 u2 fun z q hz => ?_
        rw [lay_in h.rs (by omega) hs]
        exact ⟨fun e => .inr ⟨hz, e⟩, fun e => by rcases e with ⟨e1, e2, _⟩ | ⟨_, e⟩; omega; exact e⟩
      · have hs : Span (upN x : Int) (upN en : Int) := ⟨by omega, by omega, by omega, by omega⟩
        refine Turned.clear hc u2 v2 fun z q hz => ?_
        rw [cut_in h.rs (by omega) hs]
        exact ⟨fun e => ⟨hz, e⟩, fun e => e.2⟩
      · exact Turned.none_ h k
      · exact Turned.none_ h k
    rcases hy with ⟨_, _, rfl⟩ | ⟨_, _, rfl⟩
    · exact ht
    · exact ht.setEnd h.own h0 x2
theorem setbrk_turn {T : Nat → Prop} {w : World} {sb n : Nat} {L : List Rg} {M st : Nat → Int} {mo ba en : Int} (h : MS T w sb n L M st mo ba en) (x : Int) (h0 : 0 ≤ x) :
    Calls Tryz.prog 21 #[addr0 sb, .int .u64 x] w fun e w' => e = .returned (.tuple #[]) ∧ Turned T w sb n L M st mo w' := by
  by_cases h1 : x ≤ 274877906944
  · refine (msetbrk_any h x h0 h1).mono ?_
    rintro e w' ⟨rfl, m, f⟩
    exact ⟨rfl, L, M, st, _, _, m.mono (by omega), Step.refl _ _ _, f⟩
  · refine (msetbrk_far sb x (by omega)).mono ?_
    rintro e w' ⟨rfl, rfl⟩
    exact ⟨rfl, Turned.none_ h (Bl.refl _)⟩
theorem store_turn {T : Nat → Prop} {w : World} {sb n0 : Nat} {L : List Rg} {M st : Nat → Int} {mo ba en : Int} (h : MS T w sb n0 L M st mo ba en) (a : Nat) (n x : Int) (ha : a < 2 ^ 64) (hn0 : n0 < 70000000) (hT : ∀ b, w.heap.size ≤ b → T b) :
    Calls Tryz.prog 23 #[addr0 sb, .int .u64 (a : Int), .int .i64 n, .int .u64 x] w fun e w' => (∃ k y, e = .returned (faultV k y) ∧ Wd y) ∧ Turned T w sb n0 L M st mo w' := by
  refine (store_some h a n x ha (by omega) hT).mono ?_
  rintro e w' ⟨h1, n1, hn1, M', st', m, r, f⟩
  exact ⟨h1, L, M', st', ba, en, m.mono (by omega), Step.bytes r, f⟩
theorem out_turn {T : Nat → Prop} {w : World} {sb n0 : Nat} {L : List Rg} {M st : Nat → Int} {mo ba en : Int} (h : MS T w sb n0 L M st mo ba en) (a : Nat) (A : Option Addr) (len cap : Nat) (xs : List Int) (hr : Rd w A xs) (hl : xs.length = len) (hlc : len ≤ cap) (hb : ∀ k, 0 ≤ xs.getD k 0 ∧ xs.getD k 0 ≤ 255)
    (hA : 0 < len → ∀ ad, A = some ad → ¬ T ad.block) (ha : a < 2 ^ 64) (hlen : len ≤ 6000) (hn : n0 < 70000000) (hT : ∀ b, w.heap.size ≤ b → T b) :
    Calls Tryz.prog 24 #[addr0 sb, .int .u64 (a : Int), .slice A len cap] w fun e w' => (∃ r, e = .returned (.int .i64 r)) ∧ Turned T w sb n0 L M st mo w' := by
  refine (mout_any h a A len cap xs hr hl hlc hb hA ha (by omega) (by omega) hT).mono ?_
  rintro e w' ⟨r, rfl, hh⟩
  refine ⟨⟨r, rfl⟩, ?_⟩
  rcases hh with ⟨_, _, st', m, r3, f⟩ | ⟨_, _, k⟩
  · refine ⟨L, _, st', ba, en, m.mono (by unfold pagesOf; split <;> omega), Step.bytes (r3.mono fun p ⟨y, hy, hx⟩ => ?_), f⟩
    have := lay_ne hx
    rw [hl] at this
    exact ⟨y, this.1, this.2, hy.symm⟩
  · exact Turned.none_ h k
/-- While bytes are put: what has changed so far has a greater stamp. -/
theorem put_turn {T : Nat → Prop} {w : World} {sb n0 : Nat} {L : List Rg} {M st : Nat → Int} {mo ba en : Int} (h : MS T w sb n0 L M st mo ba en) (a : Nat) (A : Option Addr) (len cap : Nat) (xs : List Int) (hr : Rd w A xs) (hl : xs.length = len) (hlc : len ≤ cap) (hb : ∀ k, 0 ≤ xs.getD k 0 ∧ xs.getD k 0 ≤ 255)
    (hA : 0 < len → ∀ ad, A = some ad → ¬ T ad.block) (ha : a < 2 ^ 64) (hlen : len ≤ 6000) (hn : n0 < 9000000) (hT : ∀ b, w.heap.size ≤ b → T b) :
    Calls Tryz.prog 22 #[addr0 sb, .int .u64 (a : Int), .slice A len cap] w fun e w' => e = .returned (.tuple #[]) ∧ Turned T w sb n0 L M st mo w' := by
  refine (mput_any h a A len cap xs hr hl hlc hb hA ha (by omega) (by omega) hT (fun _ M1 st1 => Rise st st1 (fun p => ∃ x : Nat, x / 4096 = p ∧ M1 x ≠ M x)) ((Rise.refl st).mono fun p ⟨x, _, hx⟩ => absurd rfl hx) ?_).mono ?_
  · intro t M1 st1 c d hp ht hc hd
    refine ⟨fun _ st2 hr2 => ((hp.trans hr2).mono fun p ⟨x, hx, hne⟩ => ?_), fun _ => hp⟩
    by_cases h1 : lay M1 c ((xs.drop t).take d) x = M1 x
    · exact .inl ⟨x, hx, by rw [← h1]; exact hne⟩
    · have h2 := lay_ne h1
      rw [List.length_take, List.length_drop] at h2
      exact .inr ⟨x, h2.1, by omega, hx.symm⟩
  · rintro e w' ⟨rfl, M', st', m, hp, f⟩
    exact ⟨rfl, L, M', st', ba, en, m.mono (by omega), Step.bytes hp, f⟩
end Go.Proofs.YtepffglljmekiaaGreat
