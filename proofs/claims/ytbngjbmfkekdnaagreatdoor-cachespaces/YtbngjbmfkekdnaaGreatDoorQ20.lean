/-
  What each call that may change a space leaves: bytes or prots that changed have a greater stamp.
  Bytes that are put where something is mapped; the law's answers: what a program that does nothing does not answer.
-/
import Derived.Test.YtbngjbmfkekdnaaGreatDoorQ19
import Derived.Test.YtbngjbmfkekdnaaGreatDoorQ8
set_option linter.unusedVariables false
set_option linter.unusedSimpArgs false
namespace Go.Proofs.YtbngjbmfkekdnaaGreatDoor
open Go.RowKit
set_option maxRecDepth 100000
theorem mclear_all {T : Nat → Prop} {w : World} {sb n : Nat} {L : List Rg} {M st : Nat → Int} {mo ba en : Int} (h : MS T w sb n L M st mo ba en) (a b : Nat) (ha : a % 4096 = 0) (hb : b % 4096 = 0) (hab : a < b) (hbt : b ≤ 274877906944) (hn : n < 80000000) (hT : ∀ b, w.heap.size ≤ b → T b) :
    Calls Tryz.prog 43 #[.pointer (some ⟨sb, 1, none⟩), .int .u64 (a : Int), .int .u64 (b : Int)] w fun e w' => e = .returned (.tuple #[]) ∧ ClearPost T w sb n L M st mo ba en a b w' := by
  by_cases hnar : b - a ≤ 16777216
  · exact mclear_any h a b ha hb hab hbt hnar hn hT
  · obtain ⟨rg, f, k0, h1, h2, h3⟩ := h.ex
    have cc := clear_wide h1 (a / 4096) (b / 4096 - 1) (by omega) (by omega) hn (off_new h2 hT)
    rw [show a / 4096 * 4096 = a by omega, show (b / 4096 - 1 + 1) * 4096 = b by omega] at cc
    refine cc.mono ?_
    rintro e w' ⟨rfl, ⟨f', k', st', h4, hr⟩, hf⟩
    exact ⟨rfl, st', h.stored h2 h3 h4 hf (wiped_bd h.by_ a b), hr.mono fun p hp => by omega, hf.off_of⟩
theorem clears_all {T : Nat → Prop} {w : World} {sb n : Nat} {M st : Nat → Int} {mo ba en : Int} (a b : Nat) (hn : n < 80000000) (hT : ∀ b, w.heap.size ≤ b → T b) : Clears T w sb n M st mo ba en a b :=
  fun W L' q1 q2 q3 q4 q5 q6 => mclear_all q6 a b q1 q2 q3 q4 hn (fun b hb => hT b (Nat.le_trans q5 hb))
/-- Whatever changed has a greater stamp. -/
def Step (L L' : List Rg) (M M' st st' : Nat → Int) : Prop := ∀ p, p < 2 ^ 64 → st p ≤ st' p ∧ (((∃ x : Nat, x / 4096 = p ∧ M' x ≠ M x) ∨ (∃ q, ¬ (In L ((p : Int) * 4096) q ↔ In L' ((p : Int) * 4096) q))) → st p < st' p)
theorem Step.refl (L : List Rg) (M st : Nat → Int) : Step L L M M st st := fun p _ => ⟨Int.le_refl _, fun h => by
  rcases h with ⟨x, _, hx⟩ | ⟨q, hq⟩
  · exact absurd rfl hx
  · exact absurd Iff.rfl hq⟩
theorem Step.bytes {L : List Rg} {M M' st st' : Nat → Int} (h : Rise st st' (fun p => ∃ x : Nat, x / 4096 = p ∧ M' x ≠ M x)) : Step L L M M' st st' := fun p hp => ⟨(h p hp).1, fun e => by
  rcases e with e | ⟨q, hq⟩
  · exact (h p hp).2 e
  · exact absurd Iff.rfl hq⟩
/-- What a call leaves of a space. -/
def Turned (T : Nat → Prop) (w : World) (sb n : Nat) (L : List Rg) (M st : Nat → Int) (mo : Int) (w' : World) : Prop := ∃ L' M' st' ba' en', MS T w' sb (n + 40000) L' M' st' mo ba' en' ∧ Step L L' M M' st st' ∧ Fr T w w'
section
variable {T : Nat → Prop} {w w' : World} {sb n : Nat} {L : List Rg} {M st : Nat → Int} {mo ba en : Int}
theorem Turned.none_ (h : MS T w sb n L M st mo ba en) (k : Bl w w') : Turned T w sb n L M st mo w' := ⟨L, M, st, ba, en, (h.bl k).mono (by omega), Step.refl _ _ _, Fr.of_bl k⟩
/-- A span is laid and cleared. -/
theorem Turned.clear {L' : List Rg} {a b : Nat} (h : ClearPost T w sb n L' M st mo ba en a b w') (ha : a % 4096 = 0) (hb : b % 4096 = 0) (hin : ∀ x q, (x < (a : Int) ∨ (b : Int) ≤ x) → (In L x q ↔ In L' x q)) : Turned T w sb n L M st mo w' := by
  obtain ⟨st', h1, h2, h3⟩ := h
  refine ⟨L', _, st', ba, en, h1.mono (by omega), fun p hp => ⟨(h2 p hp).1, fun e => (h2 p hp).2 ?_⟩, h3⟩
  rcases e with ⟨x, hx, hne⟩ | ⟨q, hq⟩
  · have hxx : a ≤ x ∧ x < b := by
      simp only [wiped] at hne
      by_cases hc : a ≤ x ∧ x < b
      · exact hc
      · rw [if_neg hc] at hne; exact absurd rfl hne
    omega
  · rcases Nat.lt_or_ge (p * 4096) a with h4 | h4
    · exact absurd (hin _ q (.inl (by omega))) hq
    · rcases Nat.lt_or_ge (p * 4096) b with h5 | h5
      · exact ⟨h4, h5⟩
      · exact absurd (hin _ q (.inr (by omega))) hq
theorem Turned.lay (h : MS T w sb n L M st mo ba en) {a b : Nat} {p r : Int} (hl : LayAny T w sb n L M st mo ba en a b p r w') : Turned T w sb n L M st mo w' := by
  rcases hl with ⟨_, hs, _, _, _, _, hc⟩ | ⟨_, _, k⟩ | ⟨_, _, _, k⟩
  · refine Turned.clear hc (by have := hs.1; omega) (by have := hs.2.1; omega) fun x q hx => ?_
    rw [lay_in h.rs (by omega) hs]
    exact ⟨fun e => .inr ⟨hx, e⟩, fun e => by rcases e with ⟨e1, e2, _⟩ | ⟨_, e⟩; omega; exact e⟩
  · exact Turned.none_ h k
  · exact Turned.none_ h k
end
theorem map_turn {T : Nat → Prop} {w : World} {sb n : Nat} {L : List Rg} {M st : Nat → Int} {mo ba en : Int} (h : MS T w sb n L M st mo ba en) (a : Nat) (size p : Int) (fx : Bool) (ha : a < 2 ^ 64) (h0 : 0 ≤ size) (hn : n < 70000000) (hT : ∀ b, w.heap.size ≤ b → T b) :
    Calls Tryz.prog 9 #[addr0 sb, .int .u64 (a : Int), .int .u64 size, .int .i64 p, .bool fx] w fun e w' => (∃ x r, e = .returned (.tuple #[.int .u64 x, .int .i64 r]) ∧ Wd x) ∧ Turned T w sb n L M st mo w' := by
  by_cases hv : (a : Int) % 4096 = 0 ∧ size ≠ 0 ∧ size ≤ 274877906944 ∧ 0 ≤ p ∧ p ≤ 7
  · rcases fx with _ | _
    · refine (mmap_free h a size p ha h0 hv (by omega) hT).mono ?_
      rintro e w' ⟨x, ok, _, hh⟩
      rcases hh with ⟨_, rfl, k⟩ | ⟨_, c, b, _, _, r, rfl, hl⟩
      · exact ⟨⟨_, _, rfl, Wd.zero⟩, Turned.none_ h k⟩
      · refine ⟨⟨_, _, rfl, ?_⟩, Turned.lay h hl⟩
        split
        · rename_i hr0
          rcases hl with ⟨_, hs, _⟩ | ⟨hr1, _⟩ | ⟨hr1, _⟩
          · obtain ⟨_, _, s3, s4⟩ := hs
            exact ⟨by omega, by omega⟩
          · omega
          · omega
        · exact Wd.zero
    · have hw := wrap_in (a + (size + 4095) / 4096 * 4096)
      refine (mmap_fixed h a size p ha h0 hv (by omega) hT (IntKind.u64.wrap (a + (size + 4095) / 4096 * 4096)).toNat (by rw [Int.toNat_of_nonneg hw.1])).mono ?_
      rintro e w' ⟨r, rfl, hl⟩
      refine ⟨⟨_, _, rfl, ?_⟩, Turned.lay h hl⟩
      split
      · exact Wd.nat ha
      · exact Wd.zero
  · refine (mmap_bad sb a size p fx (by omega) h0 hv).mono ?_
    rintro e w' ⟨rfl, rfl⟩
    exact ⟨⟨_, _, rfl, Wd.zero⟩, Turned.none_ h (Bl.refl _)⟩
theorem unmap_turn {T : Nat → Prop} {w : World} {sb n : Nat} {L : List Rg} {M st : Nat → Int} {mo ba en : Int} (h : MS T w sb n L M st mo ba en) (a : Nat) (size : Int) (ha : a < 2 ^ 64) (hn : n < 70000000) (hT : ∀ b, w.heap.size ≤ b → T b) :
    Calls Tryz.prog 18 #[addr0 sb, .int .u64 (a : Int), .int .u64 size] w fun e w' => (∃ r, e = .returned (.int .i64 r)) ∧ Turned T w sb n L M st mo w' := by
  have hw := wrap_in (a + upW size)
  refine (munmap_of h a (IntKind.u64.wrap (a + upW size)).toNat size ha (by rw [Int.toNat_of_nonneg hw.1]) (by omega) hT (clears_all _ _ (by omega) hT)).mono ?_
  rintro e w' ⟨r, rfl, hh⟩
  refine ⟨⟨r, rfl⟩, ?_⟩
  rcases hh with ⟨_, hs, _, hc⟩ | ⟨_, _, k⟩
  · refine Turned.clear hc (by have := hs.1; omega) (by have := hs.2.1; omega) fun x q hx => ?_
    rw [cut_in h.rs (by omega) hs]
    exact ⟨fun e => ⟨hx, e⟩, fun e => e.2⟩
  · exact Turned.none_ h k
theorem protect_turn {T : Nat → Prop} {w : World} {sb n : Nat} {L : List Rg} {M st : Nat → Int} {mo ba en : Int} (h : MS T w sb n L M st mo ba en) (a : Nat) (size p : Int) (ha : a < 2 ^ 64) (hn : n < 70000000) (hT : ∀ b, w.heap.size ≤ b → T b) :
    Calls Tryz.prog 16 #[addr0 sb, .int .u64 (a : Int), .int .u64 size, .int .i64 p] w fun e w' => (∃ r, e = .returned (.int .i64 r)) ∧ Turned T w sb n L M st mo w' := by
  have hw := wrap_in (a + upW size)
  refine (mprotect_any h a (IntKind.u64.wrap (a + upW size)).toNat size p ha (by rw [Int.toNat_of_nonneg hw.1]) (by omega) hT).mono ?_
  rintro e w' ⟨r, rfl, hh⟩
  refine ⟨⟨r, rfl⟩, ?_⟩
  rcases hh with ⟨_, hs, _, _, _, _, st', h1, h2, h3⟩ | ⟨_, _, k⟩
  · refine ⟨_, M, st', ba, en, h1.mono (by omega), fun q hq => ⟨(h2 q hq).1, fun e => (h2 q hq).2 ?_⟩, h3⟩
    rcases e with ⟨x, _, hne⟩ | ⟨y, hy⟩
    · exact absurd rfl hne
    · rw [lay_in h.rs (by omega) hs] at hy
      rcases Nat.lt_or_ge (q * 4096) a with h4 | h4
      · exact absurd ⟨fun e => .inr ⟨.inl (by omega), e⟩, fun e => by rcases e with ⟨e1, _⟩ | ⟨_, e⟩; omega; exact e⟩ hy
      · rcases Nat.lt_or_ge (q * 4096) (IntKind.u64.wrap (a + upW size)).toNat with h5 | h5
        · exact ⟨h4, h5⟩
        · exact absurd ⟨fun e => .inr ⟨.inr (by omega), e⟩, fun e => by rcases e with ⟨_, e1, _⟩ | ⟨_, e⟩; omega; exact e⟩ hy
  · exact Turned.none_ h k
end Go.Proofs.YtbngjbmfkekdnaaGreatDoor

set_option linter.unusedVariables false
set_option linter.unusedSimpArgs false
namespace Go.Proofs.YtbngjbmfkekdnaaGreatDoor
open Go.RowKit
set_option maxRecDepth 100000
/-- The first t of xs, laid at a where something is mapped. -/
def PutRel (L : List Rg) (M : Nat → Int) (a : Nat) (xs : List Int) (t : Nat) (M' : Nat → Int) : Prop :=
  ∀ x : Nat, ((a ≤ x ∧ x < a + t ∧ ∃ q, In L (x : Int) q) → M' x = xs.getD (x - a) 0) ∧ (¬ (a ≤ x ∧ x < a + t ∧ ∃ q, In L (x : Int) q) → M' x = M x)
theorem PutRel.zero (L : List Rg) (M : Nat → Int) (a : Nat) (xs : List Int) : PutRel L M a xs 0 M := fun x => ⟨fun h => by omega, fun _ => rfl⟩
theorem PutRel.one {L : List Rg} {M M1 M2 : Nat → Int} {a t : Nat} {xs : List Int} (h : PutRel L M a xs t M1) (k : PutRel L M a xs t M2) : M1 = M2 := by
  funext x
  by_cases hc : a ≤ x ∧ x < a + t ∧ ∃ q, In L (x : Int) q
  · rw [(h x).1 hc, (k x).1 hc]
  · rw [(h x).2 hc, (k x).2 hc]
theorem PutRel.ne {L : List Rg} {M M1 : Nat → Int} {a t : Nat} {xs : List Int} (h : PutRel L M a xs t M1) {x : Nat} (hx : M1 x ≠ M x) : a ≤ x ∧ x < a + t := by
  by_cases hc : a ≤ x ∧ x < a + t ∧ ∃ q, In L (x : Int) q
  · exact ⟨hc.1, hc.2.1⟩
  · exact absurd ((h x).2 hc) hx
theorem PutRel.bd {L : List Rg} {M M1 : Nat → Int} {a t : Nat} {xs : List Int} (h : PutRel L M a xs t M1) (hb : ∀ x, 0 ≤ M x ∧ M x ≤ 255) (hx : ∀ k, 0 ≤ xs.getD k 0 ∧ xs.getD k 0 ≤ 255) : ∀ x, 0 ≤ M1 x ∧ M1 x ≤ 255 := fun x => by
  by_cases hc : a ≤ x ∧ x < a + t ∧ ∃ q, In L (x : Int) q
  · rw [(h x).1 hc]; exact hx _
  · rw [(h x).2 hc]; exact hb x
/-- One step of a Put: a part of one page. -/
theorem put_rel {L : List Rg} {M st : Nat → Int} {a : Nat} {xs : List Int} (hl : Al L) (ha : a + xs.length ≤ 18446744073709551616) :
    PutStep L a xs (fun t M1 st1 => PutRel L M a xs t M1 ∧ Rise st st1 (fun p => ∃ x : Nat, x / 4096 = p ∧ M1 x ≠ M x)) := by
  intro t M1 st1 c d hp ht hc hd
  obtain ⟨hp, hr⟩ := hp
  obtain rfl : c = a + t := by omega
  have hpage : ∀ x : Nat, a + t ≤ x → x < a + t + d → x / 4096 = (a + t) / 4096 := fun x h1 h2 => by omega
  have hin : ∀ x : Nat, a + t ≤ x → x < a + t + d → ((∃ q, In L (x : Int) q) ↔ ∃ q, In L ((a + t : Nat) : Int) q) := fun x h1 h2 => by
    have e : (x : Int) / 4096 = ((a + t : Nat) : Int) / 4096 := by have := hpage x h1 h2; omega
    constructor
    · rintro ⟨q, hq⟩
      exact ⟨q, by rw [in_page hl, ← e, ← in_page hl]; exact hq⟩
    · rintro ⟨q, hq⟩
      exact ⟨q, by rw [in_page hl, e, ← in_page hl]; exact hq⟩
  have hlen : ((xs.drop t).take d).length = d := by rw [List.length_take, List.length_drop]; omega
  refine ⟨fun hm st2 hr2 => ⟨fun x => ?_, ?_⟩, fun hm => ⟨fun x => ?_, hr⟩⟩
  · by_cases h1 : a + t ≤ x ∧ x < a + t + d
    · have hx := (hin x h1.1 h1.2).2 hm
      refine ⟨fun _ => ?_, fun h => absurd ⟨by omega, by omega, hx⟩ h⟩
      have e1 := lay_at M1 (a + t) ((xs.drop t).take d) (x - (a + t)) (by rw [hlen]; omega)
      rw [show a + t + (x - (a + t)) = x by omega] at e1
      rw [e1, List.getD_eq_getElem?_getD, List.getElem?_take_of_lt (by omega), List.getElem?_drop, List.getD_eq_getElem?_getD, show t + (x - (a + t)) = x - a by omega]
    · rw [lay_out _ _ _ _ (by rw [hlen]; omega)]
      refine ⟨fun h => (hp x).1 ⟨h.1, by omega, h.2.2⟩, fun h => (hp x).2 fun h' => h ⟨h'.1, by omega, h'.2.2⟩⟩
  · refine (hr.trans hr2).mono fun p ⟨x, hx, hne⟩ => ?_
    by_cases h1 : lay M1 (a + t) ((xs.drop t).take d) x = M1 x
    · exact .inl ⟨x, hx, by rw [← h1]; exact hne⟩
    · have h2 := lay_ne h1
      rw [hlen] at h2
      exact .inr ⟨x, h2.1, by omega, hx.symm⟩
  · refine ⟨fun h => ?_, fun h => (hp x).2 fun h' => h ⟨h'.1, by omega, h'.2.2⟩⟩
    rcases Nat.lt_or_ge x (a + t) with h1 | h1
    · exact (hp x).1 ⟨h.1, h1, h.2.2⟩
    · obtain ⟨q, hq⟩ := (hin x h1 (by omega)).1 h.2.2
      exact absurd hq (hm q)
/-- What a Put leaves of a space. -/
theorem mput_rel {T : Nat → Prop} {w : World} {sb n0 : Nat} {L : List Rg} {M st : Nat → Int} {mo ba en : Int} (h : MS T w sb n0 L M st mo ba en) (a : Nat) (A : Option Addr) (len cap : Nat) (xs : List Int) (hr : Rd w A xs) (hl : xs.length = len) (hlc : len ≤ cap) (hb : ∀ k, 0 ≤ xs.getD k 0 ∧ xs.getD k 0 ≤ 255)
    (hA : 0 < len → ∀ ad, A = some ad → ¬ T ad.block) (ha : a + len ≤ 18446744073709551615) (hlen : len ≤ 100000) (hn : n0 < 10000000) (hT : ∀ b, w.heap.size ≤ b → T b) :
    Calls Tryz.prog 11 #[addr0 sb, .int .u64 (a : Int), .slice A len cap] w fun e w' => e = .returned (.tuple #[]) ∧ ∃ M' st', MS T w' sb (n0 + 6 * len) L M' st' mo ba en ∧ PutRel L M a xs len M' ∧ Step L L M M' st st' ∧ Fr T w w' := by
  refine (mput_any h a A len cap xs hr hl hlc hb hA (by omega) hlen hn hT _ ⟨PutRel.zero L M a xs, (Rise.refl st).mono fun p ⟨x, _, hx⟩ => absurd rfl hx⟩ (put_rel h.rs.al (by omega))).mono ?_
  rintro e w' ⟨rfl, M', st', h1, ⟨h2, h3⟩, h4⟩
  exact ⟨rfl, M', st', h1, h2, Step.bytes h3, h4⟩
/-- One space alone. -/
def oneR (sb : Nat) (L : List Rg) (M st : Nat → Int) : Sps := fun b L' M' st' => b = sb ∧ L' = L ∧ M' = M ∧ st' = st
theorem oneR_sole (sb : Nat) (L : List Rg) (M st : Nat → Int) : Sole (oneR sb L M st) sb L M st := ⟨⟨rfl, rfl, rfl, rfl⟩, fun _ _ _ h => h.2⟩
theorem oneR_blocks {T : Nat → Prop} {w : World} {sb n : Nat} {L : List Rg} {M st : Nat → Int} {mo ba en : Int} (h : MS T w sb n L M st mo ba en) : Blocks (oneR sb L M st) w := fun b L' M' st' hr => by
  rw [hr.1]; exact h.block_
theorem can7 {L : List Rg} {x : Int} (h : In L x 7) : Can L 4 x := ⟨7, h, by decide⟩
theorem ans_17669 {L : List Rg} {M : Nat → Int} {pc : Nat} {A : Ans} (h : AnsIs L M pc A) (he : pc % 2 = 0) (h0 : In L (pc : Int) 7) (h1 : In L ((pc : Int) + 1) 7) (hM : M pc = 5) (hM1 : M (pc + 1) = 69) : A = ⟨⟨22, 10, 0, 0, 1, 0, 2⟩, 0, 0, 0⟩ := by
  have hn : numAt M pc 2 = 17669 := by rw [num2_eq, hM, hM1]; rfl
  have hf : FetchIs L M pc (numAt M pc 2) 0 0 := .short he (fun y y1 y2 => by
    rcases (show y = pc ∨ y = pc + 1 by omega) with rfl | rfl
    · exact can7 h0
    · exact can7 h1) (by rw [hn]; decide)
  rw [hn] at hf
  have hok : okOf 17669 = true := by kernel_rfl
  have hi : insOf 17669 = ⟨22, 10, 0, 0, 1, 0, 2⟩ := by kernel_rfl
  have := h.one ⟨_, _, _, hf, rfl⟩
  rw [this]
  unfold ansOf
  rw [if_pos rfl, show (17669 : Int).toNat = 17669 from rfl, if_pos hok, hi]
theorem two_bytes {a b : Int} (ha : 0 ≤ a ∧ a ≤ 255) (hb : 0 ≤ b ∧ b ≤ 255) (k : Nat) : 0 ≤ ([a, b] : List Int).getD k 0 ∧ ([a, b] : List Int).getD k 0 ≤ 255 := by
  rcases k with _ | _ | k
  · exact ha
  · exact hb
  · simp
set_option maxHeartbeats 2000000 in
theorem canswers_any (w : World) (hT : Td.TabsS w) : Calls Tryz.prog 8 #[] w fun e w' => e = .returned (.bool true) ∧ Bl w w' := by
  have hn := mnew_any (fun b => w.heap.size ≤ b) 2 w (Nat.le_refl _) (by omega) (by omega)
  have h21 : 20 < w.heap.size := hT.lt (by decide)
  have HT := Lib.hid hT; clear hT
  go_enter Tryz.func8, Tryz.ntmps8
  go_wp2_with fail
  with_reducible refine hn.mono ?_
  rintro e w1 ⟨rfl, h1, k1, s1⟩
  have cm := mmap_new h1 4096 8192 4096 7 (by omega) (by omega) (by omega) (by omega) (by omega) ⟨by omega, by omega, by omega, by omega⟩ (by omega) (by omega) (fun b hb => by omega)
  rw [show ((4096 : Nat) : Int) = 4096 from rfl, show ((8192 : Nat) : Int) = 8192 from rfl] at cm
  have CM := Lib.hid cm; clear cm
  have K1 := Lib.hid k1; clear k1 h1 hn
  have hsz1 : w1.heap.size = w.heap.size + 1 := s1
  unfold addr0 at *
  go_wp2_with fail
  with_reducible refine CM.out.mono ?_
  rintro e w2 ⟨rfl, st2, h2, r2, f2⟩
  have K2 := Lib.hid (Fr.from_bl K1.out f2); clear f2 r2 CM
  have hs2 : w.heap.size ≤ w2.heap.size := K2.out.size
  obtain ⟨M2, hM2⟩ : ∃ M2, wiped (fun _ => 0) 4096 8192 = M2 := ⟨_, rfl⟩
  rw [hM2] at h2
  clear hM2
  have hn2 : (0 : Nat) + 8192 = 8192 := rfl
  rw [hn2] at h2
  -- the two bytes
  have kb := Bl.new w2 (.cells #[.int .u8 5, .int .u8 69] 5)
  have h3 := h2.gap kb w2.heap.size (w2.heap.size + 1) (Nat.le_refl _)
  have hrd : Rd (w2.alloc (.cells #[.int .u8 5, .int .u8 69] 5)) (some ⟨w2.heap.size, 0, none⟩) [5, 69] := rd_row (heap_alloc_new w2 _)
  have cp := mput_rel h3 4096 (some ⟨w2.heap.size, 0, none⟩) 2 2 [5, 69] hrd rfl (by omega) (two_bytes (by omega) (by omega)) (fun _ ad e hTa => by injection e with e; subst e; exact hTa.2 ⟨Nat.le_refl _, Nat.lt_succ_self _⟩) (by omega) (by omega) (by omega) (fun b hb => by simp at hb; exact ⟨by show w.heap.size ≤ b; omega, fun e => by omega⟩)
  rw [show ((4096 : Nat) : Int) = 4096 from rfl] at cp
  have CP := Lib.hid cp; clear cp h3 hrd h2
  have K3 := Lib.hid (K2.out.trans kb); clear kb
  unfold addr0 at *
  go_wp2_with fail
  with_reducible refine CP.out.mono ?_
  rintro e w3 ⟨rfl, M3, st3, h3, hp3, _, f3⟩
  have K4 := Lib.hid (Fr.from_bl K3.out (f3.mono fun b _ e => e.1)); clear f3 CP
  have H3 := Lib.hid h3; clear h3
  have HP := Lib.hid hp3; clear hp3
  go_wp2_with fail
  with_reducible refine (cnew_on w3).mono ?_
  rintro e w4 ⟨rfl, hc, k5, s5⟩
  have h4 := H3.out.gap k5 w3.heap.size w4.heap.size (Nat.le_refl _)
  have hs3 : w.heap.size ≤ w3.heap.size := K4.out.size
  have cf := fetch_on hc (by omega) (Inv.none_ _) (oneR_sole _ _ M3 st3) (oneR_blocks h4) (fun e => e.2 ⟨Nat.le_refl _, by omega⟩) (by omega) h4 (HT.out.bl (K4.out.trans k5)) 4096 (by omega)
  rw [show ((4096 : Nat) : Int) = 4096 from rfl] at cf
  have CF := Lib.hid cf; clear cf h4 hc H3
  have K5 := Lib.hid (K4.out.trans k5); clear k5
  unfold addr0 at *
  go_wp2_with fail
  with_reducible refine CF.out.mono ?_
  rintro e w5 ⟨A, hA, rfl, _, f5⟩
  have hin : ∀ x : Int, 4096 ≤ x → x < 8192 → In [(⟨4096, 8192, 7⟩ : Rg)] x 7 := fun x h1 h2 => In_one.2 ⟨h1, h2, rfl⟩
  have e0 := (HP.out 4096).1 ⟨by omega, by omega, 7, hin _ (by omega) (by omega)⟩
  have e1 := (HP.out 4097).1 ⟨by omega, by omega, 7, hin _ (by omega) (by omega)⟩
  obtain rfl := ans_17669 hA (by decide) (hin _ (by omega) (by omega)) (hin _ (by omega) (by omega)) (by rw [e0]; rfl) (by rw [e1]; rfl)
  have K6 := Lib.hid (Fr.only_new K5.out f5 hs3)
  clear e0 e1 hin hA f5 CF HP
  unfold Ans.v stopC Td.Ins.cells
  go_wp2
  go_ret
  exact ⟨rfl, (K6.out.alloc _).alloc _⟩
end Go.Proofs.YtbngjbmfkekdnaaGreatDoor
