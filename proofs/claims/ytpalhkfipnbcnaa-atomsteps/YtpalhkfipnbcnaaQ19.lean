/-
  A heap below a wall; one byte that is put.
  Pages with a prot each; which places may be used.
  A space and the reference's space, side by side.
  Atomic instructions: the spaces that the law makes.
  Atomic instructions: the spaces that the law makes, as a whole.
  Atomic instructions: what a step answers is one; the reference's step.
-/
import Derived.Test.YtpalhkfipnbcnaaQ18
import Derived.Test.YtpalhkfipnbcnaaQ5
import Derived.Test.YtpalhkfipnbcnaaQ14
set_option linter.unusedVariables false
set_option linter.unusedSimpArgs false
namespace Go.Proofs.Ytpalhkfipnbcnaa
open Go.RowKit
set_option maxRecDepth 100000
theorem so_of {L : List Rg} (h : Rs L) {lo hi : Int} (hb : ∀ x p, In L x p → lo ≤ x ∧ x < hi) : So lo hi L := by
  refine ⟨h.nm.so.1, fun r hr => ?_⟩
  have h1 := h.nm.so.2 r hr
  have h2 := hb r.s r.p ⟨r, hr, by omega, by omega, rfl⟩
  have h3 := hb (r.e - 1) r.p ⟨r, hr, by omega, by omega, rfl⟩
  omega
/-- A heap that ends at en, below a page at place at. -/
structure HI (L : List Rg) (M : Nat → Int) (en at_ : Int) : Prop where
  rs : Rs L
  pl : ∀ x q, In L x q ↔ q = 3 ∧ ((8192 ≤ x ∧ x < (en + 4095) / 4096 * 4096) ∨ (at_ ≤ x ∧ x < at_ + 4096))
  zero : ∀ x : Nat, (x : Int) < at_ → M x = 0
  e0 : 8192 ≤ en
  e1 : (en + 4095) / 4096 * 4096 ≤ at_
  a0 : at_ % 4096 = 0
  a1 : at_ ≤ 126976
theorem HI.few {L : List Rg} {M : Nat → Int} {en at_ : Int} (h : HI L M en at_) : L.length ≤ 32 ∧ tot L ≤ 122880 := by
  have h1 := h.a1
  have e1 := h.e1
  have hb : ∀ x p, In L x p → 8192 ≤ x ∧ x < at_ + 4096 := fun x p hx => by
    have := (h.pl x p).1 hx
    have := h.e0
    omega
  refine ⟨h.rs.few 32 (by omega) (fun a p ha => by have := hb a p ha; omega), ?_⟩
  have := So.tot_le (so_of h.rs hb) (by have := h.e0; omega)
  omega
theorem wiped_zero {M : Nat → Int} {at_ : Int} (h : ∀ x : Nat, (x : Int) < at_ → M x = 0) (a b : Nat) : ∀ x : Nat, (x : Int) < at_ → wiped M a b x = 0 := fun x hx => by
  simp only [wiped]
  split
  · rfl
  · exact h x hx
/-- What becomes of it when its end moves. -/
theorem HI.grow {L : List Rg} {M : Nat → Int} {en at_ : Int} (h : HI L M en at_) {x : Int} (h1 : (en + 4095) / 4096 * 4096 < (x + 4095) / 4096 * 4096) (h2 : (x + 4095) / 4096 * 4096 ≤ at_) (hx : 0 ≤ x) (was now : Nat) (hw : (was : Int) = (en + 4095) / 4096 * 4096) (hn : (now : Int) = (x + 4095) / 4096 * 4096) : HI (layL L was now [⟨was, now, 3⟩]) (wiped M was now) x at_ := by
  have a0 := h.a0
  have a1 := h.a1
  have e0 := h.e0
  have hs : Span (was : Int) (now : Int) := ⟨by omega, by omega, by omega, by omega⟩
  refine ⟨h.rs.lay (by omega) hs, fun y q => ?_, wiped_zero h.zero _ _, by omega, h2, a0, a1⟩
  rw [lay_in h.rs (by omega) hs, h.pl, hw, hn]
  omega
theorem HI.shrink {L : List Rg} {M : Nat → Int} {en at_ : Int} (h : HI L M en at_) {x : Int} (h1 : (x + 4095) / 4096 * 4096 < (en + 4095) / 4096 * 4096) (h2 : 8192 ≤ x) (was now : Nat) (hw : (was : Int) = (en + 4095) / 4096 * 4096) (hn : (now : Int) = (x + 4095) / 4096 * 4096) : HI (layL L now was []) (wiped M now was) x at_ := by
  have a0 := h.a0
  have a1 := h.a1
  have e1 := h.e1
  have hs : Span (now : Int) (was : Int) := ⟨by omega, by omega, by omega, by omega⟩
  refine ⟨h.rs.cut (by omega) hs, fun y q => ?_, wiped_zero h.zero _ _, h2, by omega, a0, a1⟩
  rw [cut_in h.rs (by omega) hs, h.pl, hw, hn]
  omega
theorem HI.stay {L : List Rg} {M : Nat → Int} {en at_ : Int} (h : HI L M en at_) {x : Int} (h1 : (x + 4095) / 4096 * 4096 = (en + 4095) / 4096 * 4096) (h2 : 8192 ≤ x) : HI L M x at_ := ⟨h.rs, fun y q => by rw [h.pl, h1], h.zero, h2, by rw [h1]; exact h.e1, h.a0, h.a1⟩
theorem MS.setEnd {T : Nat → Prop} {w : World} {sb n : Nat} {L : List Rg} {M st : Nat → Int} {mo ba en x : Int} (h : MS T w sb n L M st mo ba en) (h0 : 0 ≤ x) (h1 : x ≤ 274877906944) : MS T (w.setCell ⟨sb, 7, none⟩ (.int .u64 x)) sb n L M st mo ba x := by
  have hh := h.heap
  refine h.setNums (Fr.set (S := only sb) (p := ⟨sb, 7, none⟩) rfl _) (fun v pm sm c l hb => ?_) ⟨hh.1, hh.2.1, h0, h1⟩
  rw [heap_setCell_same w sb 7 _ 83 (.int .u64 x) hb]; rfl
end Go.Proofs.Ytpalhkfipnbcnaa

set_option linter.unusedVariables false
set_option linter.unusedSimpArgs false
namespace Go.Proofs.Ytpalhkfipnbcnaa
open Go.RowKit
set_option maxRecDepth 100000
/-- The pages 1 to i are mapped, each with the prot of its number. -/
structure KI (L : List Rg) (pr : Nat → Int) (i : Nat) : Prop where
  rs : Rs L
  le : i ≤ 6
  pl : ∀ x q, In L x q ↔ ∃ j : Nat, j < i ∧ ((j : Int) + 1) * 4096 ≤ x ∧ x < ((j : Int) + 2) * 4096 ∧ q = pr j
theorem KI.nil (pr : Nat → Int) : KI [] pr 0 := ⟨Rs.nil, by omega, fun x q => ⟨fun h => absurd h (In_nil x q), fun ⟨j, h, _⟩ => by omega⟩⟩
theorem few_of {L : List Rg} (h : Rs L) (hb : ∀ x q, In L x q → 4096 ≤ x ∧ x < 32768) : L.length ≤ 8 ∧ tot L ≤ 28672 := by
  refine ⟨h.few 8 (by omega) (fun a p ha => by have := hb a p ha; omega), ?_⟩
  have := So.tot_le (so_of h hb) (by omega)
  omega
theorem KI.bd {L : List Rg} {pr : Nat → Int} {i : Nat} (h : KI L pr i) : ∀ x q, In L x q → 4096 ≤ x ∧ x < ((i : Int) + 1) * 4096 := fun x q hx => by
  obtain ⟨j, h1, h2, h3, _⟩ := (h.pl x q).1 hx
  omega
/-- One page more, of any prot. -/
theorem KI.map_in {L : List Rg} {pr : Nat → Int} {i : Nat} (h : KI L pr i) (hi : i < 6) (a b : Nat) (ha : a = (i + 1) * 4096) (hb : b = (i + 2) * 4096) (p : Int) : Rs (layL L a b [⟨a, b, p⟩]) ∧ ∀ x q, In (layL L a b [⟨a, b, p⟩]) x q ↔ ((a : Int) ≤ x ∧ x < b ∧ p = q) ∨ In L x q := by
  have hs : Span (a : Int) (b : Int) := ⟨by omega, by omega, by omega, by omega⟩
  refine ⟨h.rs.lay (by omega) hs, fun x q => ?_⟩
  rw [lay_in h.rs (by omega) hs]
  refine ⟨fun e => ?_, fun e => ?_⟩
  · rcases e with e | ⟨_, e⟩
    · exact .inl e
    · exact .inr e
  · rcases e with e | e
    · exact .inl e
    · have := h.bd x q e
      exact .inr ⟨.inl (by omega), e⟩
theorem KI.next {L L1 : List Rg} {pr : Nat → Int} {i : Nat} (h : KI L pr i) (hi : i < 6) (a b : Nat) (ha : a = (i + 1) * 4096) (hb : b = (i + 2) * 4096) (hr : Rs L1) (h1 : ∀ x q, In L1 x q ↔ ((a : Int) ≤ x ∧ x < b ∧ 7 = q) ∨ In L x q) : KI (layL L1 a b [⟨a, b, pr i⟩]) pr (i + 1) := by
  have hs : Span (a : Int) (b : Int) := ⟨by omega, by omega, by omega, by omega⟩
  refine ⟨hr.lay (by omega) hs, by omega, fun x q => ?_⟩
  rw [lay_in hr (by omega) hs, h1]
  refine ⟨fun e => ?_, fun ⟨j, j1, j2, j3, j4⟩ => ?_⟩
  · rcases e with ⟨e1, e2, e3⟩ | ⟨e0, ⟨e1, e2, _⟩ | e⟩
    · exact ⟨i, by omega, by omega, by omega, e3.symm⟩
    · omega
    · obtain ⟨j, j1, j2⟩ := (h.pl x q).1 e
      exact ⟨j, by omega, j2⟩
  · by_cases hj : j = i
    · subst hj; exact .inl ⟨by omega, by omega, j4.symm⟩
    · exact .inr ⟨.inl (by omega), .inr ((h.pl x q).2 ⟨j, by omega, j2, j3, j4⟩)⟩
/-- Which places may be used so. -/
theorem KI.can {L : List Rg} {pr : Nat → Int} {i : Nat} (h : KI L pr i) (p x : Int) : Can L p x ↔ ∃ j : Nat, j < i ∧ ((j : Int) + 1) * 4096 ≤ x ∧ x < ((j : Int) + 2) * 4096 ∧ bits .and .i64 (pr j) p = p := by
  refine ⟨fun ⟨q, hq, hb⟩ => ?_, fun ⟨j, j1, j2, j3, j4⟩ => ⟨pr j, (h.pl x _).2 ⟨j, j1, j2, j3, rfl⟩, j4⟩⟩
  obtain ⟨j, j1, j2, j3, j4⟩ := (h.pl x q).1 hq
  exact ⟨j, j1, j2, j3, by rw [← j4]; exact hb⟩
theorem bit_all : ∀ n : Fin 256, ((bits .and .i64 ((n.val : Int) % 8) 2 = 2) ↔ (bits .and .u8 (n.val : Int) 2 != 0) = true) ∧ ((bits .and .i64 ((n.val : Int) % 8) 1 = 1) ↔ (bits .and .u8 (n.val : Int) 1 != 0) = true) := by decide +kernel
theorem bit2 (c : Int) (h0 : 0 ≤ c) (h1 : c ≤ 255) : (bits .and .i64 (c % 8) 2 = 2) ↔ (bits .and .u8 c 2 != 0) = true := by
  obtain ⟨n, rfl⟩ := Int.eq_ofNat_of_zero_le h0
  exact (bit_all ⟨n, by omega⟩).1
theorem bit1 (c : Int) (h0 : 0 ≤ c) (h1 : c ≤ 255) : (bits .and .i64 (c % 8) 1 = 1) ↔ (bits .and .u8 c 1 != 0) = true := by
  obtain ⟨n, rfl⟩ := Int.eq_ofNat_of_zero_le h0
  exact (bit_all ⟨n, by omega⟩).2
/-- Prots out of bytes that came in. -/
def Prots (w : World) (a : Option Addr) (len : Nat) (cs : Nat → Int) : Prop := 0 < len → ∃ b off, a = some ⟨b, off, none⟩ ∧ ∀ k, k < len → w.cell? ⟨b, off + k, none⟩ = some (.int .u8 (cs k)) ∧ 0 ≤ cs k ∧ cs k ≤ 255
theorem nums_prots {w : World} {a : Option Addr} {len : Nat} (h : Nums .u8 w a len) : ∃ cs, Prots w a len cs := by
  by_cases h0 : 0 < len
  · obtain ⟨b, off, rfl, hc⟩ := h h0
    refine ⟨fun k => match w.cell? ⟨b, off + k, none⟩ with | some (.int _ c) => c | _ => 0, fun _ => ⟨b, off, rfl, fun k hk => ?_⟩⟩
    obtain ⟨c, h1, h2⟩ := hc k hk
    simp only [h1]
    exact ⟨trivial, u8_in h2⟩
  · exact ⟨fun _ => 0, fun h => absurd h h0⟩
theorem Prots.bl {w w' : World} {a : Option Addr} {len : Nat} {cs : Nat → Int} (h : Prots w a len cs) (k : Bl w w') : Prots w' a len cs := fun h0 => by
  obtain ⟨b, off, h1, h2⟩ := h h0
  exact ⟨b, off, h1, fun j hj => ⟨k.cell' (h2 j hj).1, (h2 j hj).2⟩⟩
/-- A page of prot 7, mapped anew. -/
theorem kmap {T : Nat → Prop} {w : World} {sb n : Nat} {L : List Rg} {M st : Nat → Int} {pr : Nat → Int} {i : Nat} (hk : KI L pr i) (hi : i < 6) (h : MS T w sb n L M st 20 0 0) (a : Nat) (ha : a = (i + 1) * 4096) (hn : n < 70000000) (hT : ∀ b, w.heap.size ≤ b → T b) :
    Calls Try.prog 29 #[addr0 sb, .int .u64 (a : Int), .int .u64 4096, .int .i64 7, .bool true] w fun e w' => (∃ v, e = .returned v) ∧ ∃ L' M' st', Rs L' ∧ (∀ x q, In L' x q ↔ ((a : Int) ≤ x ∧ x < ((a + 4096 : Nat) : Int) ∧ 7 = q) ∨ In L x q) ∧ MS T w' sb (n + 8192) L' M' st' 20 0 0 ∧ Fr T w w' := by
  obtain ⟨r1, r2⟩ := hk.map_in hi a (a + 4096) ha (by omega) 7
  have hf := few_of r1 (fun x q hx => by
    rcases (r2 x q).1 hx with ⟨h1, h2, _⟩ | h1
    · omega
    · have := hk.bd x q h1; omega)
  refine (mmap_fixed h a 4096 7 (by omega) (by omega) ⟨by omega, by omega, by omega, by omega, by omega⟩ (by omega) hT (a + 4096) (by rw [IntWalk.u64_in _ (by omega)]; omega)).mono ?_
  rintro e w' ⟨r, rfl, hl⟩
  rcases hl with ⟨rfl, _, _, _, _, _, st', h7, _, h9⟩ | ⟨_, hx, _⟩ | ⟨_, _, hx, _⟩
  · exact ⟨⟨_, rfl⟩, _, _, st', r1, r2, h7, h9⟩
  · exact absurd ⟨⟨by omega, by omega, by omega, by omega⟩, by omega, by omega⟩ hx
  · omega
theorem storeK {T : Nat → Prop} {w : World} {sb n0 : Nat} {L : List Rg} {M st : Nat → Int} {mo ba en : Int} (h : MS T w sb n0 L M st mo ba en) (a n : Nat) (x : Int) (ha : a < 2 ^ 64) (hn : n = 1 ∨ n = 2 ∨ n = 4 ∨ n = 8) (hn0 : n0 < 80000000) (hT : ∀ b, w.heap.size ≤ b → T b) :
    Calls Try.prog 18 #[addr0 sb, .int .u64 (a : Int), .int .i64 (n : Int), .int .u64 x] w fun e w' => ∃ kf yf M2 st2, e = .returned (faultV kf yf) ∧ MS T w' sb (n0 + 9) L M2 st2 mo ba en ∧ Fr T w w' ∧ ∀ i : Nat, M2 i ≠ M i → kf = 0 ∧ a ≤ i ∧ i < a + n ∧ Can L 2 i := by
  refine (mstore_any h a n x ha hn hn0 hT).mono ?_
  rintro e w' ⟨k, y, rfl, hh⟩
  rcases hh with ⟨rfl, _, _, _, _, kk⟩ | ⟨rfl, rfl, hc, st', h3, _, f3⟩
  · exact ⟨2, y, M, st, rfl, (h.bl kk).mono (by omega), Fr.of_bl kk, fun i hi => absurd rfl hi⟩
  · refine ⟨0, 0, _, st', rfl, h3, f3, fun i hi => ?_⟩
    have hin : a ≤ i ∧ i < a + n := by
      rcases Nat.lt_or_ge i a with h1 | h1
      · exact absurd (lay_out _ _ _ _ (.inl h1)) hi
      · rcases Nat.lt_or_ge i (a + n) with h2 | h2
        · exact ⟨h1, h2⟩
        · exact absurd (lay_out _ _ _ _ (.inr (by rw [putB_length]; exact h2))) hi
    exact ⟨rfl, hin.1, hin.2, hc i (by omega) (by omega)⟩
theorem getS_congr (xs ys : List Int) (n : Nat) (h : ∀ k, k < n → xs.getD k 0 = ys.getD k 0) : getS xs n = getS ys n := by
  induction n with
  | zero => rfl
  | succ n ih =>
    unfold getS
    rw [ih (fun k hk => h k (by omega)), h n (by omega)]
theorem numAt_drop (M : Nat → Int) (A n m : Nat) (h : A + n ≤ m) : getS ((bytesAt M 0 m).drop A) n = numAt M A n := by
  refine getS_congr _ _ n fun k hk => ?_
  rw [List.getD_eq_getElem?_getD, List.getD_eq_getElem?_getD, List.getElem?_drop, bytesAt_get _ _ _ _ (show A + k < m by omega), bytesAt_get _ _ _ _ hk, Nat.zero_add]
theorem drop_bd {M : Nat → Int} (h : ∀ x, 0 ≤ M x ∧ M x ≤ 255) (A m : Nat) : ∀ k, 0 ≤ ((bytesAt M 0 m).drop A).getD k 0 ∧ ((bytesAt M 0 m).drop A).getD k 0 ≤ 255 := fun k => by
  rw [List.getD_eq_getElem?_getD, List.getElem?_drop]
  by_cases hk : A + k < m
  · rw [bytesAt_get _ _ _ _ hk]; exact h _
  · rw [List.getElem?_eq_none (by rw [bytesAt_length]; omega)]; simp
/-- A byte of a block that was read. -/
theorem read_cell {w w' : World} {g : Nat} {M : Nat → Int} {m : Nat} (h : w.heap[g]? = some (.cells (asBytes (bytesAt M 0 m)).toArray 5 (0, 0))) (k : Bl w w') (i : Nat) (hi : i < m) : w'.cell? ⟨g, i, none⟩ = some (.int .u8 (M i)) := by
  have h1 := k.at_ h
  rw [cell_of_row w' g i _ 5 (0, 0) h1]
  simp only [List.getElem?_toArray]
  rw [asBytes_at _ _ (by rw [bytesAt_length]; exact hi), List.getD_eq_getElem?_getD, bytesAt_get _ _ _ _ hi, Nat.zero_add]
  rfl
end Go.Proofs.Ytpalhkfipnbcnaa

set_option linter.unusedVariables false
set_option linter.unusedSimpArgs false
namespace Go.Proofs.Ytpalhkfipnbcnaa
open Go.RowKit
set_option maxRecDepth 100000
/-- A space with L, M and the reference's with L2, M2: their blocks are apart, those of K are neither's. -/
structure Two (K : Nat → Prop) (w : World) (sb rb n : Nat) (L : List Rg) (M st : Nat → Int) (mo ba en : Int) (L2 : List Rg) (M2 : Nat → Int) : Prop where
  ex : ∃ T1 T2 P, MS T1 w sb n L M st mo ba en ∧ RP T2 w rb P M2 mo ba en ∧ regs P = L2 ∧ (∀ b, b < w.heap.size → T1 b → ¬ T2 b) ∧ (∀ b, K b → ¬ T1 b ∧ ¬ T2 b) ∧ ∀ b, w.heap.size ≤ b → T1 b ∧ T2 b
section
variable {K : Nat → Prop} {w w' : World} {sb rb n : Nat} {L L2 : List Rg} {M st M2 : Nat → Int} {mo ba en : Int}
theorem Two.less (h : Two K w sb rb n L M st mo ba en L2 M2) {J : Nat → Prop} (hJ : ∀ b, J b → K b) : Two J w sb rb n L M st mo ba en L2 M2 := by
  obtain ⟨T1, T2, P, h1, h2, h3, h4, h5, h6⟩ := h.ex
  exact ⟨T1, T2, P, h1, h2, h3, h4, fun b hb => h5 b (hJ b hb), h6⟩
theorem Two.mono (h : Two K w sb rb n L M st mo ba en L2 M2) {m : Nat} (hn : n ≤ m) : Two K w sb rb m L M st mo ba en L2 M2 := by
  obtain ⟨T1, T2, P, h1, h2, h3⟩ := h.ex
  exact ⟨T1, T2, P, h1.mono hn, h2, h3⟩
/-- New memory is kept from now on. -/
theorem Two.bl (h : Two K w sb rb n L M st mo ba en L2 M2) (k : Bl w w') : Two (fun b => K b ∨ (w.heap.size ≤ b ∧ b < w'.heap.size)) w' sb rb n L M st mo ba en L2 M2 := by
  obtain ⟨T1, T2, P, h1, h2, h3, h4, h5, h6⟩ := h.ex
  have hs := k.size
  refine ⟨fun b => T1 b ∧ (b < w.heap.size ∨ w'.heap.size ≤ b), fun b => T2 b ∧ (b < w.heap.size ∨ w'.heap.size ≤ b), P, (h1.among fun b hb hT => ⟨hT, .inl hb⟩).bl k, (h2.among fun b hb hT => ⟨hT, .inl hb⟩).bl k, h3, fun b hb e1 e2 => ?_, fun b hb => ?_, fun b hb => ?_⟩
  · rcases e1.2 with h7 | h7
    · exact h4 b h7 e1.1 e2.1
    · omega
  · rcases hb with hb | hb
    · exact ⟨fun e => (h5 b hb).1 e.1, fun e => (h5 b hb).2 e.1⟩
    · exact ⟨fun e => by rcases e.2 with h7 | h7 <;> omega, fun e => by rcases e.2 with h7 | h7 <;> omega⟩
  · exact ⟨⟨(h6 b (by omega)).1, .inr hb⟩, ⟨(h6 b (by omega)).2, .inr hb⟩⟩
/-- What a call of the space leaves of both. -/
theorem Two.call1 (h : Two K w sb rb n L M st mo ba en L2 M2) : ∃ T1, MS T1 w sb n L M st mo ba en ∧ (∀ b, w.heap.size ≤ b → T1 b) ∧ ∀ w' n' L' M' st' mo' ba' en', mo' = mo → ba' = ba → en' = en → MS T1 w' sb n' L' M' st' mo' ba' en' → Fr T1 w w' → Two K w' sb rb n' L' M' st' mo ba en L2 M2 ∧ Fr (fun b => ¬ K b) w w' := by
  obtain ⟨T1, T2, P, h1, h2, h3, h4, h5, h6⟩ := h.ex
  refine ⟨T1, h1, fun b hb => (h6 b hb).1, fun w' n' L' M' st' mo' ba' en' e1 e2 e3 hm hf => ⟨?_, hf.mono fun b _ hT e => (h5 b e).1 hT⟩⟩
  subst e1 e2 e3
  have hs := hf.size
  refine ⟨T1, fun b => T2 b ∧ (b < w.heap.size ∨ w'.heap.size ≤ b), P, hm, (h2.among fun b hb hT => ⟨hT, .inl hb⟩).kept hf (fun b hb e e2 => h4 b hb e2 e.1), h3, fun b hb e1 e2 => ?_, fun b hb => ⟨(h5 b hb).1, fun e => (h5 b hb).2 e.1⟩, fun b hb => ⟨(h6 b (by omega)).1, ⟨(h6 b (by omega)).2, .inr hb⟩⟩⟩
  rcases e2.2 with h7 | h7
  · exact h4 b h7 e1 e2.1
  · omega
/-- What a call of the reference's space leaves of both. -/
theorem Two.call2 (h : Two K w sb rb n L M st mo ba en L2 M2) : ∃ T2 P, RP T2 w rb P M2 mo ba en ∧ regs P = L2 ∧ (∀ b, w.heap.size ≤ b → T2 b) ∧ ∀ w' P' M2', RP T2 w' rb P' M2' mo ba en → Fr T2 w w' → Two K w' sb rb n L M st mo ba en (regs P') M2' ∧ Fr (fun b => ¬ K b) w w' := by
  obtain ⟨T1, T2, P, h1, h2, h3, h4, h5, h6⟩ := h.ex
  refine ⟨T2, P, h2, h3, fun b hb => (h6 b hb).2, fun w' P' M2' hm hf => ⟨?_, hf.mono fun b _ hT e => (h5 b e).2 hT⟩⟩
  have hs := hf.size
  have g1 : MS (fun b => T1 b ∧ (b < w.heap.size ∨ w'.heap.size ≤ b)) w' sb n L M st mo ba en := by
    have g := h1.among (U := fun b => T1 b ∧ b < w.heap.size) fun b hb hT => ⟨hT, hb⟩
    have g2 := g.kept hf (fun b e e2 => h4 b e.2 e.1 e2)
    exact g2.among fun b hb e => ⟨e.1, .inl e.2⟩
  refine ⟨fun b => T1 b ∧ (b < w.heap.size ∨ w'.heap.size ≤ b), T2, P', g1, hm, rfl, fun b hb e1 e2 => ?_, fun b hb => ⟨fun e => (h5 b hb).1 e.1, (h5 b hb).2⟩, fun b hb => ⟨⟨(h6 b (by omega)).1, .inr hb⟩, (h6 b (by omega)).2⟩⟩
  rcases e1.2 with h7 | h7
  · exact h4 b h7 e1.1 e2
  · omega
/-- A turn of what neither has. -/
theorem Two.kept (h : Two K w sb rb n L M st mo ba en L2 M2) {U : Nat → Prop} (hf : Fr U w w') (hU : ∀ b, b < w.heap.size → U b → K b) (hsz : w'.heap.size = w.heap.size) : Two K w' sb rb n L M st mo ba en L2 M2 := by
  obtain ⟨T1, T2, P, h1, h2, h3, h4, h5, h6⟩ := h.ex
  have g1 : MS T1 w' sb n L M st mo ba en := by
    have g := h1.among (U := fun b => T1 b ∧ b < w.heap.size) fun b hb hT => ⟨hT, hb⟩
    exact (g.kept hf (fun b e e2 => (h5 b (hU b e.2 e2)).1 e.1)).among fun b hb e => e.1
  exact ⟨T1, T2, P, g1, h2.kept hf (fun b hb e e2 => (h5 b (hU b hb e2)).2 e), h3, by rw [hsz]; exact h4, h5, by rw [hsz]; exact h6⟩
end
end Go.Proofs.Ytpalhkfipnbcnaa

set_option linter.unusedVariables false
set_option linter.unusedSimpArgs false
namespace Go.Proofs.Ytpalhkfipnbcnaa
open Go.RowKit
set_option maxRecDepth 100000
def zM : Nat → Int := fun _ => 0
theorem wiped_zM (a b : Nat) : wiped zM a b = zM := by funext x; simp only [wiped, zM]; split <;> rfl
def prS (len : Nat) (cs : Nat → Int) (j : Nat) : Int := if j < len then cs j % 8 else 3
theorem KI.next1 {L : List Rg} {pr : Nat → Int} {i : Nat} (h : KI L pr i) (hi : i < 6) (a b : Nat) (ha : a = (i + 1) * 4096) (hb : b = (i + 2) * 4096) : KI (layL L a b [⟨a, b, pr i⟩]) pr (i + 1) := by
  obtain ⟨h1, h2⟩ := h.map_in hi a b ha hb (pr i)
  refine ⟨h1, by omega, fun x q => ?_⟩
  rw [h2]
  refine ⟨fun e => ?_, fun ⟨j, j1, j2, j3, j4⟩ => ?_⟩
  · rcases e with ⟨e1, e2, e3⟩ | e
    · exact ⟨i, by omega, by omega, by omega, e3.symm⟩
    · obtain ⟨j, j1, j2⟩ := (h.pl x q).1 e
      exact ⟨j, by omega, j2⟩
  · by_cases hj : j = i
    · subst hj; exact .inl ⟨by omega, by omega, j4.symm⟩
    · exact .inr ((h.pl x q).2 ⟨j, by omega, j2, j3, j4⟩)
section
variable {K : Nat → Prop} {w : World} {sb rb n : Nat} {L : List Rg} {st : Nat → Int} {pr : Nat → Int} {i : Nat}
/-- One page more of the space. -/
theorem jmap (hk : KI L pr i) (hi : i < 6) (hp : 0 ≤ pr i ∧ pr i ≤ 7) (h : Two K w sb rb n L zM st 10 0 0 L zM) (hn : n < 70000000) (a : Nat) (ha : a = (i + 1) * 4096) :
    Calls Try.prog 29 #[addr0 sb, .int .u64 (a : Int), .int .u64 4096, .int .i64 (pr i), .bool true] w fun e w' => (∃ v, e = .returned v) ∧ ∃ st', Two K w' sb rb (n + 8192) (layL L a (a + 4096 : Nat) [⟨a, (a + 4096 : Nat), pr i⟩]) zM st' 10 0 0 L zM ∧ Fr (fun b => ¬ K b) w w' := by
  obtain ⟨r1, r2⟩ := hk.map_in hi a (a + 4096) ha (by omega) (pr i)
  have hf := few_of r1 (fun x q hx => by
    rcases (r2 x q).1 hx with ⟨h1, h2, _⟩ | h1
    · omega
    · have := hk.bd x q h1; omega)
  obtain ⟨T1, hm, hT, hcl⟩ := h.call1
  refine (mmap_fixed hm a 4096 (pr i) (by omega) (by omega) ⟨by omega, by omega, by omega, hp.1, hp.2⟩ (by omega) hT (a + 4096) (by rw [IntWalk.u64_in _ (by omega)]; omega)).mono ?_
  rintro e w' ⟨r, rfl, hl⟩
  rcases hl with ⟨rfl, _, _, _, _, _, st', h7, _, h9⟩ | ⟨_, hx, _⟩ | ⟨_, _, hx, _⟩
  · rw [wiped_zM] at h7
    exact ⟨⟨_, rfl⟩, st', hcl _ _ _ _ _ _ _ _ rfl rfl rfl h7 h9⟩
  · exact absurd ⟨⟨by omega, by omega, by omega, by omega⟩, hp.1, hp.2⟩ hx
  · omega
/-- One page more of the reference's space. -/
theorem jlay {L1 : List Rg} (hk : KI L pr i) (hi : i < 6) (hp : 0 ≤ pr i ∧ pr i ≤ 7) (h : Two K w sb rb n L1 zM st 10 0 0 L zM) (a : Nat) (ha : a = (i + 1) * 4096) :
    Calls Try.prog 30 #[addr0 rb, .int .u64 (a : Int), .int .u64 ((a + 4096 : Nat) : Int), .int .i64 (pr i)] w fun e w' => (∃ v, e = .returned v) ∧ Two K w' sb rb n L1 zM st 10 0 0 (layL L a (a + 4096 : Nat) [⟨a, (a + 4096 : Nat), pr i⟩]) zM ∧ Fr (fun b => ¬ K b) w w' := by
  obtain ⟨r1, r2⟩ := hk.map_in hi a (a + 4096) ha (by omega) (pr i)
  have hs : Span (a : Int) ((a + 4096 : Nat) : Int) := ⟨by omega, by omega, by omega, by omega⟩
  have hf := few_of r1 (fun x q hx => by
    rcases (r2 x q).1 hx with ⟨h1, h2, _⟩ | h1
    · omega
    · have := hk.bd x q h1; omega)
  have hf0 := few_of hk.rs (fun x q hx => by have := hk.bd x q hx; omega)
  obtain ⟨T2, P, hm, hreg, hT, hcl⟩ := h.call2
  have hall := regs_all hm.pgs (by omega)
  have heq : ∀ P', Pgs 67108864 P' → SetAs P P' (a : Int) ((a + 4096 : Nat) : Int) (pr i) → regs P' = layL L a (a + 4096 : Nat) [⟨a, (a + 4096 : Nat), pr i⟩] := fun P' hp' hset => by
    refine (regs_rs hp').eq r1 fun x q => ?_
    rw [regs_in hp', hset x q, lay_in hk.rs (by omega) hs, ← hreg, regs_in hm.pgs]
  refine (rp_lay hm hT a (a + 4096) (pr i) hp hs).mono ?_
  rintro e w' ⟨r, rfl, hl⟩
  rcases hl with ⟨rfl, P', g1, g2, g3, g4⟩ | ⟨rfl, _, hno | ⟨P', g1, g2, g3⟩⟩
  · rw [wiped_zM] at g1
    have h8 := hcl _ _ _ g1 g3
    rw [heq P' g1.pgs g2] at h8
    exact ⟨⟨_, rfl⟩, h8⟩
  · have h1 := outP_len P (a : Int) ((a + 4096 : Nat) : Int)
    have h2 := hall.2.2.1
    rw [hreg] at h2
    omega
  · rw [heq P' g1 g2] at g3
    omega
end
/-- A machine of the reference: its place, its registers, what is held, its space. -/
def hartV (pc : Int) (xs : List Int) (at_ held : Int) (rb : Nat) : List Value := (.int .u64 pc :: xs.map (Value.int .u64)) ++ [.int .u64 at_, .int .i64 held, addr0 rb]
structure HAt (w : World) (hb rb : Nat) (pc : Int) (xs : List Int) (at_ held : Int) : Prop where
  blk : w.heap[hb]? = some (.cells (hartV pc xs at_ held rb).toArray 51 (0, 0))
  len : xs.length = 32
section
variable {w w' : World} {hb rb : Nat} {pc at_ held : Int} {xs : List Int}
theorem HAt.of_block (h : HAt w hb rb pc xs at_ held) (k : w'.heap[hb]? = w.heap[hb]?) : HAt w' hb rb pc xs at_ held := ⟨by rw [k]; exact h.blk, h.len⟩
theorem HAt.lt (h : HAt w hb rb pc xs at_ held) : hb < w.heap.size := lt_at h.blk
theorem HAt.frozen (h : HAt w hb rb pc xs at_ held) (i : Nat) : w.frozen? ⟨hb, i, none⟩ = false := by simp [World.frozen?, h.blk]
theorem hart_len {pc : Int} {xs : List Int} (h : xs.length = 32) : (Value.int IntKind.u64 pc :: xs.map (Value.int .u64)).length = 33 := by simp [h]
theorem HAt.cells (h : HAt w hb rb pc xs at_ held) : w.cell? ⟨hb, 33, none⟩ = some (.int .u64 at_) ∧ w.cell? ⟨hb, 34, none⟩ = some (.int .i64 held) ∧ w.cell? ⟨hb, 35, none⟩ = some (addr0 rb) := by
  have hl := hart_len (pc := pc) h.len
  refine ⟨?_, ?_, ?_⟩ <;> rw [cell_of_row w hb _ _ _ (0, 0) h.blk] <;> unfold hartV <;> rw [List.getElem?_toArray, List.getElem?_append_right (by omega), hl] <;> rfl
theorem HAt.setAt (h : HAt w hb rb pc xs at_ held) (a : Int) : HAt (w.setCell ⟨hb, 33, none⟩ (.int .u64 a)) hb rb pc xs a held := by
  have hl := hart_len (pc := pc) h.len
  refine ⟨?_, h.len⟩
  rw [heap_setCell_same w hb 33 _ _ _ h.blk]
  unfold hartV
  rw [List.setIfInBounds_toArray, List.set_append_right _ _ (by omega), hl]; rfl
theorem HAt.setHeld (h : HAt w hb rb pc xs at_ held) (a : Int) : HAt (w.setCell ⟨hb, 34, none⟩ (.int .i64 a)) hb rb pc xs at_ a := by
  have hl := hart_len (pc := pc) h.len
  refine ⟨?_, h.len⟩
  rw [heap_setCell_same w hb 34 _ _ _ h.blk]
  unfold hartV
  rw [List.setIfInBounds_toArray, List.set_append_right _ _ (by omega), hl]; rfl
end
end Go.Proofs.Ytpalhkfipnbcnaa

set_option linter.unusedVariables false
set_option linter.unusedSimpArgs false
namespace Go.Proofs.Ytpalhkfipnbcnaa
open Go.RowKit
set_option maxRecDepth 100000
theorem prS_bd {len : Nat} {cs : Nat → Int} (j : Nat) : 0 ≤ prS len cs j ∧ prS len cs j ≤ 7 := by unfold prS; split <;> omega
theorem first_two {w w1 w2 : World} {m : Int} (h1 : MS (fun b => w.heap.size ≤ b) w1 w.heap.size 0 [] (fun _ => 0) (fun _ => 0) m 0 0) (k1 : Bl w w1) (s1 : w1.heap.size = w.heap.size + 1) (h2 : RP (only w1.heap.size) w2 w1.heap.size [] (fun _ => 0) m 0 0) (k2 : Bl w1 w2) (s2 : w1.heap.size < w2.heap.size) :
    Two (fun b => b < w.heap.size) w2 w.heap.size (w.heap.size + 1) 0 [] zM zM m 0 0 [] zM := by
  rw [s1] at h2 s2
  have hs := k2.size
  refine ⟨fun b => w.heap.size ≤ b ∧ (b = w.heap.size ∨ w2.heap.size ≤ b), fun b => b = w.heap.size + 1 ∨ w2.heap.size ≤ b, [], ?_, h2.among (fun b _ e => .inl e), rfl, fun b hb e1 e2 => ?_, fun b hb => ⟨fun e => by omega, fun e => by omega⟩, fun b hb => ⟨⟨by omega, .inr hb⟩, .inr hb⟩⟩
  · exact (h1.among (U := fun b => w.heap.size ≤ b ∧ (b = w.heap.size ∨ w2.heap.size ≤ b)) (fun b hb e => ⟨e, .inl (by omega)⟩)).bl k2
  · omega
theorem bl_fr {w a b : World} {J : Nat → Prop} (hJ : ∀ q, q < w.heap.size → J q) (hb : Bl w a) (f : Fr (fun b => ¬ J b) a b) : Bl w b :=
  ⟨f.os.trans hb.os, f.tape.trans hb.tape, f.output.trans hb.output, Nat.le_trans hb.size f.size, fun q hq => (f.block q (Nat.lt_of_lt_of_le hq hb.size) (fun e => e (hJ q hq))).trans (hb.block q hq)⟩
def SpacesPost (w : World) (pr : Nat → Int) (e : Ending) (w' : World) : Prop := ∃ sb rb hb n L st, e = .returned (.tuple #[addr0 sb, addr0 hb]) ∧ KI L pr 3 ∧ n ≤ 30000 ∧ Two (fun b => b < w.heap.size ∨ b = hb) w' sb rb n L zM st 10 0 0 L zM ∧ HAt w' hb rb 0 (List.replicate 32 0) 0 0 ∧ w.heap.size ≤ hb ∧ Bl w w'
set_option maxHeartbeats 4000000 in
theorem spaces_any (a : Option Addr) (len cap : Nat) (cs : Nat → Int) (w : World) (hz : Prots w a len cs) (hlen : len ≤ 9223372036854775807) : Calls Try.prog 12 #[.slice a len cap] w (SpacesPost w (prS len cs)) := by
  have HZ := Lib.hid hz; clear hz
  have hlI : (len : Int) ≤ 9223372036854775807 := by omega
  clear hlen
  go_enter Try.func12, Try.ntmps12
  go_wp2_with fail
  refine (mnew_any (fun b => w.heap.size ≤ b) 10 _ (Nat.le_refl _) (by omega) (by omega)).mono ?_
  rintro e w1 ⟨rfl, h1, k1, s1⟩
  have H1 := Lib.hid h1; clear h1
  have K1 := Lib.hid k1; clear k1
  have S1 := Lib.hid s1; clear s1
  go_wp2_with fail
  refine (rnewm_any 10 (by omega) (by omega) _).mono ?_
  rintro e w2 ⟨rfl, h2, k2, s2⟩
  have h3 := first_two H1.out K1.out S1.out h2 k2 s2
  have H3 := Lib.hid h3; clear h3 h2 s2
  have K2 := Lib.hid (K1.out.trans k2); clear k2 H1 K1
  unfold addr0
  rw [S1.out]
  obtain ⟨sb, hsb⟩ : ∃ sb, sb = w.heap.size := ⟨_, rfl⟩
  obtain ⟨rb, hrb⟩ : ∃ rb, rb = w.heap.size + 1 := ⟨_, rfl⟩
  rw [← hrb, ← hsb]
  rw [← hrb] at H3
  obtain ⟨J, hJ⟩ : ∃ J : Nat → Prop, J = fun b => b < w.heap.size := ⟨_, rfl⟩
  rw [← hJ, ← hsb] at H3
  have HJ := Lib.hid hJ; clear hJ
  have HSB := Lib.hid hsb; clear hsb
  have HRB := Lib.hid hrb; clear hrb S1
  go_wp2_with fail
  go_loopw [6, 7] (fun i _ wr => ∃ k : Nat, k ≤ 3 ∧ i = .int .i64 k ∧ (∃ n L st, n ≤ 8192 * k ∧ KI L (prS len cs) k ∧ Two J wr sb rb n L zM st 10 0 0 L zM) ∧ Bl w wr) (fun i _ _ => 3 - (intOf i).toNat)
  case atStart => exact ⟨0, by omega, rfl, ⟨0, [], zM, by omega, KI.nil _, H3.out⟩, K2.out⟩
  case round =>
    obtain ⟨k, hk, rfl, ⟨n, L, st, hn, hki, h2⟩, hbl⟩ := hrel
    clear H3 K2
    have HN := Lib.hid hn; clear hn
    have HKI := Lib.hid hki; clear hki
    have H2 := Lib.hid h2; clear h2
    have HBL := Lib.hid hbl; clear hbl
    by_cases hlt : k < 3
    · have hltI : (k : Int) < 3 := by omega
      have ea : (((k + 1) * 4096 : Nat) : Int) = ((k : Int) + 1) * 4096 := by omega
      have eb : (((k + 1) * 4096 + 4096 : Nat) : Int) = ((k : Int) + 2) * 4096 := by omega
      have cm : Calls Try.prog 29 #[addr0 sb, .int .u64 (((k : Int) + 1) * 4096), .int .u64 4096, .int .i64 (prS len cs k), .bool true] wr fun e w' => (∃ v, e = .returned v) ∧ ∃ st' L', Two J w' sb rb (n + 8192) L' zM st' 10 0 0 L zM ∧ L' = layL L (((k + 1) * 4096 : Nat) : Int) (((k + 1) * 4096 + 4096 : Nat) : Int) [⟨(((k + 1) * 4096 : Nat) : Int), (((k + 1) * 4096 + 4096 : Nat) : Int), prS len cs k⟩] ∧ Fr (fun b => ¬ J b) wr w' := by
        rw [← ea]
        refine (jmap HKI.out (by omega) (prS_bd k) H2.out (by have := HN.out; omega) ((k + 1) * 4096) rfl).mono ?_
        rintro e w' ⟨hv, st', g1, g2⟩
        exact ⟨hv, st', _, g1, rfl, g2⟩
      have cl : ∀ W L1 st1, Two J W sb rb (n + 8192) L1 zM st1 10 0 0 L zM → Calls Try.prog 30 #[addr0 rb, .int .u64 (((k : Int) + 1) * 4096), .int .u64 (((k : Int) + 2) * 4096), .int .i64 (prS len cs k)] W fun e w' => (∃ v, e = .returned v) ∧ Two J w' sb rb (n + 8192) L1 zM st1 10 0 0 (layL L (((k + 1) * 4096 : Nat) : Int) (((k + 1) * 4096 + 4096 : Nat) : Int) [⟨(((k + 1) * 4096 : Nat) : Int), (((k + 1) * 4096 + 4096 : Nat) : Int), prS len cs k⟩]) zM ∧ Fr (fun b => ¬ J b) W w' := fun W L1 st1 h => by
        rw [← ea, ← eb]
        exact jlay HKI.out (by omega) (prS_bd k) h ((k + 1) * 4096) rfl
      have hnext := HKI.out.next1 (by omega) ((k + 1) * 4096) ((k + 1) * 4096 + 4096) rfl (by omega)
      have CM := Lib.hid cm; clear cm
      have CL := Lib.hid cl; clear cl
      have HNX := Lib.hid hnext; clear hnext
      clear ea eb
      have hJq : ∀ q, q < w.heap.size → J q := fun q hq => by rw [HJ.out]; exact hq
      have JB := Lib.hid hJq; clear hJq
      unfold addr0 at *
      by_cases hp : k < len
      · obtain ⟨b, off, rfl, hc⟩ := (HZ.out.bl HBL.out) (by omega)
        obtain ⟨c0, c1, c2⟩ := hc k hp
        have hpr : prS len cs k = cs k % 8 := if_pos hp
        rw [hpr] at CM CL HNX
        generalize cs k = c at *
        have hpI : (k : Int) < (len : Int) := by omega
        clear hpr hc
        go_wp2_with fail
        with_reducible refine CM.out.mono ?_
        rintro e w3 ⟨⟨v, rfl⟩, st', L', g1, rfl, g2⟩
        have G1 := Lib.hid g1; clear g1
        have G2 := Lib.hid (bl_fr JB.out HBL.out g2); clear g2 c0
        go_wp2_with fail
        with_reducible refine (CL.out _ _ _ G1.out).mono ?_
        rintro e w4 ⟨⟨v', rfl⟩, g1, g2⟩
        have G3 := Lib.hid g1; clear g1
        have G4 := Lib.hid (bl_fr JB.out G2.out g2); clear g2
        go_wp2_with fail
        refine ⟨⟨k + 1, by omega, by go_num, ⟨n + 8192, _, st', by have := HN.out; omega, HNX.out, G3.out⟩, G4.out⟩, ?_⟩
        simp only [intOf]; omega
      · have hpr : prS len cs k = 3 := if_neg hp
        rw [hpr] at CM CL HNX
        have hpI : (len : Int) ≤ (k : Int) := by omega
        clear hpr
        go_wp2_with fail
        with_reducible refine CM.out.mono ?_
        rintro e w3 ⟨⟨v, rfl⟩, st', L', g1, rfl, g2⟩
        have G1 := Lib.hid g1; clear g1
        have G2 := Lib.hid (bl_fr JB.out HBL.out g2); clear g2
        go_wp2_with fail
        with_reducible refine (CL.out _ _ _ G1.out).mono ?_
        rintro e w4 ⟨⟨v', rfl⟩, g1, g2⟩
        have G3 := Lib.hid g1; clear g1
        have G4 := Lib.hid (bl_fr JB.out G2.out g2); clear g2
        go_wp2_with fail
        refine ⟨⟨k + 1, by omega, by go_num, ⟨n + 8192, _, st', by have := HN.out; omega, HNX.out, G3.out⟩, G4.out⟩, ?_⟩
        simp only [intOf]; omega
    · obtain rfl : k = 3 := by omega
      go_wp2_with fail
      go_ret2
      have h5 := (H2.out.bl (Bl.new wr (.cells (hartV 0 (List.replicate 32 0) 0 0 rb).toArray 51))).less (J := fun b => b < w.heap.size ∨ b = wr.heap.size) (fun b hb => by
        rcases hb with hb | hb
        · exact .inl (by rw [HJ.out]; exact hb)
        · exact .inr (by rw [hb]; simp))
      exact ⟨sb, rb, wr.heap.size, n, L, st, rfl, HKI.out, by have := HN.out; omega, h5, ⟨heap_alloc_new wr _, rfl⟩, HBL.out.size, HBL.out.alloc _⟩
end Go.Proofs.Ytpalhkfipnbcnaa

set_option linter.unusedVariables false
set_option linter.unusedSimpArgs false
namespace Go.Proofs.Ytpalhkfipnbcnaa
open Go.RowKit
set_option maxRecDepth 100000
theorem awid_iff (op : Int) : (awid op = 0 ∧ (op < 63 ∨ 84 < op)) ∨ (awid op ≠ 0 ∧ 63 ≤ op ∧ op ≤ 84) := by
  rcases (by omega : (63 ≤ op ∧ op ≤ 73) ∨ (74 ≤ op ∧ op ≤ 84) ∨ (op < 63 ∨ 84 < op)) with h | h | h
  · rw [awid4 h]; omega
  · rw [awid8 h]; omega
  · rw [awid0 h]; omega
theorem amo_iff (op : Int) : op ∈ amoOps ↔ (65 ≤ op ∧ op ≤ 73) ∨ (76 ≤ op ∧ op ≤ 84) := by
  simp only [amoOps, List.mem_cons, List.not_mem_nil, or_false]; omega
theorem StepIs.one {L : List Rg} {M : Nat → Int} {ha hn op : Int} {a : Nat} {x : Int} {o p : Out} {M1 M2 : Nat → Int} (h : StepIs L M ha hn op a x o M1) (k : StepIs L M ha hn op a x p M2) : o = p ∧ M1 = M2 := by
  have hw := awid_iff op
  have hm := amo_iff op
  cases h with
  | none_ e01 => cases k with
    | none_ e02 => exact ⟨rfl, rfl⟩
    | align e02 e12 => exfalso; omega
    | scBad z2 e02 e12 f2 => exfalso; omega
    | scNo e02 e12 g2 n2 => exfalso; omega
    | scYes e02 e12 g2 n2 => exfalso; omega
    | lrBad z2 e02 e12 f2 => exfalso; omega
    | lrYes e02 e12 g2 => exfalso; omega
    | amBad z2 e02 e12 f2 => exfalso; rw [hm] at e02; omega
    | amNo z2 e02 e12 g2 f2 => exfalso; rw [hm] at e02; omega
    | amYes e02 e12 g2 f2 => exfalso; rw [hm] at e02; omega
  | align e01 e11 => cases k with
    | none_ e02 => exfalso; omega
    | align e02 e12 => exact ⟨rfl, rfl⟩
    | scBad z2 e02 e12 f2 => exfalso; omega
    | scNo e02 e12 g2 n2 => exfalso; omega
    | scYes e02 e12 g2 n2 => exfalso; omega
    | lrBad z2 e02 e12 f2 => exfalso; omega
    | lrYes e02 e12 g2 => exfalso; omega
    | amBad z2 e02 e12 f2 => exfalso; rw [hm] at e02; omega
    | amNo z2 e02 e12 g2 f2 => exfalso; rw [hm] at e02; omega
    | amYes e02 e12 g2 f2 => exfalso; rw [hm] at e02; omega
  | scBad z1 e01 e11 f1 => cases k with
    | none_ e02 => exfalso; omega
    | align e02 e12 => exfalso; omega
    | scBad z2 e02 e12 f2 => obtain rfl := f1.one f2; exact ⟨rfl, rfl⟩
    | scNo e02 e12 g2 n2 => exact (FirstAt.not f1 g2).elim
    | scYes e02 e12 g2 n2 => exact (FirstAt.not f1 g2).elim
    | lrBad z2 e02 e12 f2 => exfalso; omega
    | lrYes e02 e12 g2 => exfalso; omega
    | amBad z2 e02 e12 f2 => exfalso; rw [hm] at e02; omega
    | amNo z2 e02 e12 g2 f2 => exfalso; rw [hm] at e02; omega
    | amYes e02 e12 g2 f2 => exfalso; rw [hm] at e02; omega
  | scNo e01 e11 g1 n1 => cases k with
    | none_ e02 => exfalso; omega
    | align e02 e12 => exfalso; omega
    | scBad z2 e02 e12 f2 => exact (FirstAt.not f2 g1).elim
    | scNo e02 e12 g2 n2 => exact ⟨rfl, rfl⟩
    | scYes e02 e12 g2 n2 => exact absurd n2 n1
    | lrBad z2 e02 e12 f2 => exfalso; omega
    | lrYes e02 e12 g2 => exfalso; omega
    | amBad z2 e02 e12 f2 => exfalso; rw [hm] at e02; omega
    | amNo z2 e02 e12 g2 f2 => exfalso; rw [hm] at e02; omega
    | amYes e02 e12 g2 f2 => exfalso; rw [hm] at e02; omega
  | scYes e01 e11 g1 n1 => cases k with
    | none_ e02 => exfalso; omega
    | align e02 e12 => exfalso; omega
    | scBad z2 e02 e12 f2 => exact (FirstAt.not f2 g1).elim
    | scNo e02 e12 g2 n2 => exact absurd n1 n2
    | scYes e02 e12 g2 n2 => exact ⟨rfl, rfl⟩
    | lrBad z2 e02 e12 f2 => exfalso; omega
    | lrYes e02 e12 g2 => exfalso; omega
    | amBad z2 e02 e12 f2 => exfalso; rw [hm] at e02; omega
    | amNo z2 e02 e12 g2 f2 => exfalso; rw [hm] at e02; omega
    | amYes e02 e12 g2 f2 => exfalso; rw [hm] at e02; omega
  | lrBad z1 e01 e11 f1 => cases k with
    | none_ e02 => exfalso; omega
    | align e02 e12 => exfalso; omega
    | scBad z2 e02 e12 f2 => exfalso; omega
    | scNo e02 e12 g2 n2 => exfalso; omega
    | scYes e02 e12 g2 n2 => exfalso; omega
    | lrBad z2 e02 e12 f2 => obtain rfl := f1.one f2; exact ⟨rfl, rfl⟩
    | lrYes e02 e12 g2 => exact (FirstAt.not f1 g2).elim
    | amBad z2 e02 e12 f2 => exfalso; rw [hm] at e02; omega
    | amNo z2 e02 e12 g2 f2 => exfalso; rw [hm] at e02; omega
    | amYes e02 e12 g2 f2 => exfalso; rw [hm] at e02; omega
  | lrYes e01 e11 g1 => cases k with
    | none_ e02 => exfalso; omega
    | align e02 e12 => exfalso; omega
    | scBad z2 e02 e12 f2 => exfalso; omega
    | scNo e02 e12 g2 n2 => exfalso; omega
    | scYes e02 e12 g2 n2 => exfalso; omega
    | lrBad z2 e02 e12 f2 => exact (FirstAt.not f2 g1).elim
    | lrYes e02 e12 g2 => exact ⟨rfl, rfl⟩
    | amBad z2 e02 e12 f2 => exfalso; rw [hm] at e02; omega
    | amNo z2 e02 e12 g2 f2 => exfalso; rw [hm] at e02; omega
    | amYes e02 e12 g2 f2 => exfalso; rw [hm] at e02; omega
  | amBad z1 e01 e11 f1 => cases k with
    | none_ e02 => exfalso; rw [hm] at e01; omega
    | align e02 e12 => exfalso; rw [hm] at e01; omega
    | scBad z2 e02 e12 f2 => exfalso; rw [hm] at e01; omega
    | scNo e02 e12 g2 n2 => exfalso; rw [hm] at e01; omega
    | scYes e02 e12 g2 n2 => exfalso; rw [hm] at e01; omega
    | lrBad z2 e02 e12 f2 => exfalso; rw [hm] at e01; omega
    | lrYes e02 e12 g2 => exfalso; rw [hm] at e01; omega
    | amBad z2 e02 e12 f2 => obtain rfl := f1.one f2; exact ⟨rfl, rfl⟩
    | amNo z2 e02 e12 g2 f2 => exact (FirstAt.not f1 g2).elim
    | amYes e02 e12 g2 f2 => exact (FirstAt.not f1 g2).elim
  | amNo z1 e01 e11 g1 f1 => cases k with
    | none_ e02 => exfalso; rw [hm] at e01; omega
    | align e02 e12 => exfalso; rw [hm] at e01; omega
    | scBad z2 e02 e12 f2 => exfalso; rw [hm] at e01; omega
    | scNo e02 e12 g2 n2 => exfalso; rw [hm] at e01; omega
    | scYes e02 e12 g2 n2 => exfalso; rw [hm] at e01; omega
    | lrBad z2 e02 e12 f2 => exfalso; rw [hm] at e01; omega
    | lrYes e02 e12 g2 => exfalso; rw [hm] at e01; omega
    | amBad z2 e02 e12 f2 => exact (FirstAt.not f2 g1).elim
    | amNo z2 e02 e12 g2 f2 => obtain rfl := f1.one f2; exact ⟨rfl, rfl⟩
    | amYes e02 e12 g2 f2 => exact (FirstAt.not f1 f2).elim
  | amYes e01 e11 g1 f1 => cases k with
    | none_ e02 => exfalso; rw [hm] at e01; omega
    | align e02 e12 => exfalso; rw [hm] at e01; omega
    | scBad z2 e02 e12 f2 => exfalso; rw [hm] at e01; omega
    | scNo e02 e12 g2 n2 => exfalso; rw [hm] at e01; omega
    | scYes e02 e12 g2 n2 => exfalso; rw [hm] at e01; omega
    | lrBad z2 e02 e12 f2 => exfalso; rw [hm] at e01; omega
    | lrYes e02 e12 g2 => exfalso; rw [hm] at e01; omega
    | amBad z2 e02 e12 f2 => exact (FirstAt.not f2 g1).elim
    | amNo z2 e02 e12 g2 f2 => exact (FirstAt.not f2 f1).elim
    | amYes e02 e12 g2 f2 => exact ⟨rfl, rfl⟩
theorem numAt_lay (M : Nat → Int) (a n : Nat) (x : Int) : numAt (lay M a (putB x n)) a n = x % 2 ^ (8 * n) := by
  rw [← getS_putB x n n (Nat.le_refl _)]
  refine getS_congr _ _ n fun k hk => ?_
  rw [List.getD_eq_getElem?_getD, List.getD_eq_getElem?_getD, bytesAt_get _ _ _ _ hk, lay_at _ _ _ _ (by rw [putB_length]; exact hk), List.getD_eq_getElem?_getD]
  rfl
end Go.Proofs.Ytpalhkfipnbcnaa
