/-
  Pages with a prot each; which places may be used.
-/
import Derived.Test.YteeheojjmdlmgaaMemK
set_option linter.unusedVariables false
set_option linter.unusedSimpArgs false
namespace Go.Proofs.Yteeheojjmdlmgaa
open Go.RowKit
set_option maxRecDepth 100000
/-- The pages 1 to i are mapped, each with the prot of its number. -/
structure KI (L : List Rg) (pr : Nat → Int) (i : Nat) : Prop where
  rs : Rs L
  le : i ≤ 6
  pl : ∀ x q, In L x q ↔ ∃ j : Nat, j < i ∧ ((j : Int) + 1) * 4096 ≤ x ∧ x < ((j : Int) + 2) * 4096 ∧ q = pr j
theorem KI.nil (pr : Nat → Int) : KI [] pr 0 := ⟨Rs.nil, by omega, fun x q => ⟨fun h => absurd h (In_nil x q), fun ⟨j, h, _⟩ => by omega⟩⟩
theorem few_of {L : List Rg} (h : Rs L) (hb : ∀ x q, In L x q → 4096 ≤ x ∧ x < 32768) : L.length ≤ 8 ∧ tot L ≤ 28672 := by
  refine ⟨h.few 8 (by omega) (fun a p ha => by have := hb a p ha; omega), ?_⟩
  have := So.tot_le (so_of h hb) (by omega)
  omega
theorem KI.bd {L : List Rg} {pr : Nat → Int} {i : Nat} (h : KI L pr i) : ∀ x q, In L x q → 4096 ≤ x ∧ x < ((i : Int) + 1) * 4096 := fun x q hx => by
  obtain ⟨j, h1, h2, h3, _⟩ := (h.pl x q).1 hx
  omega
/-- One page more, of any prot. -/
theorem KI.map_in {L : List Rg} {pr : Nat → Int} {i : Nat} (h : KI L pr i) (hi : i < 6) (a b : Nat) (ha : a = (i + 1) * 4096) (hb : b = (i + 2) * 4096) (p : Int) : Rs (layL L a b [⟨a, b, p⟩]) ∧ ∀ x q, In (layL L a b [⟨a, b, p⟩]) x q ↔ ((a : Int) ≤ x ∧ x < b ∧ p = q) ∨ In L x q := by
  have hs : Span (a : Int) (b : Int) := ⟨by omega, by omega, by omega, by omega⟩
  refine ⟨h.rs.lay (by omega) hs, fun x q => ?_⟩
  rw [lay_in h.rs (by omega) hs]
  refine ⟨fun e => ?_, fun e => ?_⟩
  · rcases e with e | ⟨_, e⟩
    · exact .inl e
    · exact .inr e
  · rcases e with e | e
    · exact .inl e
    · have := h.bd x q e
      exact .inr ⟨.inl (by omega), e⟩
theorem KI.next {L L1 : List Rg} {pr : Nat → Int} {i : Nat} (h : KI L pr i) (hi : i < 6) (a b : Nat) (ha : a = (i + 1) * 4096) (hb : b = (i + 2) * 4096) (hr : Rs L1) (h1 : ∀ x q, In L1 x q ↔ ((a : Int) ≤ x ∧ x < b ∧ 7 = q) ∨ In L x q) : KI (layL L1 a b [⟨a, b, pr i⟩]) pr (i + 1) := by
  have hs : Span (a : Int) (b : Int) := ⟨by omega, by omega, by omega, by omega⟩
  refine ⟨hr.lay (by omega) hs, by omega, fun x q => ?_⟩
  rw [lay_in hr (by omega) hs, h1]
  refine ⟨fun e => ?_, fun ⟨j, j1, j2, j3, j4⟩ => ?_⟩
  · rcases e with ⟨e1, e2, e3⟩ | ⟨e0, ⟨e1, e2, _⟩ | e⟩
    · exact ⟨i, by omega, by omega, by omega, e3.symm⟩
    · omega
    · obtain ⟨j, j1, j2⟩ := (h.pl x q).1 e
      exact ⟨j, by omega, j2⟩
  · by_cases hj : j = i
    · subst hj; exact .inl ⟨by omega, by omega, j4.symm⟩
    · exact .inr ⟨.inl (by omega), .inr ((h.pl x q).2 ⟨j, by omega, j2, j3, j4⟩)⟩
/-- Which places may be used so. -/
theorem KI.can {L : List Rg} {pr : Nat → Int} {i : Nat} (h : KI L pr i) (p x : Int) : Can L p x ↔ ∃ j : Nat, j < i ∧ ((j : Int) + 1) * 4096 ≤ x ∧ x < ((j : Int) + 2) * 4096 ∧ bits .and .i64 (pr j) p = p := by
  refine ⟨fun ⟨q, hq, hb⟩ => ?_, fun ⟨j, j1, j2, j3, j4⟩ => ⟨pr j, (h.pl x _).2 ⟨j, j1, j2, j3, rfl⟩, j4⟩⟩
  obtain ⟨j, j1, j2, j3, j4⟩ := (h.pl x q).1 hq
  exact ⟨j, j1, j2, j3, by rw [← j4]; exact hb⟩
theorem bit_all : ∀ n : Fin 256, ((bits .and .i64 ((n.val : Int) % 8) 2 = 2) ↔ (bits .and .u8 (n.val : Int) 2 != 0) = true) ∧ ((bits .and .i64 ((n.val : Int) % 8) 1 = 1) ↔ (bits .and .u8 (n.val : Int) 1 != 0) = true) := by decide +kernel
theorem bit2 (c : Int) (h0 : 0 ≤ c) (h1 : c ≤ 255) : (bits .and .i64 (c % 8) 2 = 2) ↔ (bits .and .u8 c 2 != 0) = true := by
  obtain ⟨n, rfl⟩ := Int.eq_ofNat_of_zero_le h0
  exact (bit_all ⟨n, by omega⟩).1
theorem bit1 (c : Int) (h0 : 0 ≤ c) (h1 : c ≤ 255) : (bits .and .i64 (c % 8) 1 = 1) ↔ (bits .and .u8 c 1 != 0) = true := by
  obtain ⟨n, rfl⟩ := Int.eq_ofNat_of_zero_le h0
  exact (bit_all ⟨n, by omega⟩).2
/-- Prots out of bytes that came in. -/
def Prots (w : World) (a : Option Addr) (len : Nat) (cs : Nat → Int) : Prop := 0 < len → ∃ b off, a = some ⟨b, off, none⟩ ∧ ∀ k, k < len → w.cell? ⟨b, off + k, none⟩ = some (.int .u8 (cs k)) ∧ 0 ≤ cs k ∧ cs k ≤ 255
theorem nums_prots {w : World} {a : Option Addr} {len : Nat} (h : Nums .u8 w a len) : ∃ cs, Prots w a len cs := by
  by_cases h0 : 0 < len
  · obtain ⟨b, off, rfl, hc⟩ := h h0
    refine ⟨fun k => match w.cell? ⟨b, off + k, none⟩ with | some (.int _ c) => c | _ => 0, fun _ => ⟨b, off, rfl, fun k hk => ?_⟩⟩
    obtain ⟨c, h1, h2⟩ := hc k hk
    simp only [h1]
    exact ⟨trivial, u8_in h2⟩
  · exact ⟨fun _ => 0, fun h => absurd h h0⟩
theorem Prots.bl {w w' : World} {a : Option Addr} {len : Nat} {cs : Nat → Int} (h : Prots w a len cs) (k : Bl w w') : Prots w' a len cs := fun h0 => by
  obtain ⟨b, off, h1, h2⟩ := h h0
  exact ⟨b, off, h1, fun j hj => ⟨k.cell' (h2 j hj).1, (h2 j hj).2⟩⟩
/-- A page of prot 7, mapped anew. -/
theorem kmap {T : Nat → Prop} {w : World} {sb n : Nat} {L : List Rg} {M st : Nat → Int} {pr : Nat → Int} {i : Nat} (hk : KI L pr i) (hi : i < 6) (h : MS T w sb n L M st 20 0 0) (a : Nat) (ha : a = (i + 1) * 4096) (hn : n < 70000000) (hT : ∀ b, w.heap.size ≤ b → T b) :
    Calls Try.prog 9 #[addr0 sb, .int .u64 (a : Int), .int .u64 4096, .int .i64 7, .bool true] w fun e w' => (∃ v, e = .returned v) ∧ ∃ L' M' st', Rs L' ∧ (∀ x q, In L' x q ↔ ((a : Int) ≤ x ∧ x < ((a + 4096 : Nat) : Int) ∧ 7 = q) ∨ In L x q) ∧ MS T w' sb (n + 8192) L' M' st' 20 0 0 ∧ Fr T w w' := by
  obtain ⟨r1, r2⟩ := hk.map_in hi a (a + 4096) ha (by omega) 7
  have hf := few_of r1 (fun x q hx => by
    rcases (r2 x q).1 hx with ⟨h1, h2, _⟩ | h1
    · omega
    · have := hk.bd x q h1; omega)
  refine (mmap_fixed h a 4096 7 (by omega) (by omega) ⟨by omega, by omega, by omega, by omega, by omega⟩ (by omega) hT (a + 4096) (by rw [IntWalk.u64_in _ (by omega)]; omega)).mono ?_
  rintro e w' ⟨r, rfl, hl⟩
  rcases hl with ⟨rfl, _, _, _, _, _, st', h7, _, h9⟩ | ⟨_, hx, _⟩ | ⟨_, _, hx, _⟩
  · exact ⟨⟨_, rfl⟩, _, _, st', r1, r2, h7, h9⟩
  · exact absurd ⟨⟨by omega, by omega, by omega, by omega⟩, by omega, by omega⟩ hx
  · omega
theorem kprotect {T : Nat → Prop} {w : World} {sb n : Nat} {L L1 : List Rg} {M st : Nat → Int} {pr : Nat → Int} {i : Nat} (hk : KI L pr i) (hi : i < 6) (hr : Rs L1) (a : Nat) (ha : a = (i + 1) * 4096) (h1 : ∀ x q, In L1 x q ↔ ((a : Int) ≤ x ∧ x < ((a + 4096 : Nat) : Int) ∧ 7 = q) ∨ In L x q) (hp : 0 ≤ pr i ∧ pr i ≤ 7) (h : MS T w sb n L1 M st 20 0 0) (hn : n < 70000000) (hT : ∀ b, w.heap.size ≤ b → T b) :
    Calls Try.prog 11 #[addr0 sb, .int .u64 (a : Int), .int .u64 4096, .int .i64 (pr i)] w fun e w' => (∃ v, e = .returned v) ∧ ∃ L' st', KI L' pr (i + 1) ∧ MS T w' sb (n + 8192) L' M st' 20 0 0 ∧ Fr T w w' := by
  have hn2 := hk.next hi a (a + 4096) ha (by omega) hr h1
  have hf := few_of hn2.rs (fun x q hx => by have := hn2.bd x q hx; omega)
  refine (mprotect_any h a (a + 4096) 4096 (pr i) (by omega) (by rw [upW_in (by omega) (by omega), IntWalk.u64_in _ (by omega)]; omega) (by omega) hT).mono ?_
  rintro e w' ⟨r, rfl, hl⟩
  rcases hl with ⟨rfl, _, _, _, _, _, st', h7, _, h9⟩ | ⟨_, hx, _⟩
  · exact ⟨⟨_, rfl⟩, _, st', hn2, h7, h9⟩
  · refine absurd ⟨⟨by omega, by omega, by omega, by omega⟩, hp.1, hp.2, fun y y1 y2 => ⟨7, (h1 y 7).2 (.inl ⟨y1, y2, rfl⟩)⟩, by omega⟩ hx
/-- A Store, told by what may have changed. -/
theorem storeK {T : Nat → Prop} {w : World} {sb n0 : Nat} {L : List Rg} {M st : Nat → Int} {mo ba en : Int} (h : MS T w sb n0 L M st mo ba en) (a n : Nat) (x : Int) (ha : a < 2 ^ 64) (hn : n = 1 ∨ n = 2 ∨ n = 4 ∨ n = 8) (hn0 : n0 < 80000000) (hT : ∀ b, w.heap.size ≤ b → T b) :
    Calls Try.prog 13 #[addr0 sb, .int .u64 (a : Int), .int .i64 (n : Int), .int .u64 x] w fun e w' => ∃ kf yf M2 st2, e = .returned (faultV kf yf) ∧ MS T w' sb (n0 + 9) L M2 st2 mo ba en ∧ Fr T w w' ∧ ∀ i : Nat, M2 i ≠ M i → kf = 0 ∧ a ≤ i ∧ i < a + n ∧ Can L 2 i := by
  refine (mstore_any h a n x ha hn hn0 hT).mono ?_
  rintro e w' ⟨k, y, rfl, hh⟩
  rcases hh with ⟨rfl, _, _, _, _, kk⟩ | ⟨rfl, rfl, hc, st', h3, _, f3⟩
  · exact ⟨2, y, M, st, rfl, (h.bl kk).mono (by omega), Fr.of_bl kk, fun i hi => absurd rfl hi⟩
  · refine ⟨0, 0, _, st', rfl, h3, f3, fun i hi => ?_⟩
    have hin : a ≤ i ∧ i < a + n := by
      rcases Nat.lt_or_ge i a with h1 | h1
      · exact absurd (lay_out _ _ _ _ (.inl h1)) hi
      · rcases Nat.lt_or_ge i (a + n) with h2 | h2
        · exact ⟨h1, h2⟩
        · exact absurd (lay_out _ _ _ _ (.inr (by rw [putB_length]; exact h2))) hi
    exact ⟨rfl, hin.1, hin.2, hc i (by omega) (by omega)⟩
theorem outK {T : Nat → Prop} {w : World} {sb n0 : Nat} {L : List Rg} {M st : Nat → Int} {mo ba en : Int} (h : MS T w sb n0 L M st mo ba en) (a : Nat) (A : Option Addr) (len cap : Nat) (xs : List Int) (hr : Rd w A xs) (hl : xs.length = len) (hlc : len ≤ cap) (hb : ∀ k, 0 ≤ xs.getD k 0 ∧ xs.getD k 0 ≤ 255)
    (hA : 0 < len → ∀ ad, A = some ad → ¬ T ad.block) (ha : a < 2 ^ 64) (hlen : len ≤ 9000) (hn : n0 < 80000000) (hT : ∀ b, w.heap.size ≤ b → T b) :
    Calls Try.prog 14 #[addr0 sb, .int .u64 (a : Int), .slice A len cap] w fun e w' => ∃ r M2 st2, e = .returned (.int .i64 r) ∧ MS T w' sb (n0 + 100) L M2 st2 mo ba en ∧ Fr T w w' ∧ ∀ i : Nat, M2 i ≠ M i → r = 0 ∧ a ≤ i ∧ i < a + len ∧ Can L 2 i := by
  refine (mout_any h a A len cap xs hr hl hlc hb hA ha (by omega) hn hT).mono ?_
  rintro e w' ⟨r, rfl, hh⟩
  rcases hh with ⟨rfl, hc, st', h3, _, f3⟩ | ⟨_, _, kk⟩
  · refine ⟨0, _, st', rfl, h3.mono (by unfold pagesOf; split <;> omega), f3, fun i hi => ?_⟩
    have hin : a ≤ i ∧ i < a + len := by
      rcases Nat.lt_or_ge i a with h1 | h1
      · exact absurd (lay_out _ _ _ _ (.inl h1)) hi
      · rcases Nat.lt_or_ge i (a + len) with h2 | h2
        · exact ⟨h1, h2⟩
        · exact absurd (lay_out _ _ _ _ (.inr (by rw [hl]; exact h2))) hi
    exact ⟨rfl, hin.1, hin.2, hc i (by omega) (by omega)⟩
  · exact ⟨r, M, st, rfl, (h.bl kk).mono (by omega), Fr.of_bl kk, fun i hi => absurd rfl hi⟩
theorem getS_congr (xs ys : List Int) (n : Nat) (h : ∀ k, k < n → xs.getD k 0 = ys.getD k 0) : getS xs n = getS ys n := by
  induction n with
  | zero => rfl
  | succ n ih =>
    unfold getS
    rw [ih (fun k hk => h k (by omega)), h n (by omega)]
theorem numAt_drop (M : Nat → Int) (A n m : Nat) (h : A + n ≤ m) : getS ((bytesAt M 0 m).drop A) n = numAt M A n := by
  refine getS_congr _ _ n fun k hk => ?_
  rw [List.getD_eq_getElem?_getD, List.getD_eq_getElem?_getD, List.getElem?_drop, bytesAt_get _ _ _ _ (show A + k < m by omega), bytesAt_get _ _ _ _ hk, Nat.zero_add]
theorem drop_bd {M : Nat → Int} (h : ∀ x, 0 ≤ M x ∧ M x ≤ 255) (A m : Nat) : ∀ k, 0 ≤ ((bytesAt M 0 m).drop A).getD k 0 ∧ ((bytesAt M 0 m).drop A).getD k 0 ≤ 255 := fun k => by
  rw [List.getD_eq_getElem?_getD, List.getElem?_drop]
  by_cases hk : A + k < m
  · rw [bytesAt_get _ _ _ _ hk]; exact h _
  · rw [List.getElem?_eq_none (by rw [bytesAt_length]; omega)]; simp
/-- A byte of a block that was read. -/
theorem read_cell {w w' : World} {g : Nat} {M : Nat → Int} {m : Nat} (h : w.heap[g]? = some (.cells (asBytes (bytesAt M 0 m)).toArray 5 (0, 0))) (k : Bl w w') (i : Nat) (hi : i < m) : w'.cell? ⟨g, i, none⟩ = some (.int .u8 (M i)) := by
  have h1 := k.at_ h
  rw [cell_of_row w' g i _ 5 (0, 0) h1]
  simp only [List.getElem?_toArray]
  rw [asBytes_at _ _ (by rw [bytesAt_length]; exact hi), List.getD_eq_getElem?_getD, bytesAt_get _ _ _ _ hi, Nat.zero_add]
  rfl
end Go.Proofs.Yteeheojjmdlmgaa
