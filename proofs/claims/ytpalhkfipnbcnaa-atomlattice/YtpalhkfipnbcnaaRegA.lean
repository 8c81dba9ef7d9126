/-
  Rows of structs of three cells in memory; a list of regions, a space of pages; what a call leaves of the memory that was there.
-/
import Derived.Test.YtpalhkfipnbcnaaRows
import Derived.Test.YtpalhkfipnbcnaaRegM
import Derived.WalkKit
import Derived.WalkSpells
import Derived.WalkLawsBesides
import Derived.Lib.Hide
import Derived.Laws.OwnMore
import Derived.Laws.AppendOwnNone
import Derived.Maps.AppendAt
import Derived.Deep.QuietTactic
import Derived.BigQuiet
import Derived.Deep.RegionHeld3
import Derived.Deep.Draws
import Derived.Below
set_option linter.unusedVariables false
set_option linter.unusedSimpArgs false
namespace Go.Proofs.Ytpalhkfipnbcnaa
open Go.RowKit
set_option maxRecDepth 100000

/-! ### what a call leaves -/
/-- Of the blocks that were there only those of S may have turned. -/
structure Fr (S : Nat → Prop) (w w' : World) : Prop where
  os : w'.os = w.os
  tape : w'.tape = w.tape
  output : w'.output = w.output
  size : w.heap.size ≤ w'.heap.size
  block : ∀ k, k < w.heap.size → ¬ S k → w'.heap[k]? = w.heap[k]?

/-- None has turned. -/
abbrev Bl (w w' : World) : Prop := Below w.heap.size w w'
theorem Bl.refl (w : World) : Bl w w := Below.refl _ _
theorem Bl.trans {a b c : World} (h : Bl a b) (k : Bl b c) : Bl a c := Below.trans h (Below.mono k h.size)
theorem Bl.alloc {a b : World} (h : Bl a b) (o : Obj) : Bl a (b.alloc o) := Below.alloc h h.size o
theorem Bl.new (a : World) (o : Obj) : Bl a (a.alloc o) := (Bl.refl a).alloc o
theorem Bl.set {a b : World} (h : Bl a b) {p : Addr} (hp : a.heap.size ≤ p.block) (u : Value) : Bl a (b.setCell p u) := Below.setCell h hp u
theorem Bl.drew {a b : World} (h : Bl a b) : Bl a b.drew := Below.drew h
theorem Bl.drewN {a b : World} (h : Bl a b) (n : Nat) : Bl a (b.drewN n) := h.trans ⟨rfl, rfl, rfl, Nat.le_refl _, fun _ _ => rfl⟩
theorem Below.at_ {B : Nat} {a b : World} (h : Below B a b) {k : Nat} {o : Obj} (hB : k < B) (hk : a.heap[k]? = some o) : b.heap[k]? = some o := by
  rw [h.block k hB]; exact hk
theorem lt_at {w : World} {k : Nat} {o : Obj} (h : w.heap[k]? = some o) : k < w.heap.size := (Array.getElem?_eq_some_iff.1 h).1
theorem Bl.at_ {a b : World} (h : Bl a b) {k : Nat} {o : Obj} (hk : a.heap[k]? = some o) : b.heap[k]? = some o := Below.at_ h (lt_at hk) hk
theorem Bl.cell' {a b : World} (h : Bl a b) {p : Addr} {v : Value} (hp : a.cell? p = some v) : b.cell? p = some v := by rw [Below.cell h (block_lt_of_cell hp)]; exact hp

theorem Fr.of_bl {S : Nat → Prop} {a b : World} (h : Bl a b) : Fr S a b := ⟨h.os, h.tape, h.output, h.size, fun k hk _ => h.block k hk⟩
theorem Fr.refl (S : Nat → Prop) (w : World) : Fr S w w := Fr.of_bl (Bl.refl w)
theorem Fr.trans {S : Nat → Prop} {a b c : World} (h : Fr S a b) (k : Fr S b c) : Fr S a c :=
  ⟨k.os.trans h.os, k.tape.trans h.tape, k.output.trans h.output, Nat.le_trans h.size k.size,
   fun i hi hn => (k.block i (Nat.lt_of_lt_of_le hi h.size) hn).trans (h.block i hi hn)⟩
theorem Fr.mono {S T : Nat → Prop} {a b : World} (h : Fr S a b) (hs : ∀ k, k < a.heap.size → S k → T k) : Fr T a b :=
  ⟨h.os, h.tape, h.output, h.size, fun k hk hn => h.block k hk (fun e => hn (hs k hk e))⟩
theorem Fr.bl {S : Nat → Prop} {a b : World} (h : Fr S a b) (hs : ∀ k, k < a.heap.size → ¬ S k) : Bl a b := ⟨h.os, h.tape, h.output, h.size, fun k hk => h.block k hk (hs k hk)⟩
theorem Fr.below {S : Nat → Prop} {a b : World} {B : Nat} (h : Fr S a b) (hB : B ≤ a.heap.size) (hs : ∀ k, k < B → ¬ S k) : Below B a b := ⟨h.os, h.tape, h.output, h.size, fun k hk => h.block k (by omega) (hs k hk)⟩
theorem Fr.set {S : Nat → Prop} {a : World} {p : Addr} (hp : S p.block) (u : Value) : Fr S a (a.setCell p u) :=
  ⟨rfl, rfl, rfl, by simp [World.setCell], fun k hk hn => Below.heap_setCell _ _ _ _ (fun e => hn (e ▸ hp))⟩
theorem Fr.at_ {S : Nat → Prop} {a b : World} (h : Fr S a b) {k : Nat} {o : Obj} (hk : a.heap[k]? = some o) (hn : ¬ S k) : b.heap[k]? = some o := by
  rw [h.block k (lt_at hk) hn]; exact hk

/-! ### rows of structs of three cells -/
section
variable {α : Type} {c : α → List Value} {t : TypeId} {w w' : World} {base : Nat} {v : Value} {L : List α}
def flat (c : α → List Value) (L : List α) : List Value := L.flatMap c
theorem flat_append (c : α → List Value) (A B : List α) : flat c (A ++ B) = flat c A ++ flat c B := by simp [flat]
theorem flat_length (hc : ∀ x, (c x).length = 3) (L : List α) : (flat c L).length = L.length * 3 := by
  induction L with
  | nil => rfl
  | cons x L ih => simp only [flat, List.flatMap_cons, List.length_append, List.length_cons] at *; rw [hc, ih]; omega
theorem flat_get (hc : ∀ x, (c x).length = 3) (L : List α) (k j : Nat) (x : α) (hk : L[k]? = some x) (hj : j < 3) : (flat c L)[k * 3 + j]? = (c x)[j]? := by
  induction L generalizing k with
  | nil => cases hk
  | cons y L ih =>
    have e : flat c (y :: L) = c y ++ flat c L := by simp [flat]
    rw [e]
    cases k with
    | zero =>
      simp only [List.getElem?_cons_zero, Option.some.injEq] at hk
      subst hk
      rw [List.getElem?_append_left (by rw [hc]; omega)]
      congr 1; omega
    | succ k =>
      rw [List.getElem?_cons_succ] at hk
      rw [List.getElem?_append_right (by rw [hc]; omega), hc, show (k + 1) * 3 + j - 3 = k * 3 + j by omega]
      exact ih k hk
def RowG (t : TypeId) (c : α → List Value) (w : World) (base : Nat) (v : Value) (L : List α) : Prop :=
  w.ownsRow base t 3 v L.length (flat c L) ∧ (L = [] → v = .slice none 0 0)
theorem RowG.nil : RowG t c w base (.slice none 0 0) [] := ⟨⟨rfl, .inl ⟨rfl, rfl⟩⟩, fun _ => rfl⟩
/-- Where it stands, and its block. -/
theorem RowG.form (h : RowG t c w base v L) (hL : L ≠ []) : ∃ g cap cur, v = .slice (some ⟨g, 0, none⟩) L.length cap ∧ base ≤ g ∧ L.length ≤ cap ∧ w.heap[g]? = some (.cells cur t (0, 0)) ∧ g < w.heap.size := by
  rcases h.1.2 with ⟨rfl, h0⟩ | ⟨g, cap, cur, rfl, h1, h2, h3, h4, h5, h6⟩
  · exact absurd (List.eq_nil_of_length_eq_zero h0) hL
  · exact ⟨g, cap, cur, rfl, h1, h3, h2, lt_at h2⟩
theorem RowG.shape (h : RowG t c w base v L) : ∃ A cap, v = .slice A L.length cap := by
  rcases h.1.2 with ⟨rfl, h0⟩ | ⟨g, cap, cur, rfl, h1, h2, h3, h4, h5, h6⟩
  · exact ⟨none, 0, by rw [h0]⟩
  · exact ⟨_, _, rfl⟩
theorem RowG.cell {g cap n : Nat} (h : RowG t c w base (.slice (some ⟨g, 0, none⟩) n cap) L) (hc : ∀ x, (c x).length = 3) (k j : Nat) (x : α) (hk : L[k]? = some x) (hj : j < 3) : w.cell? ⟨g, k * 3 + j, none⟩ = (c x)[j]? := by
  have hlt : k < L.length := (List.getElem?_eq_some_iff.1 hk).1
  rcases h.1.2 with ⟨h1, h0⟩ | ⟨g', cap', cur, h1, _⟩
  · cases h1
  · have hn : n = L.length := by injection h1
    subst hn
    rw [h.1.cellAt (k * 3 + j) (by omega), flat_get hc L k j x hk hj]
theorem RowG.free {g cap n : Nat} (h : RowG t c w base (.slice (some ⟨g, 0, none⟩) n cap) L) (j : Nat) : w.frozen? ⟨g, j, none⟩ = false := by
  rcases h.1.2 with ⟨h1, h0⟩ | ⟨g', cap', cur, h1, _, h2, _⟩
  · cases h1
  · injection h1 with h3 h4
    injection h3 with h3
    injection h3 with h3
    subst h3
    simp [World.frozen?, h2]
/-- Kept where its block is. -/
theorem RowG.kept (h : RowG t c w base v L) (hb : ∀ g, v.ownBlock = some g → w'.heap[g]? = w.heap[g]?) : RowG t c w' base v L := by
  refine ⟨⟨h.1.1, ?_⟩, h.2⟩
  rcases h.1.2 with h1 | ⟨g, cap, cur, rfl, h1, h2, h3⟩
  · exact .inl h1
  · exact .inr ⟨g, cap, cur, rfl, h1, by rw [hb g rfl]; exact h2, h3⟩
theorem RowG.lt (h : RowG t c w base v L) : ∀ g, v.ownBlock = some g → base ≤ g ∧ g < w.heap.size := h.1.lt
theorem RowG.bl (h : RowG t c w base v L) (hb : Bl w w') : RowG t c w' base v L := h.kept fun g hg => hb.block g (h.lt g hg).2
theorem RowG.base_ {b2 : Nat} (h : RowG t c w base v L) (hb : ∀ g, v.ownBlock = some g → b2 ≤ g) : RowG t c w b2 v L := by
  refine ⟨⟨h.1.1, ?_⟩, h.2⟩
  rcases h.1.2 with h1 | ⟨g, cap, cur, rfl, h1, h2, h3⟩
  · exact .inl h1
  · exact .inr ⟨g, cap, cur, rfl, hb g rfl, h2, h3⟩
theorem RowG.type (h : RowG t c w base v L) {g : Nat} (hg : v.ownBlock = some g) : ∃ cur, w.heap[g]? = some (.cells cur t (0, 0)) := by
  rcases h.1.2 with ⟨rfl, _⟩ | ⟨g', cap, cur, rfl, h1, h2, h3⟩
  · cases hg
  · simp only [Value.ownBlock, Option.some.injEq] at hg
    subst hg
    exact ⟨cur, h2⟩
theorem RowG.fr {S : Nat → Prop} (h : RowG t c w base v L) (f : Fr S w w') (hS : ∀ g cur, S g → w.heap[g]? = some (.cells cur t (0, 0)) → False) : RowG t c w' base v L := by
  refine h.kept fun g hg => ?_
  obtain ⟨cur, hcur⟩ := h.type hg
  exact f.block g (lt_at hcur) (fun hs => hS g cur hs hcur)
end
/-- One more behind a row of the call's own. -/
theorem row_append {α : Type} {c : α → List Value} {t ts : TypeId} {i : TypeInfo} {z : Value} {bytes : Nat} {W : World} {base : Nat} {v : Value} {L : List α} (ht : Try.prog.underlying ts = some (.slice t)) (hi : Try.prog.info? t = some i) (hz : i.zero = some z) (hsize : i.size = 3) (hby : i.bytes = bytes) (hzs : z.cells.size = 3) (hb1 : bytes ≤ 1000)
    (hc : ∀ x, (c x).length = 3) (hone : ∀ x u, u ∈ c x → u.oneCell' = true) (h : RowG t c W base v L) (ty : TypeId) (A : Option Addr) (M : List α) (m cap : Nat) (hm : m = M.length) (hA : M = [] → A = none ∧ cap = 0) (hcell : ∀ ad, A = some ad → ∀ j u, (flat c M)[j]? = some u → W.cell? (ad.add j) = some u) (hA2 : M ≠ [] → A ≠ none)
    (hl : L.length + M.length ≤ 1000000) (hbase : base ≤ W.heap.size) :
    ∃ v' W', (Builtin.append_ #[ts, ts] ty #[v, .slice A m cap]).run Try.prog W = .ok v' W' ∧ RowG t c W' base v' (L ++ M) ∧ W.grownBy W' v.ownBlock ∧ (v'.ownBlock = v.ownBlock ∨ v'.ownBlock = some W.heap.size) := by
  subst hm
  rcases hM : M with _ | ⟨x, M'⟩
  · obtain ⟨rfl, rfl⟩ := hA hM
    exact ⟨v, W, run_append_owned_none (P := Try.prog) (w := W) base ts ty t i 3 ht hi v L.length (flat c L) h.1, by simpa using h, World.grownBy.refl W _, .inl rfl⟩
  · rw [← hM]
    have hne : M ≠ [] := by rw [hM]; simp
    rcases A with _ | ad
    · exact absurd rfl (hA2 hne)
    · obtain ⟨v', w', h1, h2, h3, h4, h5⟩ := run_append_own_at (P := Try.prog) W base ts ty t i z 3 bytes ht hi hz hsize hby hzs (by omega) v L.length (flat c L) h.1 ad M.length cap (flat c M) (flat_length hc M) (hcell ad rfl) (fun u hu => by
        simp only [flat, List.mem_flatMap] at hu
        obtain ⟨x, _, hx⟩ := hu
        exact hone x u hx) (by simp only [maxLen]; omega) (Nat.le_trans (Nat.mul_le_mul hl hb1) (by decide)) hbase
      refine ⟨v', w', h1, ⟨?_, fun e => absurd (List.append_eq_nil_iff.1 e).2 hne⟩, h3, h5⟩
      rw [List.length_append, flat_append]; exact h2
/-! ### regions -/
def rgC (r : Rg) : List Value := [.int .u64 r.s, .int .u64 r.e, .int .i64 r.p]
abbrev Row := RowG (α := Rg) 112 rgC
theorem rgC_len (r : Rg) : (rgC r).length = 3 := rfl
theorem rgC_one (r : Rg) (u : Value) (h : u ∈ rgC r) : u.oneCell' = true := by
  simp only [rgC, List.mem_cons, List.not_mem_nil, or_false] at h
  rcases h with rfl | rfl | rfl <;> rfl
theorem info51 : (Try.prog.info? 112).map (fun i => (i.zero, i.size, i.bytes)) = some (some (.agg #[.int .u64 0, .int .u64 0, .int .i64 0]), 3, 24) := by kernel_rfl
/-- The three cells of a region of a row. -/
theorem row_cells {w : World} {base g cap n : Nat} {L : List Rg} (h : Row w base (.slice (some ⟨g, 0, none⟩) n cap) L) (k : Nat) (r : Rg) (hk : L[k]? = some r) :
    w.cell? ⟨g, k * 3, none⟩ = some (.int .u64 r.s) ∧ w.cell? ⟨g, k * 3 + 1, none⟩ = some (.int .u64 r.e) ∧ w.cell? ⟨g, k * 3 + 2, none⟩ = some (.int .i64 r.p) :=
  ⟨by simpa [rgC] using h.cell rgC_len k 0 r hk (by omega), by simpa [rgC] using h.cell rgC_len k 1 r hk (by omega), by simpa [rgC] using h.cell rgC_len k 2 r hk (by omega)⟩
/-- What a block holds behind a list, which lies at its head. -/
structure Ctx where
  rest : List Value
  t : TypeId
  ne : t ≠ 112
/-- A list: its block, its row. -/
def ListFrom (X : Ctx) (base : Nat) (w : World) (b : Nat) (L : List Rg) : Prop := ∃ v, w.heap[b]? = some (.cells (v :: X.rest).toArray X.t (0, 0)) ∧ Row w base v L
abbrev ListAt (X : Ctx) := ListFrom X 0
def alone : Ctx := ⟨[], 77, by decide⟩
end Go.Proofs.Ytpalhkfipnbcnaa
