/-
  A store of pages in memory: its block, its map of pages, its map of stamps, the pages' blocks; what is read of it; what a call may turn.
-/
import Derived.Test.YtpalhkfipnbcnaaRegB
import Derived.Test.YtpalhkfipnbcnaaPageT
set_option linter.unusedVariables false
namespace Go.Proofs.Ytpalhkfipnbcnaa
open Go.RowKit
set_option maxRecDepth 100000

theorem cells_ty {a b : Array Value} {t u : TypeId} {f g : Nat × Nat} (h : some (Obj.cells a t f) = some (Obj.cells b u g)) : t = u := by
  injection h with h; injection h
theorem Fr.grown {S : Nat → Prop} {a b : World} {r : Option Nat} (h : a.grownBy b r) (hr : ∀ k, r = some k → S k) : Fr S a b :=
  ⟨h.os, h.tape, h.output, h.size, fun k hk hn => h.block k hk (fun e => hn (hr k e.symm))⟩
/-! ### pages, as bytes by their places -/
def pageOf (M : Nat → Int) (p : Nat) : List Int := (List.range 4096).map fun o => M (p * 4096 + o)
theorem pageOf_length (M : Nat → Int) (p : Nat) : (pageOf M p).length = 4096 := by simp [pageOf]
theorem pageOf_get (M : Nat → Int) (p o : Nat) (h : o < 4096) : (pageOf M p)[o]? = some (M (p * 4096 + o)) := by simp [pageOf, List.getElem?_range h]
/-- Bytes laid at a place. -/
def lay (M : Nat → Int) (a : Nat) (cs : List Int) : Nat → Int := fun x => if a ≤ x ∧ x < a + cs.length then cs.getD (x - a) 0 else M x
theorem lay_nil (M : Nat → Int) (a : Nat) : lay M a [] = M := by funext x; simp only [lay, List.length_nil]; rw [if_neg (by omega)]
theorem lay_at (M : Nat → Int) (a : Nat) (cs : List Int) (i : Nat) (h : i < cs.length) : lay M a cs (a + i) = cs.getD i 0 := by
  simp only [lay]; rw [if_pos (by omega), Nat.add_sub_cancel_left]
theorem lay_out (M : Nat → Int) (a : Nat) (cs : List Int) (x : Nat) (h : x < a ∨ a + cs.length ≤ x) : lay M a cs x = M x := by
  simp only [lay]; rw [if_neg (by omega)]
theorem lay_lay (M : Nat → Int) (a : Nat) (cs ds : List Int) : lay (lay M a cs) (a + cs.length) ds = lay M a (cs ++ ds) := by
  funext x
  simp only [lay, List.length_append, List.getD_eq_getElem?_getD, List.getElem?_append]
  by_cases h1 : a + cs.length ≤ x ∧ x < a + cs.length + ds.length
  · rw [if_pos h1, if_pos (by omega), if_neg (by omega)]
    congr 2; omega
  · rw [if_neg h1]
    by_cases h2 : a ≤ x ∧ x < a + cs.length
    · rw [if_pos h2, if_pos (by omega), if_pos (by omega)]
    · rw [if_neg h2, if_neg (by omega)]
theorem pageOf_lay (M : Nat → Int) (p off : Nat) (cs : List Int) (h : off + cs.length ≤ 4096) : pageOf (lay M (p * 4096 + off) cs) p = splice (pageOf M p) off cs := by
  apply List.ext_getElem?
  intro o
  by_cases ho : o < 4096
  · rw [pageOf_get _ _ _ ho]
    simp only [splice, lay]
    by_cases h1 : o < off
    · rw [if_neg (by omega), List.getElem?_append_left (by simp [pageOf_length]; omega), List.getElem?_take_of_lt h1, pageOf_get _ _ _ ho]
    · have hl : ((pageOf M p).take off).length = off := by simp [pageOf_length]; omega
      rw [List.getElem?_append_right (by omega), hl]
      by_cases h2 : o < off + cs.length
      · rw [if_pos (by omega), List.getElem?_append_left (by omega), List.getD_eq_getElem?_getD]
        have e : p * 4096 + o - (p * 4096 + off) = o - off := by omega
        rw [e, List.getElem?_eq_getElem (by omega)]; rfl
      · rw [if_neg (by omega), List.getElem?_append_right (by omega), List.getElem?_drop]
        have e : off + cs.length + (o - off - cs.length) = o := by omega
        rw [e, pageOf_get _ _ _ ho]
  · rw [List.getElem?_eq_none (by simp [pageOf_length]; omega), List.getElem?_eq_none (by rw [length_splice _ _ _ (by rw [pageOf_length]; exact h), pageOf_length]; omega)]
theorem pageOf_other (M M' : Nat → Int) (p : Nat) (h : ∀ o, o < 4096 → M' (p * 4096 + o) = M (p * 4096 + o)) : pageOf M' p = pageOf M p := by
  simp only [pageOf]
  apply List.map_congr_left
  intro o ho
  exact h o (by simpa using ho)
theorem pageOf_zero (M : Nat → Int) (p : Nat) (h : ∀ o, o < 4096 → M (p * 4096 + o) = 0) : pageOf M p = List.replicate 4096 0 := by
  apply List.ext_getElem?
  intro o
  by_cases ho : o < 4096
  · rw [pageOf_get _ _ _ ho, h o ho, List.getElem?_replicate, if_pos ho]
  · rw [List.getElem?_eq_none (by simp [pageOf_length]; omega), List.getElem?_eq_none (by simp; omega)]

/-! ### the map of pages -/
def ptrE (v : Value) : Option (DataW Nat × List MemPlace) :=
  match v with
  | .pointer (some ⟨b, 0, none⟩) => some (.held b, [])
  | .pointer none => some (.nil, [])
  | _ => none
def ptrOf (x : Option Nat) : Value := .pointer (x.map fun b => ⟨b, 0, none⟩)
theorem ptrE_inv {v : Value} {z : DataW Nat × List MemPlace} (h : ptrE v = some z) : ∃ x, v = ptrOf x ∧ z.1 = (match x with | some b => .held b | none => .nil) := by
  unfold ptrE at h
  split at h
  · rename_i b; cases h; exact ⟨some b, rfl, rfl⟩
  · cases h; exact ⟨none, rfl, rfl⟩
  · cases h
theorem ptrE_mk (x : Option Nat) : ptrE (ptrOf x) = some ((match x with | some b => .held b | none => .nil), []) := by cases x <;> rfl
def datum (x : Option Nat) : DataW Nat := match x with | some b => .held b | none => .nil
theorem datum_inj {x y : Option Nat} (h : datum x = datum y) : x = y := by
  cases x <;> cases y <;> simp_all [datum]
def key (p : Nat) : Lit := .int .u64 (p : Int)
theorem key_wf {p : Nat} (h : p < 2 ^ 64) : (key p).wf = true := by
  show (decide ((0 : Int) ≤ (p : Int)) && decide ((p : Int) ≤ 18446744073709551615)) = true
  simp; omega
theorem key_ne {p q : Nat} (h : p ≠ q) : key p ≠ key q := by
  intro e; simp only [key, Lit.int.injEq, true_and] at e; omega
def put1 (f : Nat → Option Nat) (p : Nat) (x : Option Nat) : Nat → Option Nat := fun q => if q = p then x else f q
theorem put1_same (f : Nat → Option Nat) (p : Nat) (x : Option Nat) : put1 f p x p = x := by simp [put1]
theorem put1_other (f : Nat → Option Nat) (p : Nat) (x : Option Nat) {q : Nat} (h : q ≠ p) : put1 f p x q = f q := by simp [put1, h]

theorem key_of {p : Nat} (h : p < 2 ^ 64) : keyOf Try.prog 22 (.int .u64 (p : Int)) = some (key p) := Maps.keyOf_int_mk Try.underlying22 (key_wf h)

/-- Block B is a map of the pages of f, at most n, k of them. -/
def PM (w : World) (B n : Nat) (f : Nat → Option Nat) (k : Nat) : Prop :=
  ∃ D, w.ownsMap Try.prog 22 ptrE B n D ∧ (∀ p, p < 2 ^ 64 → D.atKey (key p) .nil = datum (f p)) ∧ (∀ p, p < 2 ^ 64 → Maps.has D (key p) = (f p).isSome) ∧ Maps.size D = k

theorem PM.lt {w : World} {B n k : Nat} {f : Nat → Option Nat} (h : PM w B n f k) : B < w.heap.size := by
  obtain ⟨D, h1, _⟩ := h; exact h1.lt
theorem PM.isMap {w : World} {B n k : Nat} {f : Nat → Option Nat} (h : PM w B n f k) : ∃ es c, w.heap[B]? = some (.map es c) := by
  obtain ⟨D, ⟨es, c, h1, _⟩, _⟩ := h; exact ⟨es, c, h1⟩
theorem ownsMap_of_block {H : Type} {w w' : World} {P : Program} {t : TypeId} {R : Value → Option (DataW H × List MemPlace)} {b n : Nat} {D : DataW H} (h : w.ownsMap P t R b n D) (hb : w'.heap[b]? = w.heap[b]?) : w'.ownsMap P t R b n D := by
  obtain ⟨es, c, h1, h2⟩ := h; exact ⟨es, c, hb.trans h1, h2⟩
theorem PM.of_block {w w' : World} {B n k : Nat} {f : Nat → Option Nat} (h : PM w B n f k) (hb : w'.heap[B]? = w.heap[B]?) : PM w' B n f k := by
  obtain ⟨D, h1, h2⟩ := h
  exact ⟨D, ownsMap_of_block h1 hb, h2⟩
theorem PM.mono {w : World} {B n m k : Nat} {f : Nat → Option Nat} (h : PM w B n f k) (hn : n ≤ m) : PM w B m f k := by
  obtain ⟨D, h1, h2⟩ := h; exact ⟨D, h1.mono hn, h2⟩
theorem PM.made (w : World) : PM (w.alloc (.map #[] 0)) w.heap.size 0 (fun _ => none) 0 :=
  ⟨_, World.ownsMap_made w Try.prog 22 ptrE, fun _ _ => rfl, fun _ _ => rfl, rfl⟩
theorem PM.k_le {w : World} {B n k : Nat} {f : Nat → Option Nat} (h : PM w B n f k) : k ≤ n := by
  obtain ⟨D, h1, _, _, rfl⟩ := h; exact h1.size_le
theorem PM.look {w : World} {B n k : Nat} {f : Nat → Option Nat} (h : PM w B n f k) {p : Nat} (hp : p < 2 ^ 64) :
    (Instr.lookup 78 (.map (some B)) (.int .u64 (p : Int)) false).run Try.prog w = .ok (ptrOf (f p)) w := by
  obtain ⟨D, h1, h2, _⟩ := h
  obtain ⟨v, ps, hrun, hv⟩ := h1.lookup law27 Try.underlying78 (zero44 w) (ptrE_mk none) (key_of hp)
  obtain ⟨x, rfl, hx⟩ := ptrE_inv hv
  rw [hrun]
  have : f p = x := datum_inj (by rw [← h2 p hp]; exact hx)
  rw [this]
theorem PM.len {w : World} {B n k : Nat} {f : Nat → Option Nat} (h : PM w B n f k) (ty : TypeId) :
    (Builtin.len_ #[78] ty #[.map (some B)]).run Try.prog w = .ok (.int .i64 (k : Int)) w := by
  obtain ⟨D, h1, _, _, rfl⟩ := h
  exact h1.len Try.underlying78 ty
theorem isKeyLit_key (p : Nat) : WideAt.IsKeyLit (key p) := trivial
theorem PM.put {w : World} {B n k : Nat} {f : Nat → Option Nat} (h : PM w B n f k) {p : Nat} (hp : p < 2 ^ 64) (hn : n < maxLen) (b : Nat) :
    ∃ w', (Instr.mapUpdate 78 (.map (some B)) (.int .u64 (p : Int)) (.pointer (some ⟨b, 0, none⟩))).run Try.prog w = .ok () w' ∧ PM w' B (n + 1) (put1 f p (some b)) (if (f p).isSome then k else k + 1) ∧ w.mapTurned w' B := by
  obtain ⟨D, h1, h2, h3, h4⟩ := h
  obtain ⟨w', hrun, ho, ht⟩ := h1.store law27 Try.underlying78 hn (key_of hp) (ptrE_mk (some b))
  refine ⟨w', hrun, ⟨_, ho, fun q hq => ?_, fun q hq => ?_, ?_⟩, ht⟩
  · by_cases e : q = p
    · subst e; rw [put1_same]; exact Maps.atKey_put_same h1.isMap (isKeyLit_key _) _ _
    · rw [put1_other _ _ _ e, Maps.atKey_put_other (key_ne e)]; exact h2 q hq
  · by_cases e : q = p
    · subst e; rw [put1_same]; exact Maps.has_put_same h1.isMap (isKeyLit_key _) _
    · rw [put1_other _ _ _ e, Maps.has_put_other (key_ne e)]; exact h3 q hq
  · rw [Maps.size_put (h1.tidy law27), h3 p hp, h4]
theorem PM.del_of {w w' : World} {B n k : Nat} {f : Nat → Option Nat} (h : PM w B n f k) {p : Nat} (hp : p < 2 ^ 64) {ty : TypeId}
    (hd : (Builtin.delete_ #[78, 22] ty #[.map (some B), .int .u64 (p : Int)]).run Try.prog w = .ok (.tuple #[]) w') :
    (∃ k', PM w' B n (put1 f p none) k' ∧ k' + (if (f p).isSome then 1 else 0) = k) ∧ w.mapTurned w' B := by
  obtain ⟨D, h1, h2, h3, h4⟩ := h
  obtain ⟨w2, hrun, ho, ht⟩ := h1.drop law27 Try.underlying78 (key_of hp) ty
  rw [hrun] at hd; injection hd with _ e; subst e
  refine ⟨⟨_, ⟨_, ho, fun q hq => ?_, fun q hq => ?_, rfl⟩, ?_⟩, ht⟩
  · by_cases e : q = p
    · subst e; rw [put1_same]; exact Maps.atKey_del_same _
    · rw [put1_other _ _ _ e, Maps.atKey_del_other (key_ne e)]; exact h2 q hq
  · by_cases e : q = p
    · subst e; rw [put1_same]; exact Maps.has_del_same
    · rw [put1_other _ _ _ e, Maps.has_del_other (key_ne e)]; exact h3 q hq
  · have := Maps.size_del (k := key p) (h1.tidy law27)
    rw [h3 p hp, h4] at this; exact this
theorem PM.del_run {w : World} {B n k : Nat} {f : Nat → Option Nat} (h : PM w B n f k) {p : Nat} (hp : p < 2 ^ 64) (ty : TypeId) :
    ∃ w', (Builtin.delete_ #[78, 22] ty #[.map (some B), .int .u64 (p : Int)]).run Try.prog w = .ok (.tuple #[]) w' := by
  obtain ⟨D, h1, _⟩ := h
  obtain ⟨w2, hrun, _⟩ := h1.drop law27 Try.underlying78 (key_of hp) ty
  exact ⟨w2, hrun⟩

/-- The field that holds the pages: nil, or a map. -/
def PMV (S : Nat → Prop) (w : World) (pm : Value) (n : Nat) (f : Nat → Option Nat) (k : Nat) : Prop :=
  (pm = .map none ∧ (∀ p, f p = none) ∧ k = 0) ∨ ∃ B, pm = .map (some B) ∧ S B ∧ PM w B n f k
theorem PMV.look {S : Nat → Prop} {w : World} {pm : Value} {n k : Nat} {f : Nat → Option Nat} (h : PMV S w pm n f k) {p : Nat} (hp : p < 2 ^ 64) :
    (Instr.lookup 78 pm (.int .u64 (p : Int)) false).run Try.prog w = .ok (ptrOf (f p)) w := by
  rcases h with ⟨rfl, h1, _⟩ | ⟨B, rfl, _, h1⟩
  · rw [h1 p]; exact Maps.look_nil false law27 Try.underlying78 (zero44 w) (key_of hp)
  · exact h1.look hp
theorem PMV.len {S : Nat → Prop} {w : World} {pm : Value} {n k : Nat} {f : Nat → Option Nat} (h : PMV S w pm n f k) (ty : TypeId) :
    (Builtin.len_ #[78] ty #[pm]).run Try.prog w = .ok (.int .i64 (k : Int)) w := by
  rcases h with ⟨rfl, _, rfl⟩ | ⟨B, rfl, _, h1⟩
  · exact Maps.len_nil Try.underlying78 ty
  · exact h1.len ty
/-- The field that holds the stamps: which page has which. -/
def SMV (S : Nat → Prop) (w : World) (sm : Value) (n : Nat) (c : Int) (st : Nat → Int) : Prop :=
  (sm = .map none ∧ ∀ p, p < 2 ^ 64 → st p = c) ∨ ∃ B D, sm = .map (some B) ∧ S B ∧ w.ownsMap Try.prog 22 (plainElem (H := Nat) Try.prog 22) B n D ∧
    ∃ g : Nat → Option Int, (∀ p, p < 2 ^ 64 → Maps.has D (key p) = (g p).isSome) ∧ (∀ p v, p < 2 ^ 64 → g p = some v → ∀ zd, D.atKey (key p) zd = .lit (.int .u64 v)) ∧ ∀ p, p < 2 ^ 64 → st p = (g p).getD c
/-- Stamps of a later time: none is less, those of T are greater. -/
def Rise (st st' : Nat → Int) (T : Nat → Prop) : Prop := ∀ p, p < 2 ^ 64 → st p ≤ st' p ∧ (T p → st p < st' p)
theorem Rise.refl (st : Nat → Int) : Rise st st (fun _ => False) := fun p _ => ⟨Int.le_refl _, fun h => h.elim⟩
theorem Rise.trans {st st1 st2 : Nat → Int} {T U : Nat → Prop} (h : Rise st st1 T) (k : Rise st1 st2 U) : Rise st st2 (fun p => T p ∨ U p) := fun p hp => by
  have h1 := h p hp
  have h2 := k p hp
  refine ⟨by omega, fun h3 => ?_⟩
  rcases h3 with h3 | h3
  · have := h1.2 h3; omega
  · have := h2.2 h3; omega
theorem Rise.mono {st st1 : Nat → Int} {T U : Nat → Prop} (h : Rise st st1 T) (k : ∀ p, U p → T p) : Rise st st1 U := fun p hp => ⟨(h p hp).1, fun hu => (h p hp).2 (k p hu)⟩
def setSt (st : Nat → Int) (num : Nat) (l : Int) : Nat → Int := fun p => if p = num then l else st p
/-- What a space's block holds beside its store. -/
structure Rest where
  rg : Value
  mo : Int
  ba : Int
  en : Int
theorem PMV.kept {S : Nat → Prop} {w w' : World} {pm : Value} {n k : Nat} {f : Nat → Option Nat} (h : PMV S w pm n f k) (hb : ∀ B, pm = .map (some B) → w'.heap[B]? = w.heap[B]?) : PMV S w' pm n f k := by
  rcases h with h | ⟨B, rfl, h1, h2⟩
  · exact .inl h
  · exact .inr ⟨B, rfl, h1, h2.of_block (hb B rfl)⟩
theorem SMV.kept {S : Nat → Prop} {w w' : World} {sm : Value} {n : Nat} {c : Int} {st : Nat → Int} (h : SMV S w sm n c st) (hb : ∀ B, sm = .map (some B) → w'.heap[B]? = w.heap[B]?) : SMV S w' sm n c st := by
  rcases h with h | ⟨B, D, rfl, h1, h2, h3⟩
  · exact .inl h
  · exact .inr ⟨B, D, rfl, h1, ownsMap_of_block h2 (hb B rfl), h3⟩
theorem SMV.mono {S : Nat → Prop} {w : World} {sm : Value} {n m : Nat} {c : Int} {st : Nat → Int} (h : SMV S w sm n c st) (hn : n ≤ m) : SMV S w sm m c st := by
  rcases h with h | ⟨B, D, h0, h1, h2, h3⟩
  · exact .inl h
  · exact .inr ⟨B, D, h0, h1, h2.mono hn, h3⟩
theorem PMV.mono {S : Nat → Prop} {w : World} {pm : Value} {n m k : Nat} {f : Nat → Option Nat} (h : PMV S w pm n f k) (hn : n ≤ m) : PMV S w pm m f k := by
  rcases h with h1 | ⟨B, h0, h1, h2⟩
  · exact .inl h1
  · exact .inr ⟨B, h0, h1, h2.mono hn⟩

/-- A store at block sb, its blocks among S: f, the pages' blocks; k, how many; M, the bytes. -/
structure SA (Y : Rest) (S : Nat → Prop) (w : World) (sb n : Nat) (f : Nat → Option Nat) (k : Nat) (M st : Nat → Int) (pm sm : Value) (c l : Int) : Prop where
  blk : w.heap[sb]? = some (.cells #[Y.rg, pm, sm, .int .u64 c, .int .u64 l, .int .i64 Y.mo, .int .u64 Y.ba, .int .u64 Y.en] 83 (0, 0))
  own : S sb
  lw : 0 ≤ l ∧ l ≤ (n : Int)
  top : ∀ p, p < 2 ^ 64 → st p ≤ l
  pages : PMV S w pm n f k
  stamps : SMV S w sm n c st
  apart : ∀ B, pm = .map (some B) → sm ≠ .map (some B)
  at_ : ∀ p b, f p = some b → S b ∧ w.heap[b]? = some (.cells (asBytes (pageOf M p)).toArray 115 (0, 0))
  inj : ∀ p q b, f p = some b → f q = some b → p = q
  zero : ∀ p o, f p = none → o < 4096 → M (p * 4096 + o) = 0
  lim : ∀ p b, f p = some b → p < 67108864
def StoreAt (Y : Rest) (S : Nat → Prop) (w : World) (sb n : Nat) (f : Nat → Option Nat) (k : Nat) (M st : Nat → Int) : Prop := ∃ pm sm c l, SA Y S w sb n f k M st pm sm c l

section
variable {Y : Rest} {S T : Nat → Prop} {w w' : World} {sb n k : Nat} {f : Nat → Option Nat} {M st : Nat → Int} {pm sm : Value} {c l : Int}
theorem SMV.isMap {S : Nat → Prop} {w : World} {sm : Value} {n : Nat} {c : Int} {st : Nat → Int} (h : SMV S w sm n c st) {B : Nat} (hB : sm = .map (some B)) : S B ∧ ∃ es c, w.heap[B]? = some (.map es c) := by
  rcases h with h | ⟨B', D, h0, h1, ⟨es, c, h2, _⟩, _⟩
  · rw [h.1] at hB; cases hB
  · rw [h0] at hB; cases hB; exact ⟨h1, es, c, h2⟩
theorem PMV.isMap {S : Nat → Prop} {w : World} {pm : Value} {n k : Nat} {f : Nat → Option Nat} (h : PMV S w pm n f k) {B : Nat} (hB : pm = .map (some B)) : S B ∧ ∃ es c, w.heap[B]? = some (.map es c) := by
  rcases h with h | ⟨B', h0, h1, h2⟩
  · rw [h.1] at hB; cases hB
  · rw [h0] at hB; cases hB; exact ⟨h1, h2.isMap⟩
/-- It stays while none of its blocks turns. -/
theorem SA.kept (h : SA Y S w sb n f k M st pm sm c l) (hf : Fr T w w') (hd : ∀ b, S b → ¬ T b) : SA Y S w' sb n f k M st pm sm c l where
  blk := hf.at_ h.blk (hd _ h.own)
  own := h.own
  lw := h.lw
  top := h.top
  pages := h.pages.kept fun B hB => by
    obtain ⟨h1, es, c, h2⟩ := h.pages.isMap hB
    rw [hf.at_ h2 (hd _ h1), h2]
  stamps := h.stamps.kept fun B hB => by
    obtain ⟨h1, es, c, h2⟩ := h.stamps.isMap hB
    rw [hf.at_ h2 (hd _ h1), h2]
  apart := h.apart
  at_ := fun p b hb => ⟨(h.at_ p b hb).1, hf.at_ (h.at_ p b hb).2 (hd _ (h.at_ p b hb).1)⟩
  inj := h.inj
  zero := h.zero
  lim := h.lim
theorem SA.bl (h : SA Y S w sb n f k M st pm sm c l) (hf : Bl w w') : SA Y S w' sb n f k M st pm sm c l := h.kept (T := fun _ => False) (Fr.of_bl hf) (fun _ _ e => e)
theorem StoreAt.kept (h : StoreAt Y S w sb n f k M st) (hf : Fr T w w') (hd : ∀ b, S b → ¬ T b) : StoreAt Y S w' sb n f k M st := by
  obtain ⟨pm, sm, c, l, h⟩ := h; exact ⟨pm, sm, c, l, h.kept hf hd⟩
theorem StoreAt.bl (h : StoreAt Y S w sb n f k M st) (hf : Bl w w') : StoreAt Y S w' sb n f k M st := by
  obtain ⟨pm, sm, c, l, h⟩ := h; exact ⟨pm, sm, c, l, h.bl hf⟩
theorem SA.lt (h : SA Y S w sb n f k M st pm sm c l) : sb < w.heap.size := lt_at h.blk
/-- It may be told by other blocks. -/
theorem SA.among (h : SA Y S w sb n f k M st pm sm c l) (hs : ∀ b, b < w.heap.size → S b → T b) : SA Y T w sb n f k M st pm sm c l where
  blk := h.blk
  own := hs _ h.lt h.own
  lw := h.lw
  top := h.top
  pages := by
    rcases h.pages with h1 | ⟨B, h0, h1, h2⟩
    · exact .inl h1
    · exact .inr ⟨B, h0, hs _ h2.lt h1, h2⟩
  stamps := by
    rcases h.stamps with h1 | ⟨B, D, h0, h1, h2, h3⟩
    · exact .inl h1
    · exact .inr ⟨B, D, h0, hs _ h2.lt h1, h2, h3⟩
  apart := h.apart
  at_ := fun p b hb => ⟨hs _ (lt_at (h.at_ p b hb).2) (h.at_ p b hb).1, (h.at_ p b hb).2⟩
  inj := h.inj
  zero := h.zero
  lim := h.lim
theorem StoreAt.among (h : StoreAt Y S w sb n f k M st) (hs : ∀ b, b < w.heap.size → S b → T b) : StoreAt Y T w sb n f k M st := by
  obtain ⟨pm, sm, c, l, h⟩ := h; exact ⟨pm, sm, c, l, h.among hs⟩
theorem SA.mono (h : SA Y S w sb n f k M st pm sm c l) {m : Nat} (hn : n ≤ m) : SA Y S w sb m f k M st pm sm c l where
  blk := h.blk
  own := h.own
  lw := by have := h.lw; omega
  top := h.top
  pages := h.pages.mono hn
  stamps := h.stamps.mono hn
  apart := h.apart
  at_ := h.at_
  inj := h.inj
  zero := h.zero
  lim := h.lim
theorem StoreAt.mono (h : StoreAt Y S w sb n f k M st) {m : Nat} (hn : n ≤ m) : StoreAt Y S w sb m f k M st := by
  obtain ⟨pm, sm, c, l, h⟩ := h; exact ⟨pm, sm, c, l, h.mono hn⟩
theorem SA.cell (h : SA Y S w sb n f k M st pm sm c l) : w.cell? ⟨sb, 1, none⟩ = some pm ∧ w.cell? ⟨sb, 2, none⟩ = some sm ∧ w.cell? ⟨sb, 3, none⟩ = some (.int .u64 c) ∧ w.cell? ⟨sb, 4, none⟩ = some (.int .u64 l) := by
  have := h.blk
  refine ⟨?_, ?_, ?_, ?_⟩ <;> simp [World.cell?, this]
theorem SA.free (h : SA Y S w sb n f k M st pm sm c l) (i : Nat) : w.frozen? ⟨sb, i, none⟩ = false := by
  have := h.blk
  simp [World.frozen?, this]
/-- A page's bytes turn. -/
theorem SA.write (h : SA Y S w sb n f k M st pm sm c l) {num b off : Nat} {cs : List Int} (hb : f num = some b) (hfit : off + cs.length ≤ 4096) (hg : w.grownBy w' (some b))
    (hw : w'.heap[b]? = some (.cells (asBytes (splice (pageOf M num) off cs)).toArray 115 (0, 0))) : SA Y S w' sb n f k (lay M (num * 4096 + off) cs) st pm sm c l := by
  have hbb := (h.at_ num b hb).2
  have other : ∀ x o, w.heap[x]? = some o → x ≠ b → w'.heap[x]? = some o := fun x o hx hn => by
    rw [hg.block x (lt_at hx) (fun e => hn (by injection e))]; exact hx
  refine ⟨other _ _ h.blk (fun e => ?_), h.own, h.lw, h.top, h.pages.kept fun B hB => ?_, h.stamps.kept fun B hB => ?_, h.apart, fun p x hx => ?_, h.inj, fun p o hp ho => ?_, h.lim⟩
  · have := h.blk; rw [e, hbb] at this; first | cases this | exact absurd (cells_ty this) (by decide)
  · obtain ⟨_, es, c, h2⟩ := h.pages.isMap hB
    rw [other _ _ h2 (fun e => by rw [e, hbb] at h2; cases h2), h2]
  · obtain ⟨_, es, c, h2⟩ := h.stamps.isMap hB
    rw [other _ _ h2 (fun e => by rw [e, hbb] at h2; cases h2), h2]
  · by_cases e : p = num
    · subst e
      rw [hb] at hx; cases hx
      exact ⟨(h.at_ p _ hb).1, by rw [pageOf_lay _ _ _ _ hfit]; exact hw⟩
    · have hne : x ≠ b := fun ex => e (h.inj p num b (ex ▸ hx) hb)
      refine ⟨(h.at_ p x hx).1, ?_⟩
      rw [pageOf_other M _ p (fun o ho => lay_out _ _ _ _ (by omega))]
      exact other _ _ (h.at_ p x hx).2 hne
  · have hpn : p ≠ num := fun e => by subst e; rw [hb] at hp; cases hp
    rw [lay_out _ _ _ _ (by omega)]
    exact h.zero p o hp ho
end

end Go.Proofs.Ytpalhkfipnbcnaa
