/-
  Slices of bytes as lists of numbers: what a slice reads as, kept while only new memory is made; appending to memory of the call's own. Over any program.
-/
import Derived.WalkKit
import Derived.WalkSpells
import Derived.WalkLawsBesides
import Derived.Lib.Hide
import Derived.Laws.AppendOwnNone
import Derived.Laws.CopyOwn
namespace Go.Proofs.Ytpalhkfipnbcnaa
open Go.RowKit

/-- The numbers, as bytes in memory. -/
def asBytes (xs : List Int) : List Value := xs.map (Value.int .u8)
theorem asBytes_length (xs : List Int) : (asBytes xs).length = xs.length := by simp [asBytes]
theorem asBytes_append (xs ys : List Int) : asBytes (xs ++ ys) = asBytes xs ++ asBytes ys := by simp [asBytes]
theorem asBytes_get (xs : List Int) (j : Nat) (u : Value) (h : (asBytes xs)[j]? = some u) : j < xs.length ∧ u = .int .u8 (xs.getD j 0) := by
  unfold asBytes at h
  rw [List.getElem?_map] at h
  rcases hx : xs[j]? with _ | x
  · rw [hx] at h; simp at h
  · rw [hx] at h
    have hj : j < xs.length := by
      rcases Nat.lt_or_ge j xs.length with h1 | h1
      · exact h1
      · rw [List.getElem?_eq_none h1] at hx; cases hx
    simp at h
    exact ⟨hj, by rw [← h, List.getD_eq_getElem?_getD, hx]; rfl⟩
theorem asBytes_at (xs : List Int) (j : Nat) (h : j < xs.length) : (asBytes xs)[j]? = some (.int .u8 (xs.getD j 0)) := by
  unfold asBytes
  rw [List.getElem?_map, List.getElem?_eq_getElem h, List.getD_eq_getElem?_getD, List.getElem?_eq_getElem h]; rfl

/-- A slice's address reads as these bytes. -/
def Rd (w : World) (A : Option Addr) (xs : List Int) : Prop :=
  0 < xs.length → ∃ ad, A = some ad ∧ ∀ i, i < xs.length → w.cell? (ad.add i) = some (.int .u8 (xs.getD i 0))

section
variable {w w' : World} {A : Option Addr} {xs : List Int}
theorem Rd.at_ (h : Rd w A xs) (k : Nat) (hk : k < xs.length) :
    ∃ b off, A = some ⟨b, off, none⟩ ∧ w.cell? ⟨b, off + k, none⟩ = some (.int .u8 (xs.getD k 0)) := by
  obtain ⟨ad, rfl, hc⟩ := h (by omega)
  have h1 := hc k hk
  have h0 := hc 0 (by omega)
  obtain ⟨b, off, spot⟩ := ad
  have hspot : spot = none := by simpa [Addr.add] using World.cell?_spot h0
  subst hspot
  refine ⟨b, off, rfl, ?_⟩
  by_cases hk0 : k = 0
  · subst hk0; simpa [Addr.add] using h1
  · simpa [Addr.add, hk0] using h1
theorem add_block (a : Addr) (n : Nat) : (a.add n).block = a.block := by unfold Addr.add; split <;> rfl
theorem Rd.drewN (h : Rd w A xs) (k : Nat) : Rd (w.drewN k) A xs := h
theorem Rd.nil_ : Rd w A [] := fun h => absurd h (by simp)
theorem Rd.below (h : Rd w A xs) (hb : Below w.heap.size w w') : Rd w' A xs := by
  intro h0
  obtain ⟨ad, rfl, hc⟩ := h h0
  refine ⟨ad, rfl, fun i hi => ?_⟩
  have h1 := hc i hi
  rw [hb.cell (block_lt_of_cell h1)]
  exact h1
theorem Rd.cells (h : Rd w A xs) (ad : Addr) (hA : A = some ad) : ∀ j u, (asBytes xs)[j]? = some u → w.cell? (ad.add j) = some u := by
  intro j u hu
  obtain ⟨hj, rfl⟩ := asBytes_get xs j u hu
  obtain ⟨ad', h', hc⟩ := h (by omega)
  rw [hA] at h'; cases h'
  exact hc j hj
theorem Rd.of_own {base e n : Nat} {v : Value} (h : w.ownsRow base e 1 v n (asBytes xs)) : ∃ A c, v = .slice A n c ∧ Rd w A xs ∧ n = xs.length ∧ (A = none → c = 0) ∧ n ≤ c := by
  have hn : n = xs.length := by have := h.1; rw [asBytes_length] at this; omega
  rcases h.2 with ⟨rfl, h0⟩ | ⟨g, cap, cur, rfl, hb, hh, hnc, hcm, hcs, ht⟩
  · subst h0
    exact ⟨none, 0, rfl, fun hx => absurd hx (by omega), hn, fun _ => rfl, Nat.le_refl _⟩
  · refine ⟨_, _, rfl, fun _ => ⟨_, rfl, fun i hi => ?_⟩, hn, (fun h => by cases h), hnc⟩
    have := h.cells (g := g) rfl i _ (asBytes_at xs i hi)
    exact this
/-- A part of what is read. -/
theorem Rd.drop (h : Rd w A xs) (k cap : Nat) (hk : k ≤ xs.length) (hc : xs.length ≤ cap) : Rd w (if cap = k then A else A.map (·.add k)) (xs.drop k) := by
  intro h0
  rw [List.length_drop] at h0
  obtain ⟨ad, rfl, hcell⟩ := h (by omega)
  rw [if_neg (by omega)]
  refine ⟨_, rfl, fun i hi => ?_⟩
  rw [List.length_drop] at hi
  have h1 := hcell (k + i) (by omega)
  have e : (ad.add k).add i = ad.add (k + i) := by
    unfold Addr.add; by_cases a0 : k = 0 <;> by_cases b0 : i = 0 <;> simp [a0, b0, Nat.add_assoc]
  rw [e, h1, List.getD_eq_getElem?_getD, List.getD_eq_getElem?_getD, List.getElem?_drop]
end

theorem bytes_one (xs : List Int) : ∀ u ∈ asBytes xs, u.oneCell' = true := ints_oneCell .u8 xs

/-- Bytes behind a row of the call's own, whatever slice they stand in. -/
theorem wpl_append {P : Program} {w : World} {ops : Array Oper} {rest : List Oper} {o : Oper} {a : Act} {Q : Exit → Act → World → Prop} (hgd : o.guard = none) (s x : Operand) (t : TypeId)
    (ho : o.op = .call { callee := .builtin .append, args := #[s, x], argTypes := #[t, t] })
    (base : Nat) (e : TypeId) (i : TypeInfo) (ht : P.underlying t = some (.slice e)) (hi : P.info? e = some i) (hz : i.zero = some (.int .u8 0)) (hsize : i.size = 1) (hby : i.bytes = 1)
    (v : Value) (n : Nat) (xs : List Int) (hs : a.eval s = v) (hown : w.ownsRow base e 1 v n (asBytes xs))
    (A : Option Addr) (m c : Nat) (news : List Int) (hx : a.eval x = .slice A m c) (hr : Rd w A news) (hl : news.length = m) (hc : A = none → c = 0)
    (h63 : n + m ≤ 1000000000) (hbase : base ≤ w.heap.size)
    (h : ∀ v' w', w'.ownsRow base e 1 v' (n + m) (asBytes (xs ++ news)) → w.grownBy w' v.ownBlock → wpList P ops Q rest (a.put o.dst v') w') : wpList P ops Q (o :: rest) a w := by
  rcases A with _ | ad
  · have hm : news = [] := by
      rcases Nat.eq_zero_or_pos news.length with h0 | h0
      · exact List.eq_nil_of_length_eq_zero h0
      · obtain ⟨_, h', _⟩ := hr h0; cases h'
    subst hm
    obtain rfl : m = 0 := by simpa using hl.symm
    obtain rfl := hc rfl
    refine wpList_append_own_none hgd s x t ho base e i 1 ht hi v n (asBytes xs) hs hown hx ?_
    exact h v w (by simpa using hown) (World.grownBy.refl w _)
  · refine wpList_append_own w hgd s x t ho base e i (.int .u8 0) 1 1 ht hi hz hsize hby rfl (by omega) v n (asBytes xs) hs hown ad m c (asBytes news) hx (by rw [asBytes_length, hl, Nat.mul_one]) (hr.cells ad rfl) (bytes_one news) (by simp only [maxLen]; omega) (by omega) hbase ?_
    intro v' w' h1 h2 _
    exact h v' w' (by rw [asBytes_append]; exact h1) h2

/-- The same, as what the append does. -/
theorem run_appended {P : Program} (W : World) (t e ty : TypeId) (base : Nat) (i : TypeInfo) (ht : P.underlying t = some (.slice e)) (hi : P.info? e = some i) (hz : i.zero = some (.int .u8 0)) (hsize : i.size = 1) (hby : i.bytes = 1)
    (v : Value) (n : Nat) (xs : List Int) (hown : W.ownsRow base e 1 v n (asBytes xs))
    (A : Option Addr) (m c : Nat) (news : List Int) (hr : Rd W A news) (hl : news.length = m) (hc : A = none → c = 0)
    (h63 : n + m ≤ 1000000000) (hbase : base ≤ W.heap.size) :
    ∃ v' w', (Builtin.append_ #[t, t] ty #[v, .slice A m c]).run P W = .ok v' w' ∧ w'.ownsRow base e 1 v' (n + m) (asBytes (xs ++ news)) ∧ W.grownBy w' v.ownBlock := by
  rcases A with _ | ad
  · have hm : news = [] := by
      rcases Nat.eq_zero_or_pos news.length with h0 | h0
      · exact List.eq_nil_of_length_eq_zero h0
      · obtain ⟨_, h', _⟩ := hr h0; cases h'
    subst hm
    obtain rfl : m = 0 := by simpa using hl.symm
    obtain rfl := hc rfl
    exact ⟨v, W, run_append_owned_none (P := P) (w := W) base t ty e i 1 ht hi v n (asBytes xs) hown, by simpa using hown, World.grownBy.refl W _⟩
  · obtain ⟨v', w', h1, h2, h3, _⟩ := run_append_own (P := P) W base t ty e i (.int .u8 0) 1 1 ht hi hz hsize hby rfl (by omega) v n (asBytes xs) hown ad m c (asBytes news) (by rw [asBytes_length, hl, Nat.mul_one]) (hr.cells ad rfl) (bytes_one news) (by simp only [maxLen]; omega) (by omega) hbase
    exact ⟨v', w', h1, by rw [asBytes_append]; exact h2, h3⟩

/-- An append whose run is known, guarded or not. -/
theorem wpl_append_run {P : Program} {w w1 : World} {ops : Array Oper} {rest : List Oper} {o : Oper} {a : Act} {Q : Exit → Act → World → Prop} (hw : Region.wanted o (yielded ops a.tmps) = true) (s x : Operand) (t : TypeId)
    (ho : o.op = .call { callee := .builtin .append, args := #[s, x], argTypes := #[t, t] }) (v vx v1 : Value) (hs : a.eval s = v) (hx : a.eval x = vx)
    (hrun : (Builtin.append_ #[t, t] o.type #[v, vx]).run P w = .ok v1 w1) (h : wpList P ops Q rest (a.put o.dst v1) w1) : wpList P ops Q (o :: rest) a w := by
  refine BigFrame.wpList_want hw fun K hK => ?_
  unfold Oper.wp
  simp [execOp, ho, resolve, invoke, builtin, hs, hx, hrun, Result.andThen]
  exact hK _ _ h

/-- copy of as many bytes as the row has elements. -/
theorem run_copied {P : Program} (W : World) (t e : TypeId) (ty : TypeId) (ht : P.underlying t = some (.slice e)) (hsz : (P.info? e).map (·.size) = some 1)
    (base g len c : Nat) (cur : Array Value) (hg : W.heap[g]? = some (.cells cur e (0, 0))) (hcs : cur.size = c) (hlc : len ≤ c) (hcm : c ≤ maxLen) (hbg : base ≤ g)
    (A : Option Addr) (cap : Nat) (xs : List Int) (hr : Rd W A xs) (hl : xs.length = len) :
    ∃ w2, (Builtin.copy_ #[t, t] ty #[.slice (some ⟨g, 0, none⟩) len c, .slice A len cap]).run P W = .ok (.int .i64 (len : Int)) w2 ∧
      w2.ownsRow base e 1 (.slice (some ⟨g, 0, none⟩) len c) len (asBytes xs) ∧ W.grownBy w2 (some g) := by
  by_cases h0 : len = 0
  · subst h0
    obtain rfl : xs = [] := List.eq_nil_of_length_eq_zero hl
    exact ⟨W, run_copy_none (P := P) W t t ty e _ _ 0 c 0 cap ht hsz rfl, ⟨by simp [asBytes], .inr ⟨g, c, cur, rfl, hbg, hg, hlc, hcm, by omega, by simp [asBytes]⟩⟩, World.grownBy.refl _ _⟩
  · obtain ⟨ad, rfl, _⟩ := hr (by omega)
    have hcl : (asBytes xs).length = len := by rw [asBytes_length, hl]
    have hrun := run_copy_row (P := P) W t t ty e g 0 len c ad len cap cur e (asBytes xs) ht hsz hg (by rw [hcl]; exact (Nat.min_self _).symm) (hr.cells ad rfl) (by omega) (bytes_one xs)
    rw [hcl] at hrun
    refine ⟨_, hrun, ⟨by omega, .inr ⟨g, c, _, rfl, hbg, setRow_heap W g _ _ e _ hg, hlc, hcm, ?_, ?_⟩⟩, ?_⟩
    · simp [hcl]; omega
    · simp [hcl]
    · exact ⟨rfl, rfl, rfl, by simp [World.setRow], fun k _ hne => setRow_other W g k _ (fun e => hne (by rw [e]))⟩
end Go.Proofs.Ytpalhkfipnbcnaa
