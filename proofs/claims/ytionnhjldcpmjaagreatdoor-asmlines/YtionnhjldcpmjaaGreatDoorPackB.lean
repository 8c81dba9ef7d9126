/-
  Slices of bytes as lists of numbers: what a slice reads as, kept while only new memory is made; appending to memory of the call's own. Over any program.
  Bytes of words: Put, on both sides; the same bytes.
-/
import Derived.WalkKit
import Derived.WalkSpells
import Derived.WalkLawsBesides
import Derived.Lib.Hide
import Derived.Laws.AppendOwnNone
import Derived.Laws.CopyOwn
import Derived.Test.YtionnhjldcpmjaaGreatDoorKept
import Derived.Deep.QuietTactic
import Derived.BigQuiet
namespace Go.Proofs.YtionnhjldcpmjaaGreatDoor
open Go.RowKit

/-- The numbers, as bytes in memory. -/
def asBytes (xs : List Int) : List Value := xs.map (Value.int .u8)
theorem asBytes_length (xs : List Int) : (asBytes xs).length = xs.length := by simp [asBytes]
theorem asBytes_append (xs ys : List Int) : asBytes (xs ++ ys) = asBytes xs ++ asBytes ys := by simp [asBytes]
theorem asBytes_get (xs : List Int) (j : Nat) (u : Value) (h : (asBytes xs)[j]? = some u) : j < xs.length ∧ u = .int .u8 (xs.getD j 0) := by
  unfold asBytes at h
  rw [List.getElem?_map] at h
  rcases hx : xs[j]? with _ | x
  · rw [hx] at h; simp at h
  · rw [hx] at h
    have hj : j < xs.length := by
      rcases Nat.lt_or_ge j xs.length with h1 | h1
      · exact h1
      · rw [List.getElem?_eq_none h1] at hx; cases hx
    simp at h
    exact ⟨hj, by rw [← h, List.getD_eq_getElem?_getD, hx]; rfl⟩
theorem asBytes_at (xs : List Int) (j : Nat) (h : j < xs.length) : (asBytes xs)[j]? = some (.int .u8 (xs.getD j 0)) := by
  unfold asBytes
  rw [List.getElem?_map, List.getElem?_eq_getElem h, List.getD_eq_getElem?_getD, List.getElem?_eq_getElem h]; rfl

/-- A slice's address reads as these bytes. -/
def Rd (w : World) (A : Option Addr) (xs : List Int) : Prop :=
  0 < xs.length → ∃ ad, A = some ad ∧ ∀ i, i < xs.length → w.cell? (ad.add i) = some (.int .u8 (xs.getD i 0))

section
variable {w w' : World} {A : Option Addr} {xs : List Int}
theorem Rd.at_ (h : Rd w A xs) (k : Nat) (hk : k < xs.length) :
    ∃ b off, A = some ⟨b, off, none⟩ ∧ w.cell? ⟨b, off + k, none⟩ = some (.int .u8 (xs.getD k 0)) := by
  obtain ⟨ad, rfl, hc⟩ := h (by omega)
  have h1 := hc k hk
  have h0 := hc 0 (by omega)
  obtain ⟨b, off, spot⟩ := ad
  have hspot : spot = none := by simpa [Addr.add] using World.cell?_spot h0
  subst hspot
  refine ⟨b, off, rfl, ?_⟩
  by_cases hk0 : k = 0
  · subst hk0; simpa [Addr.add] using h1
  · simpa [Addr.add, hk0] using h1
theorem add_block (a : Addr) (n : Nat) : (a.add n).block = a.block := by unfold Addr.add; split <;> rfl
theorem Rd.drewN (h : Rd w A xs) (k : Nat) : Rd (w.drewN k) A xs := h
theorem Rd.nil_ : Rd w A [] := fun h => absurd h (by simp)
theorem Rd.below (h : Rd w A xs) (hb : Below w.heap.size w w') : Rd w' A xs := by
  intro h0
  obtain ⟨ad, rfl, hc⟩ := h h0
  refine ⟨ad, rfl, fun i hi => ?_⟩
  have h1 := hc i hi
  rw [hb.cell (block_lt_of_cell h1)]
  exact h1
theorem Rd.cells (h : Rd w A xs) (ad : Addr) (hA : A = some ad) : ∀ j u, (asBytes xs)[j]? = some u → w.cell? (ad.add j) = some u := by
  intro j u hu
  obtain ⟨hj, rfl⟩ := asBytes_get xs j u hu
  obtain ⟨ad', h', hc⟩ := h (by omega)
  rw [hA] at h'; cases h'
  exact hc j hj
theorem Rd.of_own {base e n : Nat} {v : Value} (h : w.ownsRow base e 1 v n (asBytes xs)) : ∃ A c, v = .slice A n c ∧ Rd w A xs ∧ n = xs.length ∧ (A = none → c = 0) ∧ n ≤ c := by
  have hn : n = xs.length := by have := h.1; rw [asBytes_length] at this; omega
  rcases h.2 with ⟨rfl, h0⟩ | ⟨g, cap, cur, rfl, hb, hh, hnc, hcm, hcs, ht⟩
  · subst h0
    exact ⟨none, 0, rfl, fun hx => absurd hx (by omega), hn, fun _ => rfl, Nat.le_refl _⟩
  · refine ⟨_, _, rfl, fun _ => ⟨_, rfl, fun i hi => ?_⟩, hn, (fun h => by cases h), hnc⟩
    have := h.cells (g := g) rfl i _ (asBytes_at xs i hi)
    exact this
/-- A part of what is read. -/
theorem Rd.drop (h : Rd w A xs) (k cap : Nat) (hk : k ≤ xs.length) (hc : xs.length ≤ cap) : Rd w (if cap = k then A else A.map (·.add k)) (xs.drop k) := by
  intro h0
  rw [List.length_drop] at h0
  obtain ⟨ad, rfl, hcell⟩ := h (by omega)
  rw [if_neg (by omega)]
  refine ⟨_, rfl, fun i hi => ?_⟩
  rw [List.length_drop] at hi
  have h1 := hcell (k + i) (by omega)
  have e : (ad.add k).add i = ad.add (k + i) := by
    unfold Addr.add; by_cases a0 : k = 0 <;> by_cases b0 : i = 0 <;> simp [a0, b0, Nat.add_assoc]
  rw [e, h1, List.getD_eq_getElem?_getD, List.getD_eq_getElem?_getD, List.getElem?_drop]
end

theorem bytes_one (xs : List Int) : ∀ u ∈ asBytes xs, u.oneCell' = true := ints_oneCell .u8 xs

/-- Bytes behind a row of the call's own, whatever slice they stand in. -/
theorem wpl_append {P : Program} {w : World} {ops : Array Oper} {rest : List Oper} {o : Oper} {a : Act} {Q : Exit → Act → World → Prop} (hgd : o.guard = none) (s x : Operand) (t : TypeId)
    (ho : o.op = .call { callee := .builtin .append, args := #[s, x], argTypes := #[t, t] })
    (base : Nat) (e : TypeId) (i : TypeInfo) (ht : P.underlying t = some (.slice e)) (hi : P.info? e = some i) (hz : i.zero = some (.int .u8 0)) (hsize : i.size = 1) (hby : i.bytes = 1)
    (v : Value) (n : Nat) (xs : List Int) (hs : a.eval s = v) (hown : w.ownsRow base e 1 v n (asBytes xs))
    (A : Option Addr) (m c : Nat) (news : List Int) (hx : a.eval x = .slice A m c) (hr : Rd w A news) (hl : news.length = m) (hc : A = none → c = 0)
    (h63 : n + m ≤ 1000000000) (hbase : base ≤ w.heap.size)
    (h : ∀ v' w', w'.ownsRow base e 1 v' (n + m) (asBytes (xs ++ news)) → w.grownBy w' v.ownBlock → wpList P ops Q rest (a.put o.dst v') w') : wpList P ops Q (o :: rest) a w := by
  rcases A with _ | ad
  · have hm : news = [] := by
      rcases Nat.eq_zero_or_pos news.length with h0 | h0
      · exact List.eq_nil_of_length_eq_zero h0
      · obtain ⟨_, h', _⟩ := hr h0; cases h'
    subst hm
    obtain rfl : m = 0 := by simpa using hl.symm
    obtain rfl := hc rfl
    refine wpList_append_own_none hgd s x t ho base e i 1 ht hi v n (asBytes xs) hs hown hx ?_
    exact h v w (by simpa using hown) (World.grownBy.refl w _)
  · refine wpList_append_own w hgd s x t ho base e i (.int .u8 0) 1 1 ht hi hz hsize hby rfl (by omega) v n (asBytes xs) hs hown ad m c (asBytes news) hx (by rw [asBytes_length, hl, Nat.mul_one]) (hr.cells ad rfl) (bytes_one news) (by simp only [maxLen]; omega) (by omega) hbase ?_
    intro v' w' h1 h2 _
    exact h v' w' (by rw [asBytes_append]; exact h1) h2

/-- The same, as what the append does. -/
theorem run_appended {P : Program} (W : World) (t e ty : TypeId) (base : Nat) (i : TypeInfo) (ht : P.underlying t = some (.slice e)) (hi : P.info? e = some i) (hz : i.zero = some (.int .u8 0)) (hsize : i.size = 1) (hby : i.bytes = 1)
    (v : Value) (n : Nat) (xs : List Int) (hown : W.ownsRow base e 1 v n (asBytes xs))
    (A : Option Addr) (m c : Nat) (news : List Int) (hr : Rd W A news) (hl : news.length = m) (hc : A = none → c = 0)
    (h63 : n + m ≤ 1000000000) (hbase : base ≤ W.heap.size) :
    ∃ v' w', (Builtin.append_ #[t, t] ty #[v, .slice A m c]).run P W = .ok v' w' ∧ w'.ownsRow base e 1 v' (n + m) (asBytes (xs ++ news)) ∧ W.grownBy w' v.ownBlock := by
  rcases A with _ | ad
  · have hm : news = [] := by
      rcases Nat.eq_zero_or_pos news.length with h0 | h0
      · exact List.eq_nil_of_length_eq_zero h0
      · obtain ⟨_, h', _⟩ := hr h0; cases h'
    subst hm
    obtain rfl : m = 0 := by simpa using hl.symm
    obtain rfl := hc rfl
    exact ⟨v, W, run_append_owned_none (P := P) (w := W) base t ty e i 1 ht hi v n (asBytes xs) hown, by simpa using hown, World.grownBy.refl W _⟩
  · obtain ⟨v', w', h1, h2, h3, _⟩ := run_append_own (P := P) W base t ty e i (.int .u8 0) 1 1 ht hi hz hsize hby rfl (by omega) v n (asBytes xs) hown ad m c (asBytes news) (by rw [asBytes_length, hl, Nat.mul_one]) (hr.cells ad rfl) (bytes_one news) (by simp only [maxLen]; omega) (by omega) hbase
    exact ⟨v', w', h1, by rw [asBytes_append]; exact h2, h3⟩

/-- An append whose run is known, guarded or not. -/
theorem wpl_append_run {P : Program} {w w1 : World} {ops : Array Oper} {rest : List Oper} {o : Oper} {a : Act} {Q : Exit → Act → World → Prop} (hw : Region.wanted o (yielded ops a.tmps) = true) (s x : Operand) (t : TypeId)
    (ho : o.op = .call { callee := .builtin .append, args := #[s, x], argTypes := #[t, t] }) (v vx v1 : Value) (hs : a.eval s = v) (hx : a.eval x = vx)
    (hrun : (Builtin.append_ #[t, t] o.type #[v, vx]).run P w = .ok v1 w1) (h : wpList P ops Q rest (a.put o.dst v1) w1) : wpList P ops Q (o :: rest) a w := by
  refine BigFrame.wpList_want hw fun K hK => ?_
  unfold Oper.wp
  simp [execOp, ho, resolve, invoke, builtin, hs, hx, hrun, Result.andThen]
  exact hK _ _ h

/-- copy of as many bytes as the row has elements. -/
theorem run_copied {P : Program} (W : World) (t e : TypeId) (ty : TypeId) (ht : P.underlying t = some (.slice e)) (hsz : (P.info? e).map (·.size) = some 1)
    (base g len c : Nat) (cur : Array Value) (hg : W.heap[g]? = some (.cells cur e (0, 0))) (hcs : cur.size = c) (hlc : len ≤ c) (hcm : c ≤ maxLen) (hbg : base ≤ g)
    (A : Option Addr) (cap : Nat) (xs : List Int) (hr : Rd W A xs) (hl : xs.length = len) :
    ∃ w2, (Builtin.copy_ #[t, t] ty #[.slice (some ⟨g, 0, none⟩) len c, .slice A len cap]).run P W = .ok (.int .i64 (len : Int)) w2 ∧
      w2.ownsRow base e 1 (.slice (some ⟨g, 0, none⟩) len c) len (asBytes xs) ∧ W.grownBy w2 (some g) := by
  by_cases h0 : len = 0
  · subst h0
    obtain rfl : xs = [] := List.eq_nil_of_length_eq_zero hl
    exact ⟨W, run_copy_none (P := P) W t t ty e _ _ 0 c 0 cap ht hsz rfl, ⟨by simp [asBytes], .inr ⟨g, c, cur, rfl, hbg, hg, hlc, hcm, by omega, by simp [asBytes]⟩⟩, World.grownBy.refl _ _⟩
  · obtain ⟨ad, rfl, _⟩ := hr (by omega)
    have hcl : (asBytes xs).length = len := by rw [asBytes_length, hl]
    have hrun := run_copy_row (P := P) W t t ty e g 0 len c ad len cap cur e (asBytes xs) ht hsz hg (by rw [hcl]; exact (Nat.min_self _).symm) (hr.cells ad rfl) (by omega) (bytes_one xs)
    rw [hcl] at hrun
    refine ⟨_, hrun, ⟨by omega, .inr ⟨g, c, _, rfl, hbg, setRow_heap W g _ _ e _ hg, hlc, hcm, ?_, ?_⟩⟩, ?_⟩
    · simp [hcl]; omega
    · simp [hcl]
    · exact ⟨rfl, rfl, rfl, by simp [World.setRow], fun k _ hne => setRow_other W g k _ (fun e => hne (by rw [e]))⟩
end Go.Proofs.YtionnhjldcpmjaaGreatDoor

set_option linter.unusedVariables false
set_option linter.unusedSimpArgs false
namespace Go.Proofs.YtionnhjldcpmjaaGreatDoor
open Go.RowKit
set_option maxRecDepth 100000
open Go.RowKit
theorem count_any (n : Int) (w : World) : Calls Tryz.prog 51 #[.int .i64 n] w fun e w' => e = .returned (.bool (decide (1 ≤ n ∧ n ≤ 8))) ∧ w = w' := by
  by_cases h : 1 ≤ n
  · have e : decide (1 ≤ n ∧ n ≤ 8) = decide (n ≤ 8) := by simp [h]
    rw [e]; clear e
    go_enter Tryz.func51, Tryz.ntmps51
    go_wp2
    go_ret
    exact ⟨rfl, rfl⟩
  · have e : decide (1 ≤ n ∧ n ≤ 8) = false := by simp [h]
    rw [e]; clear e
    go_enter Tryz.func51, Tryz.ntmps51
    go_wp2
    go_ret
    exact ⟨rfl, rfl⟩

set_option maxHeartbeats 1000000 in
theorem same_any (A B : Option Addr) (len cap cap' : Nat) (xs : List Int) (w : World) (hr : Rd w A xs) (hr' : Rd w B xs) (hl : xs.length = len) (hm : len ≤ 5100) :
    Calls Tryz.prog 20 #[.slice A len cap, .slice B len cap'] w fun e w' => e = .returned (.bool true) ∧ ∃ m, w' = w.drewN m := by
  have HR := Lib.hid hr; clear hr
  have HR' := Lib.hid hr'; clear hr'
  have HL := Lib.hid hl; clear hl
  go_enter Tryz.func20, Tryz.ntmps20
  go_wp2
  go_loopw [5] (fun i wr => ∃ k m : Nat, k ≤ len ∧ i = .int .i64 k ∧ wr = w.drewN m) (fun i _ => len - (intOf i).toNat)
  case atStart => exact ⟨0, 0, by omega, rfl, rfl⟩
  case round =>
    obtain ⟨k, m, hk, rfl, rfl⟩ := hrel
    by_cases hlt : k < len
    · obtain ⟨b, off, hA, hcell⟩ := HR.out.at_ k (by rw [HL.out]; omega)
      subst hA
      obtain ⟨b', off', hA, hcell'⟩ := HR'.out.at_ k (by rw [HL.out]; omega)
      subst hA
      generalize xs.getD k 0 = x at *
      have hin : (k : Int) < (len : Int) := by omega
      go_wp2
      go_quiet (fail)
      go_wp2
      go_roundw
      case rel => exact ⟨k + 1, m + nq, by omega, by go_num, rfl⟩
      case measure => simp [intOf]; omega
    · obtain rfl : k = len := by omega
      go_wp2
      go_ret
      exact ⟨rfl, _, rfl⟩

theorem Tryz.infoByte : (Tryz.prog.info? 5).map (fun i => (i.zero, i.size, i.bytes)) = some (some (.int .u8 0), 1, 1) := by kernel_rfl
theorem sizeByte : (Tryz.prog.info? 5).map (·.size) = some 1 := by kernel_rfl
/-- A word's lowest k bytes, the lowest first. -/
def putB (x : Int) (k : Nat) : List Int := (List.range k).map fun i => x / 2 ^ (8 * i) % 256
theorem putB_length (x : Int) (k : Nat) : (putB x k).length = k := by simp [putB]
theorem putB_succ (x : Int) (k : Nat) : putB x (k + 1) = putB x k ++ [x / 2 ^ (8 * k) % 256] := by simp [putB, List.range_succ]
theorem own_empty (w : World) : (w.alloc (.cells #[] 5)).ownsRow w.heap.size 5 1 (.slice (some ⟨w.heap.size, 0, none⟩) 0 0) 0 (asBytes []) :=
  World.ownsRow_lit w #[] 0 (Nat.le_refl _) (by simp [maxLen]) (by simp)
theorem Rd.alloc {w : World} {A : Option Addr} {xs : List Int} (h : Rd w A xs) (o : Obj) : Rd (w.alloc o) A xs := h.below ((Below.refl _ _).alloc (Nat.le_refl _) o)
/-- What the call owns lies behind what was there. -/
theorem own_block_ge {w : World} {base e n : Nat} {v : Value} {xs : List Value} (h : w.ownsRow base e 1 v n xs) : ∀ k, v.ownBlock = some k → base ≤ k := fun k hk => (h.lt k hk).1
/-- One byte behind it. -/
theorem one_cell (w : World) (y : Int) : Rd (w.alloc (.cells #[.int .u8 y] 5)) (some ⟨w.heap.size, 0, none⟩) [y] := by
  intro _
  refine ⟨_, rfl, fun i hi => ?_⟩
  obtain rfl : i = 0 := by simpa using hi
  simp [Addr.add]

set_option maxHeartbeats 1000000 in
theorem refPut_in (A : Option Addr) (len cap : Nat) (xs : List Int) (x : Int) (n : Nat) (w : World) (hr : Rd w A xs) (hl : xs.length = len) (hc : A = none → cap = 0) (hm : len ≤ 5100) (h1 : 1 ≤ n) (h8 : n ≤ 8) :
    Calls Tryz.prog 17 #[.slice A len cap, .int .u64 x, .int .i64 n] w fun e w' => ∃ B c, e = .returned (.slice B (len + n) c) ∧ Rd w' B (xs ++ putB x n) ∧ Below w.heap.size w w' ∧ (B = none → c = 0) := by
  obtain ⟨i0, hi0, hz0, hz1, hz2⟩ := info_parts Tryz.infoByte
  have HR := Lib.hid hr; clear hr
  have HL := Lib.hid hl; clear hl
  have HC := Lib.hid hc; clear hc
  have J0 := Lib.hid hi0; clear hi0
  have J1 := Lib.hid hz0; clear hz0
  have J2 := Lib.hid hz1; clear hz1
  have J3 := Lib.hid hz2; clear hz2
  go_enter Tryz.func17, Tryz.ntmps17
  go_wp2_with (at_builtin; refine wpl_append rfl (.tmp 9) (.tmp 10) 38 rfl w.heap.size 5 i0 Tryz.underlying38 J0.out J1.out J2.out J3.out _ 0 [] rfl (own_empty w) A len cap xs rfl (HR.out.alloc _) HL.out HC.out (by omega) (by simp) ?_; intro v1 w1 hown1 hg1; have HO1 := Lib.hid hown1; clear hown1)
  have hbel : Below w.heap.size w w1 := ((Below.refl _ _).alloc (Nat.le_refl _) _).grown hg1 (by simp) (own_block_ge (own_empty w))
  clear hg1
  go_loopw [7, 8] (fun v i wr => ∃ k : Nat, k ≤ n ∧ i = .int .i64 k ∧ wr.ownsRow w.heap.size 5 1 v (len + k) (asBytes (xs ++ putB x k)) ∧ Below w.heap.size w wr) (fun _ i _ => n - (intOf i).toNat)
  case atStart => exact ⟨0, by omega, rfl, by simpa [putB] using HO1.out, hbel⟩
  case round =>
    obtain ⟨k, hk, rfl, hown, hbr⟩ := hrel
    clear hbel HO1
    have HO := Lib.hid hown; clear hown
    by_cases hlt : k < n
    · go_wp2_with (at_builtin; refine wpl_append rfl (.tmp 24) (.tmp 31) 38 rfl w.heap.size 5 i0 Tryz.underlying38 J0.out J1.out J2.out J3.out _ (len + k) (xs ++ putB x k) rfl (HO.out.alloc _) (some ⟨wr.heap.size, 0, none⟩) 1 1 [x / 2 ^ (8 * k) % 256] rfl (one_cell wr _) rfl (fun h => by cases h) (by omega) (by have := hbr.size; simp; omega) ?_; intro v2 w2 hown2 hg2)
      have hsz := hbr.size
      have hb2 : Below w.heap.size w w2 := (hbr.alloc hsz _).grown hg2 (by simp; omega) (own_block_ge HO.out)
      go_roundw
      case rel => exact ⟨k + 1, by omega, by go_num, by rw [putB_succ, ← List.append_assoc]; exact hown2, hb2⟩
      case measure => simp [intOf]; omega
    · obtain rfl : k = n := by omega
      go_wp2
      go_ret
      obtain ⟨B, c, rfl, hrd, _, hcn, _⟩ := Rd.of_own HO.out
      exact ⟨B, c, rfl, hrd, hbr, hcn⟩

set_option maxHeartbeats 1000000 in
theorem refPut_out (A : Option Addr) (len cap : Nat) (xs : List Int) (x n : Int) (w : World) (hr : Rd w A xs) (hl : xs.length = len) (hc : A = none → cap = 0) (hm : len ≤ 5100) (hn : ¬ (1 ≤ n ∧ n ≤ 8)) :
    Calls Tryz.prog 17 #[.slice A len cap, .int .u64 x, .int .i64 n] w fun e w' => ∃ B c, e = .returned (.slice B len c) ∧ Rd w' B xs ∧ Below w.heap.size w w' := by
  obtain ⟨i0, hi0, hz0, hz1, hz2⟩ := info_parts Tryz.infoByte
  have HR := Lib.hid hr; clear hr
  have HL := Lib.hid hl; clear hl
  have HC := Lib.hid hc; clear hc
  have J0 := Lib.hid hi0; clear hi0
  have J1 := Lib.hid hz0; clear hz0
  have J2 := Lib.hid hz1; clear hz1
  have J3 := Lib.hid hz2; clear hz2
  have hn2 : n < 1 ∨ 8 < n := by omega
  clear hn
  rcases hn2 with hn | hn
  all_goals
    go_enter Tryz.func17, Tryz.ntmps17
    go_wp2_with (at_builtin; refine wpl_append rfl (.tmp 9) (.tmp 10) 38 rfl w.heap.size 5 i0 Tryz.underlying38 J0.out J1.out J2.out J3.out _ 0 [] rfl (own_empty w) A len cap xs rfl (HR.out.alloc _) HL.out HC.out (by omega) (by simp) ?_; intro v1 w1 hown1 hg1; have HO1 := Lib.hid hown1; clear hown1)
    have hbel : Below w.heap.size w w1 := ((Below.refl _ _).alloc (Nat.le_refl _) _).grown hg1 (by simp) (own_block_ge (own_empty w))
    clear hg1
    go_ret
    obtain ⟨B, c, rfl, hrd, _, _⟩ := Rd.of_own HO1.out
    exact ⟨B, c, by simp, hrd, hbel⟩

/-- made, with spare room. -/
theorem run_made (len c : Nat) (i : TypeInfo) (hi : Tryz.prog.info? 5 = some i) (hz : i.zero = some (.int .u8 0)) (hs : i.size = 1) (hb : i.bytes = 1) (hlc : len ≤ c) (hc : c ≤ 1000000) (w : World) :
    (Instr.makeSlice 38 (.int .i64 (len : Int)) (.int .i64 (c : Int))).run Tryz.prog w = .ok (.slice (some ⟨w.heap.size, 0, none⟩) len c) (w.alloc (.cells (madeCells #[.int .u8 0] c) 5)) := by
  have h := run_make (P := Tryz.prog) w 38 5 i (.int .u8 0) Tryz.underlying38 hi hz .i64 .i64 len c (by omega) (by omega) (by rw [hb]; omega) (by omega)
  simpa [hs, Value.cells] using h
set_option maxHeartbeats 1000000 in
theorem put_in (A : Option Addr) (len cap : Nat) (xs : List Int) (x : Int) (n : Nat) (w : World) (hr : Rd w A xs) (hl : xs.length = len) (hm : len ≤ 5100) (h1 : 1 ≤ n) (h8 : n ≤ 8) :
    Calls Tryz.prog 37 #[.slice A len cap, .int .u64 x, .int .i64 n] w fun e w' => ∃ B c, e = .returned (.slice B (len + n) c) ∧ Rd w' B (xs ++ putB x n) ∧ Below w.heap.size w w' ∧ len + n ≤ c ∧ (B = none → c = 0) := by
  obtain ⟨i0, hi0, hz0, hz1, hz2⟩ := info_parts Tryz.infoByte
  have hmk := fun W => run_made len (len + n) i0 hi0 hz0 hz1 hz2 (by omega) (by omega) W
  have HR := Lib.hid hr; clear hr
  have HL := Lib.hid hl; clear hl
  have J0 := Lib.hid hi0; clear hi0
  have J1 := Lib.hid hz0; clear hz0
  have J2 := Lib.hid hz1; clear hz1
  have J3 := Lib.hid hz2; clear hz2
  have e1 : decide (1 ≤ (n : Int) ∧ (n : Int) ≤ 8) = true := by simp; omega
  have E1 := Lib.hid e1; clear e1
  have ec : ((len + n : Nat) : Int) = (len : Int) + (n : Int) := by omega
  rw [ec] at hmk; clear ec
  obtain ⟨w2, hcp, hown, hgr⟩ := run_copied (P := Tryz.prog) (w.alloc (.cells (madeCells #[.int .u8 0] (len + n)) 5)) 38 5 3 Tryz.underlying38 sizeByte w.heap.size w.heap.size len (len + n) _ (heap_alloc_new w _) (size_madeCells _ _) (by omega) (by simp only [maxLen]; omega) (Nat.le_refl _) A cap xs (HR.out.alloc _) HL.out
  have hbel : Below w.heap.size w w2 := ((Below.refl _ _).alloc (Nat.le_refl _) _).grown hgr (by simp) (fun k hk => by injection hk with hk; omega)
  clear hgr
  have HO1 := Lib.hid hown; clear hown
  have HBL := Lib.hid hbel; clear hbel
  go_enter Tryz.func37, Tryz.ntmps37
  go_wp2_with fail
  refine (count_any _ _).mono ?_
  rintro e w' ⟨rfl, rfl⟩
  rw [E1.out]
  go_wp2_with fail
  clear hcp hmk
  go_loopw [7, 23] (fun v i wr => ∃ k : Nat, k ≤ n ∧ i = .int .i64 k ∧ wr.ownsRow w.heap.size 5 1 v (len + k) (asBytes (xs ++ putB x k)) ∧ Below w.heap.size w wr) (fun _ i _ => n - (intOf i).toNat)
  case atStart => exact ⟨0, by omega, rfl, by simpa [putB] using HO1.out, HBL.out⟩
  case round =>
    obtain ⟨k, hk, rfl, hown, hbr⟩ := hrel
    clear HBL HO1
    have HO := Lib.hid hown; clear hown
    by_cases hlt : k < n
    · go_wp2_with (at_builtin; refine wpl_append rfl (.tmp 26) (.tmp 32) 38 rfl w.heap.size 5 i0 Tryz.underlying38 J0.out J1.out J2.out J3.out _ (len + k) (xs ++ putB x k) rfl (HO.out.alloc _) (some ⟨wr.heap.size, 0, none⟩) 1 1 [x / 2 ^ (8 * k) % 256] rfl (one_cell wr _) rfl (fun h => by cases h) (by omega) (by have := hbr.size; simp; omega) ?_; intro v2 w3 hown2 hg2)
      have hsz := hbr.size
      have hb2 : Below w.heap.size w w3 := (hbr.alloc hsz _).grown hg2 (by simp; omega) (own_block_ge HO.out)
      go_roundw
      case rel => exact ⟨k + 1, by omega, by go_num, by rw [putB_succ, ← List.append_assoc]; exact hown2, hb2⟩
      case measure => simp [intOf]; omega
    · obtain rfl : k = n := by omega
      go_wp2
      go_ret
      obtain ⟨B, c, rfl, hrd, _, hcn, hcc⟩ := Rd.of_own HO.out
      exact ⟨B, c, rfl, hrd, hbr, hcc, hcn⟩

set_option maxHeartbeats 1000000 in
theorem put_out (A : Option Addr) (len cap : Nat) (xs : List Int) (x n : Int) (w : World) (hr : Rd w A xs) (hl : xs.length = len) (hm : len ≤ 5100) (hn : ¬ (1 ≤ n ∧ n ≤ 8)) :
    Calls Tryz.prog 37 #[.slice A len cap, .int .u64 x, .int .i64 n] w fun e w' => ∃ B c, e = .returned (.slice B len c) ∧ Rd w' B xs ∧ Below w.heap.size w w' ∧ (B = none → c = 0) := by
  obtain ⟨i0, hi0, hz0, hz1, hz2⟩ := info_parts Tryz.infoByte
  have hmk := fun W => run_made len len i0 hi0 hz0 hz1 hz2 (by omega) (by omega) W
  have HR := Lib.hid hr; clear hr
  have HL := Lib.hid hl; clear hl
  clear hi0 hz0 hz1 hz2
  have e1 : decide (1 ≤ n ∧ n ≤ 8) = false := by simp only [decide_eq_false_iff_not]; exact hn
  have E1 := Lib.hid e1; clear e1 hn
  obtain ⟨w2, hcp, hown, hgr⟩ := run_copied (P := Tryz.prog) (w.alloc (.cells (madeCells #[.int .u8 0] len) 5)) 38 5 3 Tryz.underlying38 sizeByte w.heap.size w.heap.size len len _ (heap_alloc_new w _) (size_madeCells _ _) (by omega) (by simp only [maxLen]; omega) (Nat.le_refl _) A cap xs (HR.out.alloc _) HL.out
  have hbel : Below w.heap.size w w2 := ((Below.refl _ _).alloc (Nat.le_refl _) _).grown hgr (by simp) (fun k hk => by injection hk with hk; omega)
  clear hgr
  have HO1 := Lib.hid hown; clear hown
  have HBL := Lib.hid hbel; clear hbel
  go_enter Tryz.func37, Tryz.ntmps37
  go_wp2_with fail
  refine (count_any _ _).mono ?_
  rintro e w' ⟨rfl, rfl⟩
  rw [E1.out]
  go_wp2_with fail
  clear hcp hmk
  refine wp_loop_rounds 1 ?_
  rw [rounds_succ]
  go_wp2
  go_ret
  obtain ⟨B, c, hv, hrd, _, hcn, _⟩ := Rd.of_own HO1.out
  injection hv with h1 h2 h3
  subst h1 h3
  exact ⟨_, _, rfl, hrd, HBL.out, hcn⟩

/-- A new copy of a slice: what 'append' to an empty slice makes. -/
theorem clone_run (W : World) (A : Option Addr) (len cap : Nat) (xs : List Int) (hr : Rd W A xs) (hl : xs.length = len) (hc : A = none → cap = 0) (hm : len ≤ 5100) :
    ∃ B c w1, (Builtin.append_ #[38, 38] 38 #[.slice (some ⟨W.heap.size, 0, none⟩) 0 0, .slice A len cap]).run Tryz.prog (W.alloc (.cells #[] 5)) = .ok (.slice B len c) w1 ∧ Rd w1 B xs ∧ Below W.heap.size W w1 := by
  obtain ⟨i0, hi0, hz0, hz1, hz2⟩ := info_parts Tryz.infoByte
  obtain ⟨v', w', h1, h2, h3⟩ := run_appended (P := Tryz.prog) (W.alloc (.cells #[] 5)) 38 5 38 W.heap.size i0 Tryz.underlying38 hi0 hz0 hz1 hz2 _ 0 [] (own_empty W) A len cap xs (hr.alloc _) hl hc (by omega) (by simp)
  obtain ⟨B, c, rfl, hrd, _, _⟩ := Rd.of_own h2
  refine ⟨B, c, w', by simpa using h1, by simpa using hrd, ((Below.refl _ _).alloc (Nat.le_refl _) _).grown h3 (by simp) (own_block_ge (own_empty W))⟩

theorem putB_get (x : Int) (n k : Nat) (h : k < n) : (putB x n).getD k 0 = x / 2 ^ (8 * k) % 256 := by
  simp [putB, List.getElem?_range h]
theorem putB_bd (x : Int) (n k : Nat) : 0 ≤ (putB x n).getD k 0 ∧ (putB x n).getD k 0 ≤ 255 := by
  by_cases h : k < n
  · rw [putB_get x n k h]; omega
  · rw [List.getD_eq_getElem?_getD, List.getElem?_eq_none (by rw [putB_length]; omega)]; simp
end Go.Proofs.YtionnhjldcpmjaaGreatDoor
