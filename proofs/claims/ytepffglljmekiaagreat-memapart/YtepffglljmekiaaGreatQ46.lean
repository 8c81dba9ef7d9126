/-
  A space and the reference side by side: what each call leaves of both.
-/
import Derived.Test.YtepffglljmekiaaGreatQ45
set_option linter.unusedVariables false
set_option linter.unusedSimpArgs false
namespace Go.Proofs.YtepffglljmekiaaGreat
open Go.RowKit
set_option maxRecDepth 100000
/-- T and one block more. -/
def plus (T : Nat → Prop) (rb : Nat) : Nat → Prop := fun b => T b ∨ b = rb
/-- Where things lie: the space's blocks T1 among T, the reference's block, the call's own three. -/
structure Dis (T T1 : Nat → Prop) (rb ab : Nat) : Prop where
  nrb : ¬ T1 rb
  na : ¬ T1 ab
  na1 : ¬ T1 (ab + 1)
  na2 : ¬ T1 (ab + 2)
  lt : rb < ab
  sub : ∀ b, T1 b → T b
  new : ∀ b, ab + 3 ≤ b → T1 b
  old : ∀ b, ab ≤ b → T b
/-- The reference and the call's own blocks; what was there stays. -/
structure Loc (T : Nat → Prop) (w : World) (rb ab : Nat) (V : Array Value) (k1 x1 k2 x2 : Int) (W : World) : Prop where
  ra : ∃ b e, RA W rb b e
  box : W.heap[ab]? = some (.cells V 29 (0, 0))
  g : W.heap[ab + 1]? = some (.cells #[.int .i64 k1, .int .u64 x1] 50 (0, 0))
  h : W.heap[ab + 2]? = some (.cells #[.int .i64 k2, .int .u64 x2] 50 (0, 0))
  fr : Fr (plus T rb) w W
section
variable {T T1 : Nat → Prop} {w W W' : World} {rb ab : Nat} {V : Array Value} {k1 x1 k2 x2 : Int}
theorem Loc.size (l : Loc T w rb ab V k1 x1 k2 x2 W) : ab + 3 ≤ W.heap.size := by have := lt_at l.h; omega
theorem Loc.bl (l : Loc T w rb ab V k1 x1 k2 x2 W) (k : Bl W W') : Loc T w rb ab V k1 x1 k2 x2 W' := by
  obtain ⟨b, e, hr⟩ := l.ra
  exact ⟨⟨b, e, hr.bl k⟩, k.at_ l.box, k.at_ l.g, k.at_ l.h, l.fr.trans (Fr.of_bl k)⟩
theorem RA.fr {rb : Nat} {b e : Int} (h : RA W rb b e) {S : Nat → Prop} (k : Fr S W W') (hn : ¬ S rb) : RA W' rb b e := ⟨k.at_ h.blk hn, h.b0, h.b1, h.e0, h.e1⟩
theorem Loc.turn (d : Dis T T1 rb ab) (l : Loc T w rb ab V k1 x1 k2 x2 W) (k : Fr T1 W W') : Loc T w rb ab V k1 x1 k2 x2 W' := by
  obtain ⟨b, e, hr⟩ := l.ra
  exact ⟨⟨b, e, hr.fr k d.nrb⟩, k.at_ l.box d.na, k.at_ l.g d.na1, k.at_ l.h d.na2, l.fr.trans (k.mono fun b _ h => .inl (d.sub b h))⟩
theorem Loc.ref (d : Dis T T1 rb ab) (l : Loc T w rb ab V k1 x1 k2 x2 W) (r : ∃ b e, RA W' rb b e) (k : Fr (only rb) W W') : Loc T w rb ab V k1 x1 k2 x2 W' := by
  have hl := d.lt
  exact ⟨r, k.at_ l.box (fun e => by have : ab = rb := e; omega), k.at_ l.g (fun e => by have : ab + 1 = rb := e; omega), k.at_ l.h (fun e => by have : ab + 2 = rb := e; omega), l.fr.trans (k.mono fun b _ h => .inr h)⟩
theorem RA.setOther {rb : Nat} {b e : Int} (h : RA W rb b e) {p : Addr} (hp : p.block ≠ rb) (u : Value) : RA (W.setCell p u) rb b e :=
  h.fr (Fr.set (S := only p.block) (p := p) rfl u) (fun e => hp e.symm)
theorem Loc.setG (d : Dis T T1 rb ab) (l : Loc T w rb ab V k1 x1 k2 x2 W) (k x : Int) : Loc T w rb ab V k x k2 x2 ((W.setCell ⟨ab + 1, 0, none⟩ (.int .i64 k)).setCell ⟨ab + 1, 1, none⟩ (.int .u64 x)) := by
  have hl := d.lt
  obtain ⟨b, e, hr⟩ := l.ra
  refine ⟨⟨b, e, (hr.setOther (by simp; omega) _).setOther (by simp; omega) _⟩, ?_, set2 _ _ l.g, ?_, ?_⟩
  · rw [Below.heap_setCell _ _ _ _ (by simp), Below.heap_setCell _ _ _ _ (by simp)]; exact l.box
  · rw [Below.heap_setCell _ _ _ _ (by simp), Below.heap_setCell _ _ _ _ (by simp)]; exact l.h
  · exact (l.fr.trans (Fr.set (p := ⟨ab + 1, 0, none⟩) (.inl (d.old (ab + 1) (by omega))) _)).trans (Fr.set (p := ⟨ab + 1, 1, none⟩) (.inl (d.old (ab + 1) (by omega))) _)
theorem Loc.setH (d : Dis T T1 rb ab) (l : Loc T w rb ab V k1 x1 k2 x2 W) (k x : Int) : Loc T w rb ab V k1 x1 k x ((W.setCell ⟨ab + 2, 0, none⟩ (.int .i64 k)).setCell ⟨ab + 2, 1, none⟩ (.int .u64 x)) := by
  have hl := d.lt
  obtain ⟨b, e, hr⟩ := l.ra
  refine ⟨⟨b, e, (hr.setOther (by simp; omega) _).setOther (by simp; omega) _⟩, ?_, ?_, set2 _ _ l.h, ?_⟩
  · rw [Below.heap_setCell _ _ _ _ (by simp), Below.heap_setCell _ _ _ _ (by simp)]; exact l.box
  · rw [Below.heap_setCell _ _ _ _ (by simp), Below.heap_setCell _ _ _ _ (by simp)]; exact l.g
  · exact (l.fr.trans (Fr.set (p := ⟨ab + 2, 0, none⟩) (.inl (d.old (ab + 2) (by omega))) _)).trans (Fr.set (p := ⟨ab + 2, 1, none⟩) (.inl (d.old (ab + 2) (by omega))) _)
end
/-- What a call leaves of a space; of a quiet one (q), all stamps as they were. -/
def Left (T : Nat → Prop) (sb n : Nat) (L : List Rg) (M st : Nat → Int) (mo : Int) (q : Prop) (W : World) : Prop := ∃ L' M' st' ba' en', MS T W sb (n + 40000) L' M' st' mo ba' en' ∧ Step L L' M M' st st' ∧ (q → st' = st)
/-- Before the call, and behind it. -/
structure At (T T1 : Nat → Prop) (w : World) (sb n : Nat) (L : List Rg) (M st : Nat → Int) (mo ba en : Int) (rb ab : Nat) (V : Array Value) (W : World) : Prop where
  ms : MS T1 W sb n L M st mo ba en
  loc : Loc T w rb ab V 0 0 0 0 W
structure Aft (T T1 : Nat → Prop) (w : World) (sb n : Nat) (L : List Rg) (M st : Nat → Int) (mo : Int) (q : Prop) (rb ab : Nat) (V : Array Value) (k1 x1 k2 x2 : Int) (W : World) : Prop where
  left : Left T1 sb n L M st mo q W
  loc : Loc T w rb ab V k1 x1 k2 x2 W
section
variable {T T1 : Nat → Prop} {w W W' : World} {sb n : Nat} {L : List Rg} {M st : Nat → Int} {mo ba en : Int} {q : Prop} {rb ab : Nat} {V : Array Value} {k1 x1 k2 x2 : Int}
theorem At.bl (h : At T T1 w sb n L M st mo ba en rb ab V W) (k : Bl W W') : At T T1 w sb n L M st mo ba en rb ab V W' := ⟨h.ms.bl k, h.loc.bl k⟩
theorem At.new (d : Dis T T1 rb ab) (h : At T T1 w sb n L M st mo ba en rb ab V W) : ∀ b, W.heap.size ≤ b → T1 b := fun b hb => d.new b (Nat.le_trans h.loc.size hb)
theorem At.aft (h : At T T1 w sb n L M st mo ba en rb ab V W) (k : Bl W W') : Aft T T1 w sb n L M st mo q rb ab V 0 0 0 0 W' :=
  ⟨⟨L, M, st, ba, en, (h.ms.bl k).mono (by omega), Step.refl _ _ _, fun _ => rfl⟩, h.loc.bl k⟩
theorem At.turn (d : Dis T T1 rb ab) (h : At T T1 w sb n L M st mo ba en rb ab V W) (hq : ¬ q) (t : Turned T1 W sb n L M st mo W') : Aft T T1 w sb n L M st mo q rb ab V 0 0 0 0 W' := by
  obtain ⟨L', M', st', ba', en', e1, e2, e3⟩ := t
  exact ⟨⟨L', M', st', ba', en', e1, e2, fun h => absurd h hq⟩, h.loc.turn d e3⟩
theorem Aft.bl (h : Aft T T1 w sb n L M st mo q rb ab V k1 x1 k2 x2 W) (k : Bl W W') : Aft T T1 w sb n L M st mo q rb ab V k1 x1 k2 x2 W' := by
  obtain ⟨L', M', st', ba', en', e1, e2, e3⟩ := h.left
  exact ⟨⟨L', M', st', ba', en', e1.bl k, e2, e3⟩, h.loc.bl k⟩
theorem Aft.ref (d : Dis T T1 rb ab) (h : Aft T T1 w sb n L M st mo q rb ab V k1 x1 k2 x2 W) (r : ∃ b e, RA W' rb b e) (k : Fr (only rb) W W') : Aft T T1 w sb n L M st mo q rb ab V k1 x1 k2 x2 W' := by
  obtain ⟨L', M', st', ba', en', e1, e2, e3⟩ := h.left
  exact ⟨⟨L', M', st', ba', en', e1.kept k (fun b hb e => d.nrb (by have : b = rb := e; rwa [this] at hb)), e2, e3⟩, h.loc.ref d r k⟩
theorem Aft.setG (d : Dis T T1 rb ab) (h : Aft T T1 w sb n L M st mo q rb ab V k1 x1 k2 x2 W) (k x : Int) : Aft T T1 w sb n L M st mo q rb ab V k x k2 x2 ((W.setCell ⟨ab + 1, 0, none⟩ (.int .i64 k)).setCell ⟨ab + 1, 1, none⟩ (.int .u64 x)) := by
  obtain ⟨L', M', st', ba', en', e1, e2, e3⟩ := h.left
  have hd : ∀ b, T1 b → ¬ only (ab + 1) b := fun b hb e => d.na1 (by have : b = ab + 1 := e; rwa [this] at hb)
  exact ⟨⟨L', M', st', ba', en', (e1.kept (Fr.set (S := only (ab + 1)) (p := ⟨ab + 1, 0, none⟩) rfl _) hd).kept (Fr.set (S := only (ab + 1)) (p := ⟨ab + 1, 1, none⟩) rfl _) hd, e2, e3⟩, h.loc.setG d k x⟩
theorem Aft.setH (d : Dis T T1 rb ab) (h : Aft T T1 w sb n L M st mo q rb ab V k1 x1 k2 x2 W) (k x : Int) : Aft T T1 w sb n L M st mo q rb ab V k1 x1 k x ((W.setCell ⟨ab + 2, 0, none⟩ (.int .i64 k)).setCell ⟨ab + 2, 1, none⟩ (.int .u64 x)) := by
  obtain ⟨L', M', st', ba', en', e1, e2, e3⟩ := h.left
  have hd : ∀ b, T1 b → ¬ only (ab + 2) b := fun b hb e => d.na2 (by have : b = ab + 2 := e; rwa [this] at hb)
  exact ⟨⟨L', M', st', ba', en', (e1.kept (Fr.set (S := only (ab + 2)) (p := ⟨ab + 2, 0, none⟩) rfl _) hd).kept (Fr.set (S := only (ab + 2)) (p := ⟨ab + 2, 1, none⟩) rfl _) hd, e2, e3⟩, h.loc.setH d k x⟩
/-- The act's seven cells. -/
theorem Loc.cells {v0 v1 v2 v3 v4 v5 v6 : Value} (l : Loc T w rb ab #[v0, v1, v2, v3, v4, v5, v6] k1 x1 k2 x2 W) : W.cell? ⟨ab, 0, none⟩ = some v0 ∧ W.cell? ⟨ab, 1, none⟩ = some v1 ∧ W.cell? ⟨ab, 2, none⟩ = some v2 ∧ W.cell? ⟨ab, 3, none⟩ = some v3 ∧ W.cell? ⟨ab, 4, none⟩ = some v4 ∧ W.cell? ⟨ab, 5, none⟩ = some v5 ∧ W.cell? ⟨ab, 6, none⟩ = some v6 := by
  have := l.box
  refine ⟨?_, ?_, ?_, ?_, ?_, ?_, ?_⟩ <;> simp [World.cell?, this]
theorem Loc.faults (l : Loc T w rb ab V k1 x1 k2 x2 W) : W.cell? ⟨ab + 1, 0, none⟩ = some (.int .i64 k1) ∧ W.cell? ⟨ab + 1, 1, none⟩ = some (.int .u64 x1) ∧ W.cell? ⟨ab + 2, 0, none⟩ = some (.int .i64 k2) ∧ W.cell? ⟨ab + 2, 1, none⟩ = some (.int .u64 x2) ∧ W.frozen? ⟨ab + 1, 0, none⟩ = false ∧ W.frozen? ⟨ab + 1, 1, none⟩ = false ∧ W.frozen? ⟨ab + 2, 0, none⟩ = false ∧ W.frozen? ⟨ab + 2, 1, none⟩ = false := by
  have h1 := l.g
  have h2 := l.h
  refine ⟨?_, ?_, ?_, ?_, ?_, ?_, ?_, ?_⟩ <;> simp [World.cell?, World.frozen?, h1, h2]
theorem bMap (d : Dis T T1 rb ab) (h : At T T1 w sb n L M st mo ba en rb ab V W) (hq : ¬ q) (hn : n < 9000000) (a : Nat) (size p : Int) (fx : Bool) (ha : a < 2 ^ 64) (h0 : 0 ≤ size) :
    Calls Tryz.prog 16 #[addr0 sb, .int .u64 (a : Int), .int .u64 size, .int .i64 p, .bool fx] W fun e W' => (∃ x r, e = .returned (.tuple #[.int .u64 x, .int .i64 r]) ∧ Wd x) ∧ Aft T T1 w sb n L M st mo q rb ab V 0 0 0 0 W' := (map_turn h.ms a size p fx ha h0 (by omega) (h.new d)).mono fun e W' ⟨e1, t⟩ => ⟨e1, h.turn d hq t⟩
theorem bUnmap (d : Dis T T1 rb ab) (h : At T T1 w sb n L M st mo ba en rb ab V W) (hq : ¬ q) (hn : n < 9000000) (a : Nat) (size : Int) (ha : a < 2 ^ 64) :
    Calls Tryz.prog 27 #[addr0 sb, .int .u64 (a : Int), .int .u64 size] W fun e W' => (∃ r, e = .returned (.int .i64 r)) ∧ Aft T T1 w sb n L M st mo q rb ab V 0 0 0 0 W' := (unmap_turn h.ms a size ha (by omega) (h.new d)).mono fun e W' ⟨e1, t⟩ => ⟨e1, h.turn d hq t⟩
theorem bProtect (d : Dis T T1 rb ab) (h : At T T1 w sb n L M st mo ba en rb ab V W) (hq : ¬ q) (hn : n < 9000000) (a : Nat) (size p : Int) (ha : a < 2 ^ 64) :
    Calls Tryz.prog 28 #[addr0 sb, .int .u64 (a : Int), .int .u64 size, .int .i64 p] W fun e W' => (∃ r, e = .returned (.int .i64 r)) ∧ Aft T T1 w sb n L M st mo q rb ab V 0 0 0 0 W' := (protect_turn h.ms a size p ha (by omega) (h.new d)).mono fun e W' ⟨e1, t⟩ => ⟨e1, h.turn d hq t⟩
theorem bBrk (d : Dis T T1 rb ab) (h : At T T1 w sb n L M st mo ba en rb ab V W) (hq : ¬ q) (hn : n < 9000000) (a : Nat) :
    Calls Tryz.prog 26 #[addr0 sb, .int .u64 (a : Int)] W fun e W' => (∃ y, e = .returned (.int .u64 y) ∧ Wd y) ∧ Aft T T1 w sb n L M st mo q rb ab V 0 0 0 0 W' := (brk_turn h.ms (a : Int) (by omega) (by omega) (h.new d)).mono fun e W' ⟨e1, t⟩ => ⟨e1, h.turn d hq t⟩
theorem bSetBrk (d : Dis T T1 rb ab) (h : At T T1 w sb n L M st mo ba en rb ab V W) (hq : ¬ q) (hn : n < 9000000) (a : Nat) :
    Calls Tryz.prog 21 #[addr0 sb, .int .u64 (a : Int)] W fun e W' => e = .returned (.tuple #[]) ∧ Aft T T1 w sb n L M st mo q rb ab V 0 0 0 0 W' := (setbrk_turn h.ms (a : Int) (by omega)).mono fun e W' ⟨e1, t⟩ => ⟨e1, h.turn d hq t⟩
theorem bStore (d : Dis T T1 rb ab) (h : At T T1 w sb n L M st mo ba en rb ab V W) (hq : ¬ q) (hn : n < 9000000) (a : Nat) (m x : Int) (ha : a < 2 ^ 64) :
    Calls Tryz.prog 23 #[addr0 sb, .int .u64 (a : Int), .int .i64 m, .int .u64 x] W fun e W' => (∃ k y, e = .returned (faultV k y) ∧ Wd y) ∧ Aft T T1 w sb n L M st mo q rb ab V 0 0 0 0 W' := (store_turn h.ms a m x ha (by omega) (h.new d)).mono fun e W' ⟨e1, t⟩ => ⟨e1, h.turn d hq t⟩
theorem Turned.ungap {lo hi : Nat} (t : Turned (gap T1 lo hi) W sb n L M st mo W') : Turned T1 W sb n L M st mo W' := by
  obtain ⟨L', M', st', ba', en', e1, e2, e3⟩ := t
  exact ⟨L', M', st', ba', en', e1.ungap, e2, e3.ungap⟩
theorem bOut (d : Dis T T1 rb ab) {W0 : World} (h : At T T1 w sb n L M st mo ba en rb ab V W0) (k0 : Bl W0 W) (hq : ¬ q) (hn : n < 8000000) (a : Nat) (A : Option Addr) (len cap : Nat) (xs : List Int) (hr : Rd W A xs) (hl : xs.length = len) (hlc : len ≤ cap) (hb : ∀ k, 0 ≤ xs.getD k 0 ∧ xs.getD k 0 ≤ 255)
    (hA : ∀ ad, A = some ad → W0.heap.size ≤ ad.block ∧ ad.block < W.heap.size) (ha : a < 2 ^ 64) (hlen : len ≤ 6000) :
    Calls Tryz.prog 24 #[addr0 sb, .int .u64 (a : Int), .slice A len cap] W fun e W' => (∃ r, e = .returned (.int .i64 r)) ∧ Aft T T1 w sb n L M st mo q rb ab V 0 0 0 0 W' :=
  (out_turn (h.ms.gap k0 W0.heap.size W.heap.size (Nat.le_refl _)) a A len cap xs hr hl hlc hb (fun _ ad e t => t.2 (hA ad e)) ha hlen (by omega) (gap_new (h.new d) _ k0.size)).mono fun e W' ⟨e1, t⟩ => ⟨e1, (h.bl k0).turn d hq t.ungap⟩
theorem bPut (d : Dis T T1 rb ab) {W0 : World} (h : At T T1 w sb n L M st mo ba en rb ab V W0) (k0 : Bl W0 W) (hq : ¬ q) (hn : n < 8000000) (a : Nat) (A : Option Addr) (len cap : Nat) (xs : List Int) (hr : Rd W A xs) (hl : xs.length = len) (hlc : len ≤ cap) (hb : ∀ k, 0 ≤ xs.getD k 0 ∧ xs.getD k 0 ≤ 255)
    (hA : ∀ ad, A = some ad → W0.heap.size ≤ ad.block ∧ ad.block < W.heap.size) (ha : a < 2 ^ 64) (hlen : len ≤ 6000) :
    Calls Tryz.prog 22 #[addr0 sb, .int .u64 (a : Int), .slice A len cap] W fun e W' => e = .returned (.tuple #[]) ∧ Aft T T1 w sb n L M st mo q rb ab V 0 0 0 0 W' :=
  (put_turn (h.ms.gap k0 W0.heap.size W.heap.size (Nat.le_refl _)) a A len cap xs hr hl hlc hb (fun _ ad e t => t.2 (hA ad e)) ha hlen (by omega) (gap_new (h.new d) _ k0.size)).mono fun e W' ⟨e1, t⟩ => ⟨e1, (h.bl k0).turn d hq t.ungap⟩
theorem bLoad (h : At T T1 w sb n L M st mo ba en rb ab V W) (a : Nat) (m : Int) (ha : a < 2 ^ 64) :
    Calls Tryz.prog 17 #[addr0 sb, .int .u64 (a : Int), .int .i64 m] W fun e W' => (∃ y k x, e = .returned (.tuple #[.int .u64 y, faultV k x]) ∧ Wd y ∧ Wd x) ∧ Aft T T1 w sb n L M st mo q rb ab V 0 0 0 0 W' := (load_some h.ms a m ha).mono fun e W' ⟨y, k, x, e1, e2, e3, kk⟩ => ⟨⟨y, k, x, e1, e2 rfl, e3⟩, h.aft kk⟩
theorem bFetch (h : At T T1 w sb n L M st mo ba en rb ab V W) (a : Nat) (ha : a < 2 ^ 64) :
    Calls Tryz.prog 18 #[addr0 sb, .int .u64 (a : Int)] W fun e W' => (∃ y k x, e = .returned (.tuple #[.int .u32 y, faultV k x]) ∧ Wd x) ∧ Aft T T1 w sb n L M st mo q rb ab V 0 0 0 0 W' := (fetch_some h.ms a ha).mono fun e W' ⟨y, k, x, e1, e2, e3, kk⟩ => ⟨⟨y, k, x, e1, e3⟩, h.aft kk⟩
theorem bProbe (h : At T T1 w sb n L M st mo ba en rb ab V W) (a : Nat) (m : Int) (ha : a < 2 ^ 64) :
    Calls Tryz.prog 47 #[addr0 sb, .int .u64 (a : Int), .int .i64 m] W fun e W' => (∃ k x, e = .returned (faultV k x) ∧ Wd x) ∧ Aft T T1 w sb n L M st mo q rb ab V 0 0 0 0 W' := (probe_some h.ms a m (by omega) (by omega)).mono fun e W' ⟨k, x, e1, e3, kk⟩ => ⟨⟨k, x, e1, e3⟩, h.aft kk⟩
theorem bCheck (h : At T T1 w sb n L M st mo ba en rb ab V W) (a : Nat) (m p : Int) (ha : a < 2 ^ 64) :
    Calls Tryz.prog 25 #[addr0 sb, .int .u64 (a : Int), .int .i64 m, .int .i64 p] W fun e W' => (∃ r, e = .returned (.int .i64 r)) ∧ Aft T T1 w sb n L M st mo q rb ab V 0 0 0 0 W' := (mcheck_any h.ms a m p ha).mono fun e W' ⟨r, e1, e2, kk⟩ => ⟨⟨r, e1⟩, h.aft kk⟩
theorem bIn (h : At T T1 w sb n L M st mo ba en rb ab V W) (a : Nat) (m : Int) (ha : a < 2 ^ 64) :
    Calls Tryz.prog 19 #[addr0 sb, .int .u64 (a : Int), .int .i64 m] W fun e W' => (∃ A len cap r xs, e = .returned (.tuple #[.slice A len cap, .int .i64 r]) ∧ Rd W' A xs ∧ xs.length = len ∧ len ≤ 4194304 ∧ Plain A len cap) ∧ Aft T T1 w sb n L M st mo q rb ab V 0 0 0 0 W' := (min_any h.ms a m ha).mono fun e W' ⟨A, len, cap, r, xs, e1, e2, e3, e4, e5, e6, e7, e8, kk⟩ => ⟨⟨A, len, cap, r, xs, e1, e2, e3, e5, e7.elim (fun z => .inl z) (fun ⟨b, hb, _⟩ => .inr ⟨b, 0, hb⟩)⟩, h.aft kk⟩
theorem bText (h : At T T1 w sb n L M st mo ba en rb ab V W) (a : Nat) (m : Int) (ha : a < 2 ^ 64) (hm : m ≤ 10000) :
    Calls Tryz.prog 20 #[addr0 sb, .int .u64 (a : Int), .int .i64 m] W fun e W' => (∃ (s : ByteArray) (r : Int), e = .returned (.tuple #[.string s, .int .i64 r]) ∧ s.size ≤ 10000) ∧ Aft T T1 w sb n L M st mo q rb ab V 0 0 0 0 W' := (mtext_any h.ms a m ha hm).mono fun e W' ⟨e1, kk⟩ => ⟨e1, h.aft kk⟩
theorem qMap (d : Dis T T1 rb ab) (h : Aft T T1 w sb n L M st mo q rb ab V k1 x1 k2 x2 W) (a : Nat) (size p : Int) (fx : Bool) (ha : a < 2 ^ 64) (h0 : 0 ≤ size) :
    Calls Tryz.prog 34 #[addr0 rb, .int .u64 (a : Int), .int .u64 size, .int .i64 p, .bool fx] W fun e W' => (∃ r, e = .returned (.tuple #[.int .u64 0, .int .i64 r])) ∧ Aft T T1 w sb n L M st mo q rb ab V k1 x1 k2 x2 W' := by
  obtain ⟨b, en, hr⟩ := h.loc.ra
  exact (rmap_any hr a size p fx (by omega) (by omega) h0).mono fun e W' ⟨e1, k⟩ => ⟨e1, h.bl k⟩
theorem qUnmap (d : Dis T T1 rb ab) (h : Aft T T1 w sb n L M st mo q rb ab V k1 x1 k2 x2 W) (a : Nat) (size : Int) (ha : a < 2 ^ 64) (h0 : 0 ≤ size) :
    Calls Tryz.prog 35 #[addr0 rb, .int .u64 (a : Int), .int .u64 size] W fun e W' => (∃ r, e = .returned (.int .i64 r)) ∧ Aft T T1 w sb n L M st mo q rb ab V k1 x1 k2 x2 W' := by
  obtain ⟨b, en, hr⟩ := h.loc.ra
  exact (runmap_any hr a size (by omega) h0).mono fun e W' ⟨e1, r, k⟩ => ⟨e1, h.ref d ⟨_, _, r⟩ k⟩
theorem qProtect (d : Dis T T1 rb ab) (h : Aft T T1 w sb n L M st mo q rb ab V k1 x1 k2 x2 W) (a : Nat) (size p : Int) (ha : a < 2 ^ 64) (h0 : 0 ≤ size) :
    Calls Tryz.prog 36 #[addr0 rb, .int .u64 (a : Int), .int .u64 size, .int .i64 p] W fun e W' => (∃ r, e = .returned (.int .i64 r)) ∧ Aft T T1 w sb n L M st mo q rb ab V k1 x1 k2 x2 W' := by
  obtain ⟨b, en, hr⟩ := h.loc.ra
  exact (rprotect_any hr a size p (by omega) h0).mono fun e W' ⟨e1, k⟩ => ⟨e1, h.bl k⟩
theorem qBrk (d : Dis T T1 rb ab) (h : Aft T T1 w sb n L M st mo q rb ab V k1 x1 k2 x2 W) (a : Nat) (ha : a < 2 ^ 64) :
    Calls Tryz.prog 37 #[addr0 rb, .int .u64 (a : Int)] W fun e W' => (∃ y, e = .returned (.int .u64 y) ∧ Wd y) ∧ Aft T T1 w sb n L M st mo q rb ab V k1 x1 k2 x2 W' := by
  obtain ⟨b, en, hr⟩ := h.loc.ra
  exact (rbrk_any hr (a : Int) (by omega) (by omega)).mono fun e W' ⟨e1, r, k⟩ => ⟨e1, h.ref d r k⟩
theorem qSetBrk (d : Dis T T1 rb ab) (h : Aft T T1 w sb n L M st mo q rb ab V k1 x1 k2 x2 W) (a : Nat) (ha : a < 2 ^ 64) :
    Calls Tryz.prog 45 #[addr0 rb, .int .u64 (a : Int)] W fun e W' => e = .returned (.tuple #[]) ∧ Aft T T1 w sb n L M st mo q rb ab V k1 x1 k2 x2 W' := by
  obtain ⟨b, en, hr⟩ := h.loc.ra
  exact (rsetbrk_any hr (a : Int) (by omega)).mono fun e W' ⟨e1, r, k⟩ => ⟨e1, h.ref d r k⟩
theorem qStore (d : Dis T T1 rb ab) (h : Aft T T1 w sb n L M st mo q rb ab V k1 x1 k2 x2 W) (a : Nat) (m x : Int) (ha : a < 2 ^ 64) :
    Calls Tryz.prog 39 #[addr0 rb, .int .u64 (a : Int), .int .i64 m, .int .u64 x] W fun e W' => e = .returned (faultV 2 a) ∧ Aft T T1 w sb n L M st mo q rb ab V k1 x1 k2 x2 W' := by
  obtain ⟨b, en, hr⟩ := h.loc.ra
  exact (rstore_any hr (a : Int) m x (by omega) (by omega)).mono fun e W' ⟨e1, k⟩ => ⟨e1, h.bl k⟩
theorem qLoad (d : Dis T T1 rb ab) (h : Aft T T1 w sb n L M st mo q rb ab V k1 x1 k2 x2 W) (a : Nat) (m : Int) (ha : a < 2 ^ 64) :
    Calls Tryz.prog 38 #[addr0 rb, .int .u64 (a : Int), .int .i64 m] W fun e W' => e = .returned (.tuple #[.int .u64 0, faultV 1 a]) ∧ Aft T T1 w sb n L M st mo q rb ab V k1 x1 k2 x2 W' := by
  obtain ⟨b, en, hr⟩ := h.loc.ra
  exact (rload_any hr (a : Int) m (by omega) (by omega)).mono fun e W' ⟨e1, k⟩ => ⟨e1, h.bl k⟩
theorem qFetch (d : Dis T T1 rb ab) (h : Aft T T1 w sb n L M st mo q rb ab V k1 x1 k2 x2 W) (a : Nat) (ha : a < 2 ^ 64) :
    Calls Tryz.prog 40 #[addr0 rb, .int .u64 (a : Int)] W fun e W' => e = .returned (.tuple #[.int .u32 0, faultV 3 a]) ∧ Aft T T1 w sb n L M st mo q rb ab V k1 x1 k2 x2 W' := by
  obtain ⟨b, en, hr⟩ := h.loc.ra
  exact (rfetch_any hr (a : Int) (by omega) (by omega)).mono fun e W' ⟨e1, k⟩ => ⟨e1, h.bl k⟩
theorem qProbe (d : Dis T T1 rb ab) (h : Aft T T1 w sb n L M st mo q rb ab V k1 x1 k2 x2 W) (a : Nat) (m : Int) (ha : a < 2 ^ 64) :
    Calls Tryz.prog 48 #[addr0 rb, .int .u64 (a : Int), .int .i64 m] W fun e W' => e = .returned (faultV 2 a) ∧ Aft T T1 w sb n L M st mo q rb ab V k1 x1 k2 x2 W' := by
  obtain ⟨b, en, hr⟩ := h.loc.ra
  exact (rprobe_any hr (a : Int) m (by omega) (by omega)).mono fun e W' ⟨e1, k⟩ => ⟨e1, h.bl k⟩
theorem qCheck (d : Dis T T1 rb ab) (h : Aft T T1 w sb n L M st mo q rb ab V k1 x1 k2 x2 W) (a : Nat) (m p : Int) (ha : a < 2 ^ 64) :
    Calls Tryz.prog 46 #[addr0 rb, .int .u64 (a : Int), .int .i64 m, .int .i64 p] W fun e W' => (∃ r, e = .returned (.int .i64 r)) ∧ Aft T T1 w sb n L M st mo q rb ab V k1 x1 k2 x2 W' := by
  obtain ⟨b, en, hr⟩ := h.loc.ra
  exact (rcheck_any hr (a : Int) m p (by omega) (by omega)).mono fun e W' ⟨r, e1, _, k⟩ => ⟨⟨r, e1⟩, h.bl k⟩
theorem qIn (d : Dis T T1 rb ab) (h : Aft T T1 w sb n L M st mo q rb ab V k1 x1 k2 x2 W) (a : Nat) (m : Int) (ha : a < 2 ^ 64) :
    Calls Tryz.prog 41 #[addr0 rb, .int .u64 (a : Int), .int .i64 m] W fun e W' => (∃ r, e = .returned (.tuple #[.slice none 0 0, .int .i64 r])) ∧ Bl W W' ∧ Aft T T1 w sb n L M st mo q rb ab V k1 x1 k2 x2 W' := by
  obtain ⟨b, en, hr⟩ := h.loc.ra
  exact (rin_any hr (a : Int) m (by omega) (by omega)).mono fun e W' ⟨e1, k⟩ => ⟨e1, k, h.bl k⟩
theorem qText (d : Dis T T1 rb ab) (h : Aft T T1 w sb n L M st mo q rb ab V k1 x1 k2 x2 W) (a : Nat) (m : Int) (ha : a < 2 ^ 64) :
    Calls Tryz.prog 43 #[addr0 rb, .int .u64 (a : Int), .int .i64 m] W fun e W' => (∃ r, e = .returned (.tuple #[.string ⟨#[]⟩, .int .i64 r])) ∧ Aft T T1 w sb n L M st mo q rb ab V k1 x1 k2 x2 W' := by
  obtain ⟨b, en, hr⟩ := h.loc.ra
  exact (rtext_any hr (a : Int) m (by omega)).mono fun e W' ⟨e1, k⟩ => ⟨e1, h.bl k⟩
theorem qOut (d : Dis T T1 rb ab) (h : Aft T T1 w sb n L M st mo q rb ab V k1 x1 k2 x2 W) (a : Nat) (A : Option Addr) (len cap : Nat) (xs : List Int) (hrd : Rd W A xs) (hl : xs.length = len) (ha : a < 2 ^ 64) (hlen : len ≤ 6000) :
    Calls Tryz.prog 42 #[addr0 rb, .int .u64 (a : Int), .slice A len cap] W fun e W' => (∃ r, e = .returned (.int .i64 r)) ∧ Aft T T1 w sb n L M st mo q rb ab V k1 x1 k2 x2 W' := by
  obtain ⟨b, en, hr⟩ := h.loc.ra
  exact (rout_any hr (a : Int) A len cap xs hrd hl (by omega) (by omega) hlen).mono fun e W' ⟨e1, k⟩ => ⟨e1, h.bl k⟩
theorem qLays (d : Dis T T1 rb ab) (h : Aft T T1 w sb n L M st mo q rb ab V k1 x1 k2 x2 W) (a : Nat) (A : Option Addr) (len cap : Nat) (xs : List Int) (hrd : Rd W A xs) (hl : xs.length = len) (ha : a < 2 ^ 64) (hlen : len ≤ 6000) :
    Calls Tryz.prog 44 #[addr0 rb, .int .u64 (a : Int), .slice A len cap] W fun e W' => e = .returned (.tuple #[]) ∧ Aft T T1 w sb n L M st mo q rb ab V k1 x1 k2 x2 W' := by
  obtain ⟨b, en, hr⟩ := h.loc.ra
  exact (rlays_any hr (a : Int) A len cap xs hrd hl (by omega) (by omega) hlen).mono fun e W' ⟨e1, k⟩ => ⟨e1, h.bl k⟩
end
end Go.Proofs.YtepffglljmekiaaGreat
