/-
  What a form holds while it runs: its own instruction, its result, and what moves pieces.
-/
import Derived.Test.YtionnhjldcpmjaaGreatDoorPartsB
set_option linter.unusedVariables false
namespace Go.Proofs.YtionnhjldcpmjaaGreatDoor
open Go.RowKit
abbrev I7 (op rd r1 r2 im od sz : Int) : Array Value := #[.int .i64 op, .int .i64 rd, .int .i64 r1, .int .i64 r2, .int .i64 im, .int .i64 od, .int .i64 sz]

/-- Inside a form: its own instruction, its result, and the word that pieces are taken of. -/
structure FrT (w : World) (c s : Nat) (cs : Array Value) (w1 : World) : Prop where
  kp : Kp none w w1
  box : Has w1 w.heap.size 28 cs
  res : Has w1 (w.heap.size + 1) 28 (I7 0 0 0 0 0 0 0)
  mv : Has w1 c 40 #[.int .u32 s]
  lt : c < w.heap.size
theorem FrT.start {w : World} {c s : Nat} (cs : Array Value) (h : Has w c 40 #[.int .u32 s]) :
    FrT w c s cs ((w.alloc (.cells cs 28)).alloc (.cells (I7 0 0 0 0 0 0 0) 28)) :=
  ⟨((Kp.refl _ _).alloc _ _).alloc _ _, (Has.new _ _ _).alloc _, by have := Has.new (w.alloc (.cells cs 28)) (I7 0 0 0 0 0 0 0) 28; simpa using this, (h.alloc _).alloc _, h.lt⟩
theorem FrT.call {w w1 w2 : World} {c s : Nat} {cs : Array Value} (h : FrT w c s cs w1) (k : Kp none w1 w2) : FrT w c s cs w2 :=
  ⟨h.kp.trans k, h.box.kp k (by simp), h.res.kp k (by simp), h.mv.kp k (by simp), h.lt⟩
theorem FrT.set {w w1 : World} {c s : Nat} {cs : Array Value} (h : FrT w c s cs w1) (i : Nat) (u : Value) : FrT w c s (cs.setIfInBounds i u) (w1.setCell ⟨w.heap.size, i, none⟩ u) :=
  ⟨h.kp.setCell (Or.inl (Nat.le_refl _)) _, h.box.set i u, h.res.other (by show w.heap.size + 1 ≠ w.heap.size; omega) _, h.mv.other (by have := h.lt; show c ≠ w.heap.size; omega) _, h.lt⟩
/-- The cells of an instruction's block. -/
theorem Has.seven {w : World} {b : Nat} {op rd r1 r2 im od sz : Int} (h : Has w b 28 (I7 op rd r1 r2 im od sz)) :
    w.cell? ⟨b, 0, none⟩ = some (.int .i64 op) ∧ w.cell? ⟨b, 1, none⟩ = some (.int .i64 rd) ∧ w.cell? ⟨b, 2, none⟩ = some (.int .i64 r1) ∧ w.cell? ⟨b, 3, none⟩ = some (.int .i64 r2) ∧
    w.cell? ⟨b, 4, none⟩ = some (.int .i64 im) ∧ w.cell? ⟨b, 5, none⟩ = some (.int .i64 od) ∧ w.cell? ⟨b, 6, none⟩ = some (.int .i64 sz) :=
  ⟨h.cell 0, h.cell 1, h.cell 2, h.cell 3, h.cell 4, h.cell 5, h.cell 6⟩

theorem FrT.drew {w w1 : World} {c s : Nat} {cs : Array Value} (h : FrT w c s cs w1) : FrT w c s cs w1.drew := ⟨h.kp.drew, h.box, h.res, h.mv, h.lt⟩
theorem Has.seven_set {w : World} {b : Nat} (h : Has w b 28 (I7 0 0 0 0 0 0 0)) (v0 v1 v2 v3 v4 v5 v6 : Value) : Has (((((((w.setCell ⟨b, 0, none⟩ v0).setCell ⟨b, 1, none⟩ v1).setCell ⟨b, 2, none⟩ v2).setCell ⟨b, 3, none⟩ v3).setCell ⟨b, 4, none⟩ v4).setCell ⟨b, 5, none⟩ v5).setCell ⟨b, 6, none⟩ v6) b 28 #[v0, v1, v2, v3, v4, v5, v6] := by
  have := ((((((h.set 0 v0).set 1 v1).set 2 v2).set 3 v3).set 4 v4).set 5 v5).set 6 v6
  exact this
theorem Has.seven_other {w : World} {a b : Nat} {t : TypeId} {cs : Array Value} (h : Has w a t cs) (hn : a ≠ b) (v0 v1 v2 v3 v4 v5 v6 : Value) : Has (((((((w.setCell ⟨b, 0, none⟩ v0).setCell ⟨b, 1, none⟩ v1).setCell ⟨b, 2, none⟩ v2).setCell ⟨b, 3, none⟩ v3).setCell ⟨b, 4, none⟩ v4).setCell ⟨b, 5, none⟩ v5).setCell ⟨b, 6, none⟩ v6) a t cs :=
  ((((((h.other hn v0).other hn v1).other hn v2).other hn v3).other hn v4).other hn v5).other hn v6
theorem Kp.seven_set {o : Option Nat} {a w : World} (h : Kp o a w) {b : Nat} (hb : a.heap.size ≤ b) (v0 v1 v2 v3 v4 v5 v6 : Value) : Kp o a (((((((w.setCell ⟨b, 0, none⟩ v0).setCell ⟨b, 1, none⟩ v1).setCell ⟨b, 2, none⟩ v2).setCell ⟨b, 3, none⟩ v3).setCell ⟨b, 4, none⟩ v4).setCell ⟨b, 5, none⟩ v5).setCell ⟨b, 6, none⟩ v6) :=
  ((((((h.setCell (Or.inl hb) v0).setCell (Or.inl hb) v1).setCell (Or.inl hb) v2).setCell (Or.inl hb) v3).setCell (Or.inl hb) v4).setCell (Or.inl hb) v5).setCell (Or.inl hb) v6

/-- Inside a form that lays pieces into the word at block t. -/
structure FrL (w : World) (c t s : Nat) (cs : Array Value) (w1 : World) : Prop where
  kp : Kp (some t) w w1
  box : Has w1 w.heap.size 28 cs
  res : Has w1 (w.heap.size + 1) 28 (I7 0 0 0 0 0 0 0)
  cap : Has w1 c 86 #[.pointer (some ⟨t, 0, none⟩)]
  wd : Has w1 t 40 #[.int .u32 s]
  ltc : c < w.heap.size
  ltt : t < w.heap.size
  ne : c ≠ t
theorem FrL.start {w : World} {c t s : Nat} (cs : Array Value) (hct : c ≠ t) (hc : Has w c 86 #[.pointer (some ⟨t, 0, none⟩)]) (ht : Has w t 40 #[.int .u32 s]) :
    FrL w c t s cs ((w.alloc (.cells cs 28)).alloc (.cells (I7 0 0 0 0 0 0 0) 28)) :=
  ⟨((Kp.refl _ _).alloc _ _).alloc _ _, (Has.new _ _ _).alloc _, by have := Has.new (w.alloc (.cells cs 28)) (I7 0 0 0 0 0 0 0) 28; simpa using this, (hc.alloc _).alloc _, (ht.alloc _).alloc _, hc.lt, ht.lt, hct⟩
theorem FrL.call {w w1 w2 : World} {c t s s' : Nat} {cs : Array Value} (h : FrL w c t s cs w1) (k : Kp (some t) w1 w2) (h' : Has w2 t 40 #[.int .u32 s']) : FrL w c t s' cs w2 := by
  have h1 := h.ltt
  exact ⟨h.kp.trans k, h.box.kp k (by simp; omega), h.res.kp k (by simp; omega), h.cap.kp k (by simpa using h.ne), h', h.ltc, h.ltt, h.ne⟩
theorem FrL.set {w w1 : World} {c t s : Nat} {cs : Array Value} (h : FrL w c t s cs w1) (i : Nat) (u : Value) : FrL w c t s (cs.setIfInBounds i u) (w1.setCell ⟨w.heap.size, i, none⟩ u) :=
  ⟨h.kp.setCell (Or.inl (Nat.le_refl _)) _, h.box.set i u, h.res.other (by show w.heap.size + 1 ≠ w.heap.size; omega) _, h.cap.other (by have := h.ltc; show c ≠ w.heap.size; omega) _, h.wd.other (by have := h.ltt; show t ≠ w.heap.size; omega) _, h.ltc, h.ltt, h.ne⟩
theorem FrL.drew {w w1 : World} {c t s : Nat} {cs : Array Value} (h : FrL w c t s cs w1) : FrL w c t s cs w1.drew := ⟨h.kp.drew, h.box, h.res, h.cap, h.wd, h.ltc, h.ltt, h.ne⟩
end Go.Proofs.YtionnhjldcpmjaaGreatDoor
