/-
  A call of both.
-/
import Derived.Test.YtepffglljmekiaaGreatQ46
import Derived.Laws.IdiomStrings
import Derived.Deep.AppendLies
import Derived.Deep.CutRange
import Derived.Deep.CutBlock
set_option linter.unusedVariables false
set_option linter.unusedSimpArgs false
namespace Go.Proofs.YtepffglljmekiaaGreat
open Go.RowKit
set_option maxRecDepth 100000
/-- The calls that change no stamp. -/
def Quiet (d : Int) : Prop := d = 5 ∨ d = 7 ∨ d = 8 ∨ d = 10 ∨ d = 13 ∨ d = 14
/-- The bytes do not lie in the reference's block. -/
theorem bytes_apart {w : World} {A : Option Addr} {xs : List Int} {rb : Nat} {b e : Int} (h : Rd w A xs) (hr : RA w rb b e) (h0 : 0 < xs.length) : ∀ ad, A = some ad → ad.block ≠ rb := by
  rintro ad rfl e
  obtain ⟨b', o, e1, e2⟩ := h.at_ 0 h0
  injection e1 with e1
  subst e1
  have e3 : b' = rb := e
  subst e3
  have := hr.blk
  simp only [World.cell?, this] at e2
  rcases o with _ | _ | _ | _ | o <;> simp at e2
theorem dis_of {T : Nat → Prop} {w : World} {rb : Nat} (hT : ∀ b, w.heap.size ≤ b → T b) (hrb : ¬ T rb) : Dis T (gap T w.heap.size (w.heap.size + 3)) rb w.heap.size where
  nrb := fun h => hrb h.1
  na := fun h => h.2 ⟨by omega, by omega⟩
  na1 := fun h => h.2 ⟨by omega, by omega⟩
  na2 := fun h => h.2 ⟨by omega, by omega⟩
  lt := by
    rcases Nat.lt_or_ge rb w.heap.size with h | h
    · exact h
    · exact absurd (hT rb h) hrb
  sub := fun b h => h.1
  new := fun b hb => ⟨hT b (by omega), fun h => by omega⟩
  old := hT
/-- What the call has to tell. -/
structure Tells (W : World) (A : Option Addr) (l c : Nat) (x a : Int) : Prop where
  pl : Plain A l c
  rd : ∃ xs, Rd W A xs ∧ xs.length = l
  le : l ≤ 4194304
  wx : Wd x
  wa : Wd a
theorem Tells.none_ {W : World} {x a : Int} (h : Wd x) (k : Wd a) : Tells W none 0 0 x a := ⟨.inl ⟨rfl, rfl, rfl⟩, ⟨[], Rd.nil_, rfl⟩, by omega, h, k⟩
/-- An append whose run is known, at a step of a region that draws its order. -/
theorem step_append_run {P : Program} {w w1 : World} {ops : Array Oper} {o : Oper} {a : Act} {K : Act → World → Prop} {Q : Exit → Act → World → Prop} {E : Prop} (hgd : o.guard = none) (s x : Operand) (t : TypeId)
    (ho : o.op = .call { callee := .builtin .append, args := #[s, x], argTypes := #[t, t] }) (v vx v1 : Value) (hs : a.eval s = v) (hx : a.eval x = vx)
    (hrun : (Builtin.append_ #[t, t] o.type #[v, vx]).run P w = .ok v1 w1) (h : K (a.put o.dst v1) w1) :
    if Region.wanted o (yielded ops a.tmps) = true then Oper.wp P o a w K Q else E := by
  have hw : Region.wanted o (yielded ops a.tmps) = true := by simp [Region.wanted, hgd]
  rw [if_pos hw]
  unfold Oper.wp
  simp [execOp, ho, resolve, invoke, builtin, hs, hx, hrun, Result.andThen]
  exact h
/-- A new copy of a slice, and where it lies. -/
theorem clone2 (W : World) (A : Option Addr) (len cap : Nat) (xs : List Int) (hr : Rd W A xs) (hl : xs.length = len) (hc : A = none → cap = 0) (hm : len ≤ 6000) :
    ∃ B c w1, (Builtin.append_ #[27, 27] 27 #[.slice (some ⟨W.heap.size, 0, none⟩) 0 0, .slice A len cap]).run Tryz.prog (W.alloc (.cells #[] 5)) = .ok (.slice B len c) w1 ∧ Rd w1 B xs ∧ Bl W w1 ∧ len ≤ c ∧ (∀ ad, B = some ad → W.heap.size ≤ ad.block ∧ ad.block < w1.heap.size) := by
  obtain ⟨i0, hi0, hz0, hz1, hz2⟩ := info_parts infoByte
  obtain ⟨v', w', h1, h2, h3⟩ := run_appended (P := Tryz.prog) (W.alloc (.cells #[] 5)) 27 5 27 W.heap.size i0 Tryz.underlying27 hi0 hz0 hz1 hz2 _ 0 [] (own_empty W) A len cap xs (hr.alloc _) hl hc (by omega) (by simp)
  obtain ⟨B, c, rfl, hrd, _, hlc⟩ := Rd.of_own h2
  refine ⟨B, c, w', by simpa using h1, by simpa using hrd, ((Below.refl _ _).alloc (Nat.le_refl _) _).grown h3 (by simp) (own_block_ge (own_empty W)), by omega, fun ad e => ?_⟩
  rcases h2.2 with ⟨e2, _⟩ | ⟨g, cap2, cur, e2, h4, h5, _⟩
  · injection e2 with e2
    rw [e] at e2; cases e2
  · injection e2 with e2
    rw [e] at e2; injection e2 with e2
    subst e2
    exact ⟨h4, lt_at h5⟩
theorem conv_bytes (W : World) (s : ByteArray) : ∃ cap w', (convert 9 27 (.string s)).run Tryz.prog W = .ok (.slice (some ⟨W.heap.size, 0, none⟩) s.size cap) w' ∧ Bl W w' ∧ ∃ xs, Rd w' (some ⟨W.heap.size, 0, none⟩) xs ∧ xs.length = s.size := by
  refine ⟨_, _, run_bytes_of_string W 9 27 5 s Tryz.underlying9 Tryz.underlying27 Tryz.underlying5, (Bl.refl W).drew.alloc _, s.data.toList.map fun b => (b.toNat : Int), fun _ => ⟨_, rfl, fun i hi => ?_⟩, by simp⟩
  have hi2 : i < s.data.size := by simpa using hi
  have h1 : (Addr.add ⟨W.heap.size, 0, none⟩ i) = ⟨W.heap.size, i, none⟩ := by
    by_cases h : i = 0
    · subst h; rfl
    · simp [Addr.add, h]
  rw [h1]
  have h2 := World.cell?_alloc_mark W.drew (bytesRow s (grownCap W s.size 0 5)) 5 ((bytesRow s (grownCap W s.size 0 5)).size, (bytesRow s (grownCap W s.size 0 5)).size + 1) i
  rw [bytesRow_at s _ i hi2] at h2
  refine Eq.trans h2 ?_
  simp [List.getD, Array.getElem?_eq_getElem hi2]
theorem wrap_wd (x : Int) : Wd (IntKind.u64.wrap x) := by
  have := wrap_in x
  exact ⟨this.1, by omega⟩
theorem keepG {b : Nat} {k1 x1 k2 x2 : Int} {wc w1 w2 : World} (h : w1.cell? ⟨b + 1, 0, none⟩ = some (.int .i64 k1) ∧ w1.cell? ⟨b + 1, 1, none⟩ = some (.int .u64 x1) ∧ w1.cell? ⟨b + 2, 0, none⟩ = some (.int .i64 k2) ∧ w1.cell? ⟨b + 2, 1, none⟩ = some (.int .u64 x2) ∧ Bl wc w1) (k : Bl w1 w2) :
    w2.cell? ⟨b + 1, 0, none⟩ = some (.int .i64 k1) ∧ w2.cell? ⟨b + 1, 1, none⟩ = some (.int .u64 x1) ∧ w2.cell? ⟨b + 2, 0, none⟩ = some (.int .i64 k2) ∧ w2.cell? ⟨b + 2, 1, none⟩ = some (.int .u64 x2) ∧ Bl wc w2 :=
  ⟨k.cell' h.1, k.cell' h.2.1, k.cell' h.2.2.1, k.cell' h.2.2.2.1, h.2.2.2.2.trans k⟩
theorem blG {b : Nat} {k1 x1 k2 x2 : Int} {wc w1 : World} (h : w1.cell? ⟨b + 1, 0, none⟩ = some (.int .i64 k1) ∧ w1.cell? ⟨b + 1, 1, none⟩ = some (.int .u64 x1) ∧ w1.cell? ⟨b + 2, 0, none⟩ = some (.int .i64 k2) ∧ w1.cell? ⟨b + 2, 1, none⟩ = some (.int .u64 x2) ∧ Bl wc w1) : Bl wc w1 := h.2.2.2.2
theorem Left.bl_un {T : Nat → Prop} {lo hi sb n : Nat} {L : List Rg} {M st : Nat → Int} {mo : Int} {q : Prop} {W W' : World} (h : Left (gap T lo hi) sb n L M st mo q W) (k : Bl W W') : Left T sb n L M st mo q W' := by
  obtain ⟨L', M', st', ba', en', e1, e2, e3⟩ := h
  exact ⟨L', M', st', ba', en', e1.ungap.bl k, e2, e3⟩
/-- Behind the switch. -/
def SwR (T T1 : Nat → Prop) (w : World) (sb n : Nat) (L : List Rg) (M st : Nat → Int) (mo : Int) (q : Prop) (rb ab : Nat) (V : Array Value) (v10 v11 v12 v13 v14 v15 : Value) (W : World) : Prop :=
  ∃ A1 l1 d1 A2 l2 d2 x y e f k1 x1 k2 x2, v10 = .slice A1 l1 d1 ∧ v11 = .slice A2 l2 d2 ∧ v12 = .int .u64 x ∧ v13 = .int .u64 y ∧ v14 = .int .i64 e ∧ v15 = .int .i64 f ∧ Aft T T1 w sb n L M st mo q rb ab V k1 x1 k2 x2 W ∧ Tells W A1 l1 d1 x x1 ∧ Tells W A2 l2 d2 y x2
end Go.Proofs.YtepffglljmekiaaGreat
