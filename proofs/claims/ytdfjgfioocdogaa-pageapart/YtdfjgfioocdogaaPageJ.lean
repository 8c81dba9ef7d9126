/-
  Copy: a store of its own, with the same bytes.
-/
import Derived.Test.YtdfjgfioocdogaaPageI
import Derived.Deep.WholeRow
set_option linter.unusedVariables false
set_option linter.unusedSimpArgs false
namespace Go.Proofs.Ytdfjgfioocdogaa
open Go.RowKit
set_option maxRecDepth 100000
section
variable {P : Program} (w : World) {ops : Array Oper} {rest : List Oper} {o : Oper} {a : Act} {Q : Exit → Act → World → Prop}
theorem wpl_load_run (hg : o.guard = none) (x : Operand) (t : TypeId) (hop : o.op = Op.load t x) (vx v1 : Value) (hx : a.eval x = vx) (hrun : (Instr.loadAt t vx).run P w = .ok v1 w) (hK : wpList P ops Q rest (a.put o.dst v1) w) : wpList P ops Q (o :: rest) a w := by
  refine wpList_plain hg fun K' hK' => ?_
  unfold Oper.wp
  simp [execOp, hop, hx, hrun, Result.andThen]
  exact hK' _ _ hK
theorem wpl_store_run {w1 : World} (hg : o.guard = none) (x v : Operand) (t : TypeId) (hop : o.op = Op.store t x v) (vx vv : Value) (hx : a.eval x = vx) (hv : a.eval v = vv) (hrun : (Instr.storeAt t vx vv).run P w = .ok () w1) (hK : wpList P ops Q rest (a.put o.dst undef) w1) : wpList P ops Q (o :: rest) a w := by
  refine wpList_plain hg fun K' hK' => ?_
  unfold Oper.wp
  simp [execOp, hop, hx, hv, hrun, Result.andThen]
  exact hK' _ _ hK
end
theorem size53 : (Try.prog.info? 53).map (·.size) = some 4096 := by
  have := info53
  rcases h : Try.prog.info? 53 with _ | i
  · rw [h] at this; cases this
  · rw [h] at this; simp at this; simp [this.2]
theorem load53 {w : World} {b : Nat} {xs : List Int} (h : w.heap[b]? = some (.cells (asBytes xs).toArray 53 (0, 0))) (hl : xs.length = 4096) :
    (Instr.loadAt 53 (.pointer (some ⟨b, 0, none⟩))).run Try.prog w = .ok (.agg (asBytes xs).toArray) w := by
  simp only [Instr.loadAt, Instr.sureAddr, Sem.run_bind, Sem.run_pure, Result.andThen]
  rw [run_loadVar_row (P := Try.prog) w b 53 53 _ (0, 0) _ h Try.underlying53 rfl (by rw [size53, List.size_toArray, asBytes_length, hl])]
theorem store53 (w : World) (xs : List Int) (hl : xs.length = 4096) :
    (Instr.storeAt 53 (.pointer (some ⟨w.heap.size, 0, none⟩)) (.agg (asBytes xs).toArray)).run Try.prog (w.alloc (.cells zeros 53)) = .ok () (w.alloc (.cells (asBytes xs).toArray 53)) :=
  run_storeAt_new (P := Try.prog) w 53 zeros _ (by rw [size53, List.size_toArray, asBytes_length, hl]) (by simp [zeros, asBytes_length, hl]) (by
    rw [Array.all_eq_true_iff_forall_mem]
    intro v hv
    exact bytes_one xs v (by simpa using hv))
theorem make39 (w : World) (x : Int) : (Instr.makeMap 39 (some (.int .i64 x))).run Try.prog w = .ok (.map (some w.heap.size)) (w.alloc (.map #[] 0)) := by
  simp [Instr.makeMap, run_underlying Try.underlying39, asInt, asIntOf, Result.andThen]
/-- maps.Clone, of a map and of none. -/
theorem clone_some (b : Nat) (es : Array MapEntry) (clock : Nat) (w : World) (hb : w.heap[b]? = some (.map es clock)) : Calls Try.prog 28 #[.map (some b)] w fun e w' => e = .returned (.map (some w.heap.size)) ∧ w' = w.alloc (.map es clock) := by
  have hq := fun w => eq40 w (some b)
  go_enter Try.func28, Try.ntmps28
  go_wp2
  rw [run_callFunc_extern Try.func29 (by kernel_rfl) (by kernel_rfl) (by kernel_rfl) (e := Extern.MapsClone.clone) (by kernel_rfl), run_maps_clone_sl w 40 hb]
  simp only [Result.andThen]
  rw [Oper.upon_value]
  go_wp2
  rw [run_typeAssert_map_sl _ 40 20 _ _ _ Try.underlying40]
  simp only [Result.andThen]
  rw [Oper.upon_value]
  go_wp2
  go_ret
  exact ⟨rfl, rfl⟩
theorem clone_none (w : World) : Calls Try.prog 28 #[.map none] w fun e w' => e = .returned (.map none) ∧ w' = w := by
  have hq := fun w => eq40 w none
  go_enter Try.func28, Try.ntmps28
  go_wp2
  go_ret
  exact ⟨rfl, rfl⟩
theorem clone_any {S : Nat → Prop} {w : World} {sm : Value} {n : Nat} (h : SMV S w sm n) : Calls Try.prog 28 #[sm] w fun e w' => ∃ y : Option Nat, e = .returned (.map y) ∧ SMV (fun b => w.heap.size ≤ b) w' (.map y) n ∧ Bl w w' := by
  rcases h with rfl | ⟨B, D, rfl, _, es, q, hb, F, hs, hD⟩
  · refine (clone_none w).mono ?_
    rintro e w' ⟨rfl, rfl⟩
    exact ⟨none, rfl, .inl rfl, Bl.refl _⟩
  · refine (clone_some B es q w hb).mono ?_
    rintro e w' ⟨rfl, rfl⟩
    exact ⟨some w.heap.size, rfl, .inr ⟨w.heap.size, D, rfl, Nat.le_refl _, es, q, heap_alloc_new w _, F, hs, hD⟩, Bl.new _ _⟩

/-- Where a Copy stands: the pages that have come are there once more. -/
structure CP (w wr : World) (g n2 : Nat) (f f2 : Nat → Option Nat) (k2 : Nat) (M : Nat → Int) (left : Lit → Bool) : Prop where
  bl : Bl w wr
  ge : w.heap.size ≤ g
  pm : PM wr g n2 f2 k2
  at_ : ∀ p b, f2 p = some b → w.heap.size ≤ b ∧ wr.heap[b]? = some (.cells (asBytes (pageOf M p)).toArray 53 (0, 0))
  inj : ∀ p q b, f2 p = some b → f2 q = some b → p = q
  dom : ∀ p, p < 2 ^ 64 → (f2 p).isSome = ((f p).isSome && !left (key p))
  far : ∀ p b, f2 p = some b → p < 67108864
theorem CP.kept {w wr w' : World} {g n2 k2 : Nat} {f f2 : Nat → Option Nat} {M : Nat → Int} {left : Lit → Bool} (h : CP w wr g n2 f f2 k2 M left) {r : Nat} (hg : wr.grownBy w' (some r)) (hr : w.heap.size ≤ r) (hit : ∃ mp since seen c0, wr.heap[r]? = some (.mapIter mp since seen c0)) : CP w w' g n2 f f2 k2 M left := by
  obtain ⟨mp, since, seen, c0, hit⟩ := hit
  have other : ∀ x o, wr.heap[x]? = some o → x ≠ r → w'.heap[x]? = some o := fun x o hx hne => by
    rw [hg.block x (lt_at hx) (fun e => hne (by injection e))]; exact hx
  obtain ⟨es, q, hmap⟩ := h.pm.isMap
  refine ⟨h.bl.grown hg h.bl.size (fun k hk => by cases hk; exact hr), h.ge, h.pm.of_block ?_, fun p b hb => ⟨(h.at_ p b hb).1, other _ _ (h.at_ p b hb).2 (fun e => ?_)⟩, h.inj, h.dom, h.far⟩
  · rw [other g _ hmap (fun e => by rw [e, hit] at hmap; cases hmap), hmap]
  · have := (h.at_ p b hb).2; rw [e, hit] at this; cases this
/-- One page more. -/
theorem CP.step {w wr : World} {g n2 k2 : Nat} {f f2 : Nat → Option Nat} {M : Nat → Int} {left : Lit → Bool} (h : CP w wr g n2 f f2 k2 M left) {p b : Nat} (hp : p < 67108864) (hf : f p = some b) (hl : left (key p) = true) (hn : n2 < 100000000) :
    ∃ w' k', (Instr.mapUpdate 39 (.map (some g)) (.int .u64 (p : Int)) (.pointer (some ⟨wr.heap.size, 0, none⟩))).run Try.prog (wr.alloc (.cells (asBytes (pageOf M p)).toArray 53)) = .ok () w' ∧
      CP w w' g (n2 + 1) f (put1 f2 p (some wr.heap.size)) k' M (fun z => left z && !z.sameKey (key p)) ∧ (wr.alloc (.cells (asBytes (pageOf M p)).toArray 53)).mapTurned w' g := by
  have hbl := Bl.new wr (.cells (asBytes (pageOf M p)).toArray 53)
  have hpm := h.pm.of_block (hbl.block g h.pm.lt)
  obtain ⟨w', hrun, hput, ht⟩ := hpm.put (show p < 2 ^ 64 by omega) (by simp only [maxLen]; omega) wr.heap.size
  have hg := ht.grown
  obtain ⟨es, q, hmap⟩ := hpm.isMap
  have hcell : ∀ (x : Nat) (cs : Array Value) (t : TypeId) (fr : Nat × Nat), (wr.alloc (.cells (asBytes (pageOf M p)).toArray 53)).heap[x]? = some (.cells cs t fr) → w'.heap[x]? = some (.cells cs t fr) := fun x cs t fr hx => by
    rw [hg.block x (lt_at hx) (fun e => by injection e with e; rw [e, hmap] at hx; cases hx)]; exact hx
  have hge := h.ge
  have hsz := h.bl.size
  refine ⟨w', _, hrun, ⟨(h.bl.alloc _).grown hg (by simp; omega) (fun k hk => by cases hk; exact hge), hge, hput, fun q' b' hb' => ?_, fun q1 q2 b' h1 h2 => ?_, fun q' hq' => ?_, fun q' b' hb' => ?_⟩, ht⟩
  · by_cases e : q' = p
    · subst e; rw [put1_same] at hb'; cases hb'
      exact ⟨hsz, hcell _ _ _ _ (heap_alloc_new wr _)⟩
    · rw [put1_other _ _ _ e] at hb'
      exact ⟨(h.at_ q' b' hb').1, hcell _ _ _ _ (hbl.at_ (h.at_ q' b' hb').2)⟩
  · by_cases e1 : q1 = p
    · by_cases e2 : q2 = p
      · rw [e1, e2]
      · subst e1; rw [put1_same] at h1; rw [put1_other _ _ _ e2] at h2
        cases h1
        have := lt_at (h.at_ q2 _ h2).2
        omega
    · by_cases e2 : q2 = p
      · subst e2; rw [put1_same] at h2; rw [put1_other _ _ _ e1] at h1
        cases h2
        have := lt_at (h.at_ q1 _ h1).2
        omega
      · rw [put1_other _ _ _ e1] at h1; rw [put1_other _ _ _ e2] at h2
        exact h.inj q1 q2 b' h1 h2
  · by_cases e : q' = p
    · subst e
      rw [put1_same, hf]
      simp [key, Lit.sameKey]
    · rw [put1_other _ _ _ e, h.dom q' hq', Maps.sameKey_ne (key_ne e)]
      simp
  · by_cases e : q' = p
    · omega
    · rw [put1_other _ _ _ e] at hb'; exact h.far q' b' hb'
end Go.Proofs.Ytdfjgfioocdogaa
