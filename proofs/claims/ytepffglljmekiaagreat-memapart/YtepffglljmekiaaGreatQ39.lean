/-
  What a law notes of a space: rows of numbers, of slices of bytes; and slices that differ.
-/
import Derived.Test.YtepffglljmekiaaGreatQ34
import Derived.Test.YtepffglljmekiaaGreatQ32
import Derived.Test.YtepffglljmekiaaGreatQ38
import Derived.Deep.QuietTactic
import Derived.BigQuiet
import Derived.Maps.AppendAt
set_option linter.unusedVariables false
set_option linter.unusedSimpArgs false
namespace Go.Proofs.YtepffglljmekiaaGreat
open Go.RowKit
set_option maxRecDepth 100000
theorem drewN_two (w : World) (m n : Nat) : ∃ k, (w.drewN m).drewN n = w.drewN k := by
  first
    | exact ⟨m + n, by simp⟩
    | exact ⟨m + n, by simp [World.drewN, Nat.add_assoc]⟩
set_option maxHeartbeats 1000000 in
theorem sameB_no (A B : Option Addr) (len cap cap' : Nat) (xs ys : List Int) (w : World) (hr : Rd w A xs) (hr' : Rd w B ys) (hl : xs.length = len) (hl' : ys.length = len) (hm : len ≤ 100000) (hne : xs ≠ ys) :
    Calls Tryz.prog 12 #[.slice A len cap, .slice B len cap'] w fun e w' => e = .returned (.bool false) ∧ ∃ m, w' = w.drewN m := by
  have HR := Lib.hid hr; clear hr
  have HR' := Lib.hid hr'; clear hr'
  have HL := Lib.hid hl; clear hl
  have HL' := Lib.hid hl'; clear hl'
  have HNE : Hid (¬ xs = ys) := Lib.hid hne; clear hne
  go_enter Tryz.func12, Tryz.ntmps12
  go_wp2
  go_loopw [5] (fun i wr => ∃ k m : Nat, k ≤ len ∧ i = .int .i64 k ∧ wr = w.drewN m ∧ xs.take k = ys.take k) (fun i _ => len - (intOf i).toNat)
  case atStart => exact ⟨0, 0, by omega, rfl, rfl, rfl⟩
  case round =>
    obtain ⟨k, m, hk, rfl, rfl, heq⟩ := hrel
    by_cases hlt : k < len
    · obtain ⟨b, off, hA, hcell⟩ := HR.out.at_ k (by rw [HL.out]; omega)
      subst hA
      obtain ⟨b', off', hA, hcell'⟩ := HR'.out.at_ k (by rw [HL'.out]; omega)
      subst hA
      have hx : xs[k]? = some (xs.getD k 0) := by rw [List.getD_eq_getElem?_getD, List.getElem?_eq_getElem (by rw [HL.out]; exact hlt)]; rfl
      have hy : ys[k]? = some (ys.getD k 0) := by rw [List.getD_eq_getElem?_getD, List.getElem?_eq_getElem (by rw [HL'.out]; exact hlt)]; rfl
      have hs : xs.getD k 0 = ys.getD k 0 → xs.take (k + 1) = ys.take (k + 1) := fun e => by
        rw [List.take_add_one, List.take_add_one, heq, hx, hy, e]
      have HS := Lib.hid hs
      clear hx hy hs heq
      generalize xs.getD k 0 = x at *
      generalize ys.getD k 0 = y at *
      have hin : (k : Int) < (len : Int) := by omega
      by_cases hxy : x = y
      · subst hxy
        have HT := Lib.hid (HS.out rfl)
        clear HS
        go_wp2
        go_quiet (fail)
        go_wp2
        go_roundw
        case rel => exact ⟨k + 1, m + nq, by omega, by go_num, rfl, HT.out⟩
        case measure => simp [intOf]; omega
      · have t1 : (x != y) = true := by simp [hxy]
        have t2 : (x == y) = false := by simp [hxy]
        clear HS hxy
        go_wp2
        go_quiet (fail)
        go_wp2
        go_ret
        exact ⟨rfl, drewN_two w m nq⟩
    · obtain rfl : k = len := by omega
      exfalso
      apply HNE.out
      rw [List.take_of_length_le (by rw [HL.out]; omega), List.take_of_length_le (by rw [HL'.out]; omega)] at heq
      exact heq
/-- All blocks of cells but those of type t are as they were. -/
def KeepNot (t : TypeId) (w w' : World) : Prop := w.heap.size ≤ w'.heap.size ∧ ∀ (g : Nat) (cur : Array Value) (u : TypeId), w.heap[g]? = some (Obj.cells cur u (0, 0)) → u ≠ t → w'.heap[g]? = some (Obj.cells cur u (0, 0))
theorem own_type {w : World} {base t n : Nat} {v : Value} {xs : List Value} (h : w.ownsRow base t 1 v n xs) : ∀ g, v.ownBlock = some g → ∃ cur, w.heap[g]? = some (.cells cur t (0, 0)) := by
  intro g hg
  rcases h.2 with ⟨rfl, _⟩ | ⟨g', cap, cur, rfl, h1, h2, h3⟩
  · cases hg
  · simp only [Value.ownBlock, Option.some.injEq] at hg
    subst hg
    exact ⟨cur, h2⟩
theorem keepNot_grown {w w' : World} {base t n : Nat} {v : Value} {xs : List Value} (h : w.ownsRow base t 1 v n xs) (hg : w.grownBy w' v.ownBlock) : KeepNot t w w' :=
  ⟨hg.size, fun g cur u hb hu => by
    rw [hg.block g (lt_at hb) (fun e => by
      obtain ⟨cur2, h2⟩ := own_type h g e.symm
      rw [hb] at h2
      exact hu (cells_ty h2))]
    exact hb⟩
theorem keepNot_bl {w w' : World} {t : TypeId} (k : Bl w w') : KeepNot t w w' := ⟨k.size, fun g cur u hb _ => k.at_ hb⟩
/-- A row of one cell each stays where blocks of its type stay. -/
theorem own_stay {w w' : World} {base t n : Nat} {v : Value} {xs : List Value} (h : w.ownsRow base t 1 v n xs) (hk : ∀ g cur, base ≤ g → w.heap[g]? = some (.cells cur t (0, 0)) → w'.heap[g]? = some (.cells cur t (0, 0))) : w'.ownsRow base t 1 v n xs := by
  refine ⟨h.1, ?_⟩
  rcases h.2 with h2 | ⟨g, cap, cur, h1, h2, h3, h4⟩
  · exact .inl h2
  · exact .inr ⟨g, cap, cur, h1, h2, hk g cur h2 h3, h4⟩
/-- One more behind a row of one cell each. -/
theorem own_push {ts t : TypeId} {z : Value} {bytes : Nat} (ht : Tryz.prog.underlying ts = some (.slice t)) (hi : (Tryz.prog.info? t).map (fun i => (i.zero, i.size, i.bytes)) = some (some z, 1, bytes)) (hb1 : bytes ≤ 1000) (hzs : z.cells.size = 1)
    {W : World} {base n : Nat} {v : Value} {xs : List Value} (h : W.ownsRow base t 1 v n xs) (x : Value) (hx : x.oneCell' = true) (g : Nat) (hg : W.cell? ⟨g, 0, none⟩ = some x) (hn : n ≤ 1000) (hbase : base ≤ W.heap.size) :
    ∃ v' W', (Builtin.append_ #[ts, ts] ts #[v, .slice (some ⟨g, 0, none⟩) 1 1]).run Tryz.prog W = .ok v' W' ∧ W'.ownsRow base t 1 v' (n + 1) (xs ++ [x]) ∧ W.grownBy W' v.ownBlock := by
  obtain ⟨i0, hi0, hz0, hz1, hz2⟩ := info_parts hi
  obtain ⟨v', w', h1, h2, h3, _, _⟩ := run_append_own_at (P := Tryz.prog) W base ts ts t i0 z 1 bytes ht hi0 hz0 hz1 hz2 hzs (by omega) v n xs h ⟨g, 0, none⟩ 1 1 [x] rfl (fun j u hj => by
    rcases j with _ | j
    · simp only [List.getElem?_cons_zero, Option.some.injEq] at hj
      subst hj
      exact hg
    · simp at hj) (fun u hu => by simp only [List.mem_singleton] at hu; subst hu; exact hx) (by simp only [maxLen]; omega) (Nat.le_trans (Nat.mul_le_mul (show n + 1 ≤ 1001 by omega) hb1) (by decide)) hbase
  exact ⟨v', w', h1, h2, h3⟩
theorem infoU64 : (Tryz.prog.info? 26).map (fun i => (i.zero, i.size, i.bytes)) = some (some (.int .u64 0), 1, 8) := by kernel_rfl
theorem infoInt : (Tryz.prog.info? 3).map (fun i => (i.zero, i.size, i.bytes)) = some (some (.int .i64 0), 1, 8) := by kernel_rfl
theorem infoSl : (Tryz.prog.info? 27).map (fun i => (i.zero, i.size, i.bytes)) = some (some (.slice none 0 0), 1, 24) := by kernel_rfl
/-- The stamps of the first p pages, noted. -/
def SnS (st : Nat → Int) (base p : Nat) (v : Value) (W : World) : Prop := ∃ xs, W.ownsRow base 26 1 v p xs ∧ ∀ j, j < p → xs[j]? = some (.int .u64 (st j))
/-- The bytes of the first p pages. -/
def SnB (M : Nat → Int) (base p : Nat) (v : Value) (W : World) : Prop := ∃ xs, W.ownsRow base 27 1 v p xs ∧ ∀ j, j < p → ∃ g, xs[j]? = some (.slice (some ⟨g, 0, none⟩) 4096 4096) ∧ base ≤ g ∧ W.heap[g]? = some (.cells (asBytes (bytesAt M (j * 4096) 4096)).toArray 5 (0, 0))
/-- Their prots. -/
def SnP (L : List Rg) (base p : Nat) (v : Value) (W : World) : Prop := ∃ xs, W.ownsRow base 3 1 v p xs ∧ ∀ j, j < p → ∃ q, xs[j]? = some (.int .i64 q) ∧ ProtIs L ((j : Int) * 4096) q
section
variable {st M : Nat → Int} {L : List Rg} {base p : Nat} {v : Value} {W W' : World}
theorem SnS.nil : SnS st base 0 (.slice none 0 0) W := ⟨[], World.ownsRow_nil _ _ _ _, fun j h => by omega⟩
theorem SnB.nil : SnB M base 0 (.slice none 0 0) W := ⟨[], World.ownsRow_nil _ _ _ _, fun j h => by omega⟩
theorem SnP.nil : SnP L base 0 (.slice none 0 0) W := ⟨[], World.ownsRow_nil _ _ _ _, fun j h => by omega⟩
/-- They stay where the blocks of these types stay. -/
def Stays (base : Nat) (W W' : World) : Prop := ∀ (g : Nat) (cur : Array Value) (u : TypeId), base ≤ g → (u = 26 ∨ u = 27 ∨ u = 3 ∨ u = 5) → W.heap[g]? = some (.cells cur u (0, 0)) → W'.heap[g]? = some (.cells cur u (0, 0))
theorem Stays.bl (k : Bl W W') : Stays base W W' := fun g cur u _ _ h => k.at_ h
theorem SnS.stay (h : SnS st base p v W) (k : Stays base W W') : SnS st base p v W' := by
  obtain ⟨xs, h1, h2⟩ := h
  exact ⟨xs, own_stay h1 fun g cur hg hb => k g cur _ hg (.inl rfl) hb, h2⟩
theorem SnB.stay (h : SnB M base p v W) (k : Stays base W W') : SnB M base p v W' := by
  obtain ⟨xs, h1, h2⟩ := h
  refine ⟨xs, own_stay h1 fun g cur hg hb => k g cur _ hg (.inr (.inl rfl)) hb, fun j hj => ?_⟩
  obtain ⟨g, g1, g2, g3⟩ := h2 j hj
  exact ⟨g, g1, g2, k g _ _ g2 (.inr (.inr (.inr rfl))) g3⟩
theorem SnP.stay (h : SnP L base p v W) (k : Stays base W W') : SnP L base p v W' := by
  obtain ⟨xs, h1, h2⟩ := h
  exact ⟨xs, own_stay h1 fun g cur hg hb => k g cur _ hg (.inr (.inr (.inl rfl))) hb, h2⟩
theorem SnS.not (h : SnS st base p v W) {t : TypeId} (k : KeepNot t W W') (ht : 26 ≠ t) : SnS st base p v W' := by
  obtain ⟨xs, h1, h2⟩ := h
  exact ⟨xs, own_stay h1 fun g cur hg hb => k.2 g cur _ hb ht, h2⟩
theorem SnB.not (h : SnB M base p v W) {t : TypeId} (k : KeepNot t W W') (ht : 27 ≠ t) (ht2 : 5 ≠ t) : SnB M base p v W' := by
  obtain ⟨xs, h1, h2⟩ := h
  refine ⟨xs, own_stay h1 fun g cur hg hb => k.2 g cur _ hb ht, fun j hj => ?_⟩
  obtain ⟨g, g1, g2, g3⟩ := h2 j hj
  exact ⟨g, g1, g2, k.2 g _ _ g3 ht2⟩
theorem SnP.not (h : SnP L base p v W) {t : TypeId} (k : KeepNot t W W') (ht : 3 ≠ t) : SnP L base p v W' := by
  obtain ⟨xs, h1, h2⟩ := h
  exact ⟨xs, own_stay h1 fun g cur hg hb => k.2 g cur _ hb ht, h2⟩
theorem snoc_at {xs : List Value} {x : Value} {p : Nat} (hl : xs.length = p) : (xs ++ [x])[p]? = some x := by
  rw [List.getElem?_append_right (by omega)]; simp [hl]
theorem snoc_lt {xs : List Value} {x : Value} {p j : Nat} (hl : xs.length = p) (hj : j < p) : (xs ++ [x])[j]? = xs[j]? := List.getElem?_append_left (by omega)
/-- What a growing row leaves of an elder world. -/
theorem grown_bl {W0 : World} {t n : Nat} {xs : List Value} (k0 : Bl W0 W) (hbase : W0.heap.size ≤ base) (h : W.ownsRow base t 1 v n xs) (hg : W.grownBy W' v.ownBlock) : Bl W0 W' :=
  k0.grown hg k0.size (fun k hk => Nat.le_trans hbase (own_block_ge h k hk))
theorem SnS.push (h : SnS st base p v W) {W0 : World} (k0 : Bl W0 W) (h0 : W0.heap.size ≤ base) (hb : base ≤ W.heap.size) (hp : p ≤ 1000) (g : Nat) (hg : W.cell? ⟨g, 0, none⟩ = some (.int .u64 (st p))) :
    ∃ v' W', (Builtin.append_ #[30, 30] 30 #[v, .slice (some ⟨g, 0, none⟩) 1 1]).run Tryz.prog W = .ok v' W' ∧ SnS st base (p + 1) v' W' ∧ KeepNot 26 W W' ∧ Bl W0 W' ∧ W.heap.size ≤ W'.heap.size := by
  obtain ⟨xs, h1, h2⟩ := h
  obtain ⟨v', W', e1, e2, e3⟩ := own_push Tryz.underlying30 infoU64 (by decide) rfl h1 _ rfl g hg hp hb
  have hl : xs.length = p := by have := h1.1; omega
  refine ⟨v', W', e1, ⟨_, e2, fun j hj => ?_⟩, keepNot_grown h1 e3, grown_bl k0 h0 h1 e3, e3.size⟩
  rcases Nat.lt_or_ge j p with h3 | h3
  · rw [snoc_lt hl h3]; exact h2 j h3
  · obtain rfl : j = p := by omega
    exact snoc_at hl
theorem SnB.push (h : SnB M base p v W) {W0 : World} (k0 : Bl W0 W) (h0 : W0.heap.size ≤ base) (hb : base ≤ W.heap.size) (hp : p ≤ 1000) (g gb : Nat) (hg : W.cell? ⟨g, 0, none⟩ = some (.slice (some ⟨gb, 0, none⟩) 4096 4096)) (hgb : base ≤ gb) (hbb : W.heap[gb]? = some (.cells (asBytes (bytesAt M (p * 4096) 4096)).toArray 5 (0, 0))) :
    ∃ v' W', (Builtin.append_ #[31, 31] 31 #[v, .slice (some ⟨g, 0, none⟩) 1 1]).run Tryz.prog W = .ok v' W' ∧ SnB M base (p + 1) v' W' ∧ KeepNot 27 W W' ∧ Bl W0 W' ∧ W.heap.size ≤ W'.heap.size := by
  obtain ⟨xs, h1, h2⟩ := h
  obtain ⟨v', W', e1, e2, e3⟩ := own_push Tryz.underlying31 infoSl (by decide) rfl h1 _ rfl g hg hp hb
  have hl : xs.length = p := by have := h1.1; omega
  have hk := keepNot_grown h1 e3
  refine ⟨v', W', e1, ⟨_, e2, fun j hj => ?_⟩, hk, grown_bl k0 h0 h1 e3, e3.size⟩
  rcases Nat.lt_or_ge j p with h3 | h3
  · obtain ⟨g', g1, g2, g3⟩ := h2 j h3
    exact ⟨g', by rw [snoc_lt hl h3]; exact g1, g2, hk.2 _ _ _ g3 (by decide)⟩
  · obtain rfl : j = p := by omega
    exact ⟨gb, snoc_at hl, hgb, hk.2 _ _ _ hbb (by decide)⟩
theorem SnP.push (h : SnP L base p v W) {W0 : World} (k0 : Bl W0 W) (h0 : W0.heap.size ≤ base) (hb : base ≤ W.heap.size) (hp : p ≤ 1000) (g : Nat) (q : Int) (hg : W.cell? ⟨g, 0, none⟩ = some (.int .i64 q)) (hq : ProtIs L ((p : Int) * 4096) q) :
    ∃ v' W', (Builtin.append_ #[32, 32] 32 #[v, .slice (some ⟨g, 0, none⟩) 1 1]).run Tryz.prog W = .ok v' W' ∧ SnP L base (p + 1) v' W' ∧ KeepNot 3 W W' ∧ Bl W0 W' ∧ W.heap.size ≤ W'.heap.size := by
  obtain ⟨xs, h1, h2⟩ := h
  obtain ⟨v', W', e1, e2, e3⟩ := own_push Tryz.underlying32 infoInt (by decide) rfl h1 _ rfl g hg hp hb
  have hl : xs.length = p := by have := h1.1; omega
  refine ⟨v', W', e1, ⟨_, e2, fun j hj => ?_⟩, keepNot_grown h1 e3, grown_bl k0 h0 h1 e3, e3.size⟩
  rcases Nat.lt_or_ge j p with h3 | h3
  · rw [snoc_lt hl h3]; exact h2 j h3
  · obtain rfl : j = p := by omega
    exact ⟨q, snoc_at hl, hq⟩
/-- Where a row stands. -/
theorem own_form {t n : Nat} {xs : List Value} (h : W.ownsRow base t 1 v n xs) (hn : 0 < n) : ∃ g cap, v = .slice (some ⟨g, 0, none⟩) n cap ∧ n ≤ cap ∧ base ≤ g ∧ ∀ j, j < n → W.cell? ⟨g, j, none⟩ = xs[j]? := by
  rcases h.2 with ⟨rfl, h0⟩ | ⟨g, cap, cur, rfl, h1, h2, h3, h4⟩
  · omega
  · exact ⟨g, cap, rfl, h3, h1, fun j hj => World.ownsRow.cellAt h j (by omega)⟩
end
end Go.Proofs.YtepffglljmekiaaGreat
