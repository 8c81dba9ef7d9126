/-
  New, Held, and what a store without places is asked; a page's stamp; a page that is held from now on.
-/
import Derived.Test.YtpalhkfipnbcnaaPageB
import Derived.StillTailTactics
import Derived.Deep.Cut
import Derived.Shelf.SlMaps.Clone
set_option linter.unusedVariables false
set_option linter.unusedSimpArgs false
namespace Go.Proofs.Ytpalhkfipnbcnaa
open Go.RowKit
set_option maxRecDepth 100000

section
variable {P : Program} (w : World) {ops : Array Oper} {rest : List Oper} {o : Oper} {a : Act} {Q : Exit → Act → World → Prop}
/-- An operation that stores, whose run is known. -/
theorem wpl_put_run {w1 : World} (hg : o.guard = none) (m x v : Operand) (t : TypeId) (hop : o.op = Op.mapUpdate t m x v) (vm vx vv : Value) (hm : a.eval m = vm) (hx : a.eval x = vx) (hv : a.eval v = vv)
    (hrun : (Instr.mapUpdate t vm vx vv).run P w = .ok () w1) (hK : wpList P ops Q rest (a.put o.dst undef) w1) : wpList P ops Q (o :: rest) a w := by
  refine wpList_plain hg fun K' hK' => ?_
  unfold Oper.wp
  simp [execOp, hop, hm, hx, hv, hrun, Result.andThen]
  exact hK' _ _ hK
theorem wpl_look_run (hg : o.guard = none) (m x : Operand) (t : TypeId) (hop : o.op = Op.lookup t m x false) (vm vx v1 : Value) (hm : a.eval m = vm) (hx : a.eval x = vx)
    (hrun : (Instr.lookup t vm vx false).run P w = .ok v1 w) (hK : wpList P ops Q rest (a.put o.dst v1) w) : wpList P ops Q (o :: rest) a w := by
  refine wpList_plain hg fun K' hK' => ?_
  unfold Oper.wp
  simp [execOp, hop, hm, hx, hrun, Result.andThen]
  exact hK' _ _ hK
end
/-- A page of noughts. -/
theorem zero53 (w : World) : (zeroValue 115).run Try.prog w = .ok (.agg zeros) w := by
  obtain ⟨i, hi, hz⟩ : ∃ i, Try.prog.info? 115 = some i ∧ i.zero = some (.agg zeros) := by
    have := info53
    rcases h : Try.prog.info? 115 with _ | i
    · rw [h] at this; first | cases this | exact absurd (cells_ty this) (by decide)
    · rw [h] at this; simp at this; exact ⟨i, rfl, this.1⟩
  simp [zeroValue, typeInfo, hi, hz]
/-- The store's own cells turn, and no other block that was there. -/
theorem SA.cells {Y Y' : Rest} {S : Nat → Prop} {w w' : World} {sb n m k : Nat} {f : Nat → Option Nat} {M st st' : Nat → Int} {pm sm pm' sm' : Value} {c l c' l' : Int} (h : SA Y S w sb n f k M st pm sm c l)
    (ho : ∀ x, x < w.heap.size → x ≠ sb → w'.heap[x]? = w.heap[x]?) (hb : w'.heap[sb]? = some (.cells #[Y'.rg, pm', sm', .int .u64 c', .int .u64 l', .int .i64 Y'.mo, .int .u64 Y'.ba, .int .u64 Y'.en] 83 (0, 0))) (hl : 0 ≤ l' ∧ l' ≤ (m : Int)) (ht : ∀ p, p < 2 ^ 64 → st' p ≤ l')
    (hp : PMV S w' pm' m f k) (hs : SMV S w' sm' m c' st') (ha : ∀ B, pm' = .map (some B) → sm' ≠ .map (some B)) : SA Y' S w' sb m f k M st' pm' sm' c' l' where
  blk := hb
  own := h.own
  lw := hl
  top := ht
  pages := hp
  stamps := hs
  apart := ha
  at_ := fun p b hb => ⟨(h.at_ p b hb).1, by
    have h2 := (h.at_ p b hb).2
    rw [ho b (lt_at h2) (fun e => by have := h.blk; rw [← e, h2] at this; first | cases this | exact absurd (cells_ty this) (by decide))]; exact h2⟩
  inj := h.inj
  zero := h.zero
  lim := h.lim
/-- No map is the space's block. -/
theorem SA.keptP {Y : Rest} {S : Nat → Prop} {w : World} {sb n k : Nat} {f : Nat → Option Nat} {M st : Nat → Int} {pm sm : Value} {c l : Int} (h : SA Y S w sb n f k M st pm sm c l) (i : Nat) (u : Value) : PMV S (w.setCell ⟨sb, i, none⟩ u) pm n f k := by
  refine h.pages.kept fun B hB => ?_
  obtain ⟨_, es, q, h2⟩ := h.pages.isMap hB
  exact Below.heap_setCell _ _ _ _ (fun e => by have := h.blk; rw [← show B = sb from e, h2] at this; first | cases this | exact absurd (cells_ty this) (by decide))
theorem SA.keptS {Y : Rest} {S : Nat → Prop} {w : World} {sb n k : Nat} {f : Nat → Option Nat} {M st : Nat → Int} {pm sm : Value} {c l : Int} (h : SA Y S w sb n f k M st pm sm c l) (i : Nat) (u : Value) : SMV S (w.setCell ⟨sb, i, none⟩ u) sm n c st := by
  refine h.stamps.kept fun B hB => ?_
  obtain ⟨_, es, q, h2⟩ := h.stamps.isMap hB
  exact Below.heap_setCell _ _ _ _ (fun e => by have := h.blk; rw [← show B = sb from e, h2] at this; first | cases this | exact absurd (cells_ty this) (by decide))
theorem setCell_others (w : World) (sb i : Nat) (u : Value) : ∀ x, x < w.heap.size → x ≠ sb → (w.setCell ⟨sb, i, none⟩ u).heap[x]? = w.heap[x]? := fun x _ hx => Below.heap_setCell _ _ _ _ hx
theorem SA.setLast {Y : Rest} {S : Nat → Prop} {w : World} {sb n k : Nat} {f : Nat → Option Nat} {M st : Nat → Int} {pm sm : Value} {c l : Int} (h : SA Y S w sb n f k M st pm sm c l) :
    SA Y S (w.setCell ⟨sb, 4, none⟩ (.int .u64 (l + 1))) sb (n + 1) f k M st pm sm c (l + 1) := by
  have := h.lw
  exact h.cells (setCell_others w sb 4 _) (heap_setCell_same w sb 4 _ 83 _ h.blk) (by omega) (fun p hp => by have := h.top p hp; omega) ((h.keptP 4 _).mono (by omega)) ((h.keptS 4 _).mono (by omega)) h.apart
theorem wrap_in (x : Int) : 0 ≤ IntKind.u64.wrap x ∧ IntKind.u64.wrap x ≤ 18446744073709551615 := by rw [IntKind.wrap_u64]; omega

theorem eq40 (w : World) (p : Option Nat) : (binOp .eql 79 (.map p) (.map none)).run Try.prog w = .ok (.bool p.isNone) w := run_eql_map_nil_sl (P := Try.prog) w 79 _ _ p Try.underlying79
theorem eq39 (w : World) (p : Option Nat) : (binOp .eql 78 (.map p) (.map none)).run Try.prog w = .ok (.bool p.isNone) w := run_eql_map_nil_sl (P := Try.prog) w 78 _ _ p Try.underlying78
/-- A stamp is laid. -/
theorem SA.stampRun {Y : Rest} {S : Nat → Prop} {w : World} {sb n k : Nat} {f : Nat → Option Nat} {M st : Nat → Int} {pm : Value} {B : Nat} {c l : Int} (h : SA Y S w sb n f k M st pm (.map (some B)) c l) {num : Nat} (hnum : num < 2 ^ 64) (hn : n < 100000010) :
    ∃ w', (Instr.mapUpdate 79 (.map (some B)) (.int .u64 (num : Int)) (.int .u64 l)).run Try.prog w = .ok () w' ∧ SA Y S w' sb (n + 1) f k M (setSt st num l) pm (.map (some B)) c l ∧ Fr S w w' := by
  rcases h.stamps with h0 | ⟨B', D, h0, hSB, hown, g, hg1, hg2, hg3⟩
  · cases h0.1
  cases h0
  have hv := h.lw
  have hvw : (Lit.int .u64 l).wf = true := by
    show (decide ((0 : Int) ≤ l) && decide (l ≤ 18446744073709551615)) = true
    simp; omega
  obtain ⟨w', hrun, ho, ht⟩ := hown.store law27 Try.underlying79 (by simp only [maxLen]; omega) (key_of hnum) (plainElem_int Try.underlying22 hvw)
  have hg := ht.grown
  have other : ∀ x o, w.heap[x]? = some o → x ≠ B → w'.heap[x]? = some o := fun x o hx hne => by
    rw [hg.block x (lt_at hx) (fun e => hne (by injection e))]; exact hx
  obtain ⟨_, es, q, hmap⟩ := h.stamps.isMap rfl
  have hp : PMV S w' pm n f k := h.pages.kept fun B1 hB1 => by
    obtain ⟨_, es1, q1, h2⟩ := h.pages.isMap hB1
    rw [other _ _ h2 (fun e => by subst e; exact h.apart _ hB1 rfl), h2]
  refine ⟨w', hrun, ⟨other _ _ h.blk (fun e => by have := h.blk; rw [e, hmap] at this; first | cases this | exact absurd (cells_ty this) (by decide)), h.own, by omega, fun p hp => ?_, hp.mono (by omega), .inr ⟨B, _, rfl, hSB, ho, fun p => if p = num then some l else g p, fun p hp => ?_, fun p v hp hgv zd => ?_, fun p hp => ?_⟩, h.apart, fun p b hb => ⟨(h.at_ p b hb).1, other _ _ (h.at_ p b hb).2 (fun e => by have := (h.at_ p b hb).2; rw [e, hmap] at this; first | cases this | exact absurd (cells_ty this) (by decide))⟩, h.inj, h.zero, h.lim⟩, Fr.grown hg (fun x hx => by cases hx; exact hSB)⟩
  · simp only [setSt]
    split
    · exact Int.le_refl _
    · exact h.top p hp
  · by_cases e : p = num
    · subst e; simp only [if_true, Option.isSome_some]; exact Maps.has_put_same hown.isMap (isKeyLit_key _) _
    · simp only [if_neg e]; rw [Maps.has_put_other (key_ne e)]; exact hg1 p hp
  · by_cases e : p = num
    · subst e; simp only [if_true, Option.some.injEq] at hgv; subst hgv; exact Maps.atKey_put_same hown.isMap (isKeyLit_key _) _ _
    · simp only [if_neg e] at hgv; rw [Maps.atKey_put_other (key_ne e)]; exact hg2 p v hp hgv zd
  · simp only [setSt]
    split
    · rfl
    · exact hg3 p hp
theorem setSt_rise {st : Nat → Int} {num : Nat} {l : Int} (h : ∀ p, p < 2 ^ 64 → st p ≤ l) : Rise st (setSt st num (l + 1)) (fun p => p = num) := fun p hp => by
  have := h p hp
  simp only [setSt]
  split
  · exact ⟨by omega, fun _ => by omega⟩
  · rename_i e
    exact ⟨Int.le_refl _, fun e' => absurd e' e⟩
theorem SA.drew {Y : Rest} {S : Nat → Prop} {w : World} {sb n k : Nat} {f : Nat → Option Nat} {M st : Nat → Int} {pm sm : Value} {c l : Int} (h : SA Y S w sb n f k M st pm sm c l) : SA Y S w.drew sb n f k M st pm sm c l := h.bl (Bl.refl w).drew
theorem Fr.drew {S : Nat → Prop} {a b : World} (h : Fr S a b) : Fr S a b.drew := ⟨h.os, h.tape, h.output, h.size, h.block⟩
/-- A map of stamps, made. -/
theorem SA.stampsMade {Y : Rest} {S : Nat → Prop} {w : World} {sb n k : Nat} {f : Nat → Option Nat} {M st : Nat → Int} {pm : Value} {c l : Int} (h : SA Y S w sb n f k M st pm (.map none) c l) (hS : S w.heap.size) :
    SA Y S ((w.alloc (.map #[] 0)).setCell ⟨sb, 2, none⟩ (.map (some w.heap.size))) sb n f k M st pm (.map (some w.heap.size)) c l ∧ Fr S w ((w.alloc (.map #[] 0)).setCell ⟨sb, 2, none⟩ (.map (some w.heap.size))) := by
  have hsb := h.lt
  have h' := h.bl (Bl.new w (.map #[] 0))
  refine ⟨?_, (Fr.of_bl (Bl.new w (.map #[] 0))).trans (Fr.set h.own _)⟩
  have hno : ∀ x, (w.alloc (.map #[] 0)).heap[x]? ≠ none → x ≠ sb → ((w.alloc (.map #[] 0)).setCell ⟨sb, 2, none⟩ (.map (some w.heap.size))).heap[x]? = (w.alloc (.map #[] 0)).heap[x]? := fun x _ hx => Below.heap_setCell _ _ _ _ hx
  refine h'.cells (setCell_others _ sb 2 _) (heap_setCell_same _ sb 2 _ 83 _ h'.blk) h.lw h.top (h'.keptP 2 _) ?_ ?_
  · refine .inr ⟨w.heap.size, .map [], rfl, hS, ?_, fun _ => none, fun _ _ => rfl, fun p v _ h => (by cases h), fun p hp => ?_⟩
    · exact (ownsMap_of_block (World.ownsMap_made w Try.prog 22 (plainElem (H := Nat) Try.prog 22)) (Below.heap_setCell _ _ _ _ (fun e => by have : w.heap.size = sb := e; omega))).mono (Nat.zero_le _)
    · rcases h.stamps with ⟨_, h0⟩ | ⟨B, D, h0, _⟩
      · exact h0 p hp
      · cases h0
  · intro B hB e
    cases e
    obtain ⟨_, es, q, h2⟩ := h.pages.isMap hB
    have := lt_at h2
    omega

theorem stamp_not {Y : Rest} {S : Nat → Prop} {w : World} {sb n k : Nat} {f : Nat → Option Nat} {M st : Nat → Int} {pm : Value} {B : Nat} {c l : Int} (h : SA Y S w sb n f k M st pm (.map (some B)) c l) (num : Nat) (hnum : num < 2 ^ 64) (hn : n < 100000000) :
    Calls Try.prog 60 #[.pointer (some ⟨sb, 1, none⟩), .int .u64 (num : Int)] w fun e w' => e = .returned (.tuple #[]) ∧ (∃ st', StoreAt Y S w' sb (n + 2) f k M st' ∧ Rise st st' (fun p => p = num)) ∧ Fr S w w' := by
  obtain ⟨c0, c1, c2, c3⟩ := h.cell
  have f1 := h.free 2
  have f3 := h.free 4
  have H := Lib.hid h; clear h
  have hq := fun W => eq40 W (some B)
  (try unfold addr0)
  go_enter Try.func60, Try.ntmps60
  go_wp2
  have hlw := H.out.lw
  have htop := H.out.top
  have hwr := IntWalk.u64_in (l + 1) (by omega)
  rw [hwr]
  have h1 := H.out.setLast
  clear hwr hlw
  have fr1 : Fr S w (w.setCell ⟨sb, 4, none⟩ (.int .u64 (l + 1))) := Fr.set H.out.own _
  clear c0 c1 c2 c3 f1 f3
  generalize w.setCell ⟨sb, 4, none⟩ (.int .u64 (l + 1)) = W at *
  have hris := setSt_rise (num := num) htop
  have HR := Lib.hid hris; clear hris htop
  generalize l + 1 = l1 at *
  obtain ⟨c0, c1, c2, c3⟩ := h1.cell
  have H1 := Lib.hid h1; clear h1
  have FR1 := Lib.hid fr1; clear fr1
  go_still_tail 9, (by kernel_rfl)
  change wpList _ _ _ _ _ W.drew
  obtain ⟨w2, hrun, h2, fr2⟩ := H1.out.drew.stampRun hnum (by omega)
  have H2 := Lib.hid h2; clear h2
  refine wpl_put_run _ rfl (.tmp 23) (.tmp 24) (.tmp 28) 79 rfl _ _ _ rfl rfl rfl hrun ?_
  clear c0 c1 c2 c3 hq hrun
  go_wp2
  go_end0
  exact ⟨rfl, ⟨_, ⟨_, _, _, _, H2.out⟩, HR.out⟩, FR1.out.drew.trans fr2⟩
theorem stamp_nil {Y : Rest} {S : Nat → Prop} {w : World} {sb n k : Nat} {f : Nat → Option Nat} {M st : Nat → Int} {pm : Value} {c l : Int} (h : SA Y S w sb n f k M st pm (.map none) c l) (num : Nat) (hnum : num < 2 ^ 64) (hn : n < 100000000) (hS : S w.heap.size) :
    Calls Try.prog 60 #[.pointer (some ⟨sb, 1, none⟩), .int .u64 (num : Int)] w fun e w' => e = .returned (.tuple #[]) ∧ (∃ st', StoreAt Y S w' sb (n + 2) f k M st' ∧ Rise st st' (fun p => p = num)) ∧ Fr S w w' := by
  obtain ⟨c0, c1, c2, c3⟩ := h.cell
  have f1 := h.free 2
  have f3 := h.free 4
  have a1 : ∀ o, (w.alloc o).cell? ⟨sb, 2, none⟩ = some (.map none) := fun o => (h.bl (Bl.new w o)).cell.2.1
  have af1 : ∀ o, (w.alloc o).frozen? ⟨sb, 2, none⟩ = false := fun o => (h.bl (Bl.new w o)).free 2
  have H := Lib.hid h; clear h
  have hq := fun W => eq40 W none
  have hmm := @run_makeMap Try.prog
  (try unfold addr0)
  go_enter Try.func60, Try.ntmps60
  go_upto_region 2 with (fail)
  obtain ⟨h0, fr0⟩ := H.out.stampsMade hS
  clear c0 c1 c2 c3 f1 f3 a1 af1 hq hmm
  generalize (w.alloc (.map #[] 0)).setCell ⟨sb, 2, none⟩ (.map (some w.heap.size)) = W0 at *
  generalize w.heap.size = B at *
  obtain ⟨c0, c1, c2, c3⟩ := h0.cell
  have f3 := h0.free 4
  have H0 := Lib.hid h0; clear h0
  have FR0 := Lib.hid fr0; clear fr0
  go_wp2
  have hlw := H0.out.lw
  have htop := H0.out.top
  have hwr := IntWalk.u64_in (l + 1) (by omega)
  rw [hwr]
  have h1 := H0.out.setLast
  clear hwr hlw
  have fr1 : Fr S W0 (W0.setCell ⟨sb, 4, none⟩ (.int .u64 (l + 1))) := Fr.set H0.out.own _
  clear c0 c1 c2 c3 f3
  generalize W0.setCell ⟨sb, 4, none⟩ (.int .u64 (l + 1)) = W at *
  have hris := setSt_rise (num := num) htop
  have HR := Lib.hid hris; clear hris htop
  generalize l + 1 = l1 at *
  obtain ⟨c0, c1, c2, c3⟩ := h1.cell
  have H1 := Lib.hid h1; clear h1
  have FR1 := Lib.hid fr1; clear fr1
  go_still_tail 9, (by kernel_rfl)
  change wpList _ _ _ _ _ W.drew
  obtain ⟨w2, hrun, h2, fr2⟩ := H1.out.drew.stampRun hnum (by omega)
  have H2 := Lib.hid h2; clear h2
  refine wpl_put_run _ rfl (.tmp 23) (.tmp 24) (.tmp 28) 79 rfl _ _ _ rfl rfl rfl hrun ?_
  clear c0 c1 c2 c3 hrun
  go_wp2
  go_end0
  exact ⟨rfl, ⟨_, ⟨_, _, _, _, H2.out⟩, HR.out⟩, (FR0.out.trans FR1.out.drew).trans fr2⟩
theorem stamp_any {Y : Rest} {S : Nat → Prop} {w : World} {sb n k : Nat} {f : Nat → Option Nat} {M st : Nat → Int} (h : StoreAt Y S w sb n f k M st) (num : Nat) (hnum : num < 2 ^ 64) (hn : n < 100000000) (hS : S w.heap.size) :
    Calls Try.prog 60 #[.pointer (some ⟨sb, 1, none⟩), .int .u64 (num : Int)] w fun e w' => e = .returned (.tuple #[]) ∧ (∃ st', StoreAt Y S w' sb (n + 2) f k M st' ∧ Rise st st' (fun p => p = num)) ∧ Fr S w w' := by
  obtain ⟨pm, sm, c, l, h⟩ := h
  rcases h.stamps with ⟨rfl, _⟩ | ⟨B, D, rfl, _⟩
  · exact stamp_nil h num hnum hn hS
  · exact stamp_not h num hnum hn

/-! ### hold -/
theorem SA.pagesMade {Y : Rest} {S : Nat → Prop} {w : World} {sb n k : Nat} {f : Nat → Option Nat} {M st : Nat → Int} {sm : Value} {c l : Int} (h : SA Y S w sb n f k M st (.map none) sm c l) (hS : S w.heap.size) :
    SA Y S ((w.alloc (.map #[] 0)).setCell ⟨sb, 1, none⟩ (.map (some w.heap.size))) sb n f k M st (.map (some w.heap.size)) sm c l ∧ Fr S w ((w.alloc (.map #[] 0)).setCell ⟨sb, 1, none⟩ (.map (some w.heap.size))) := by
  have hsb := h.lt
  have h' := h.bl (Bl.new w (.map #[] 0))
  refine ⟨?_, (Fr.of_bl (Bl.new w (.map #[] 0))).trans (Fr.set h.own _)⟩
  refine h'.cells (setCell_others _ sb 1 _) (heap_setCell_same _ sb 1 _ 83 _ h'.blk) h.lw h.top ?_ (h'.keptS 1 _) ?_
  · refine .inr ⟨w.heap.size, rfl, hS, ?_⟩
    rcases h.pages with ⟨_, hf, rfl⟩ | ⟨B, h0, _⟩
    · obtain rfl : f = fun _ => none := funext hf
      exact ((PM.made w).of_block (Below.heap_setCell _ _ _ _ (fun e => by have : w.heap.size = sb := e; omega))).mono (Nat.zero_le _)
    · cases h0
  · intro B hB e
    cases hB
    obtain ⟨_, es, q, h2⟩ := h.stamps.isMap e
    have := lt_at h2
    omega
theorem SA.pageNew {Y : Rest} {S : Nat → Prop} {w : World} {sb n k : Nat} {f : Nat → Option Nat} {M st : Nat → Int} {sm : Value} {B : Nat} {c l : Int} (h : SA Y S w sb n f k M st (.map (some B)) sm c l) (hS : S w.heap.size) {num : Nat} (hnum : num < 67108864) (hf : f num = none) (hn : n < 100000000) :
    ∃ w', (Instr.mapUpdate 78 (.map (some B)) (.int .u64 (num : Int)) (.pointer (some ⟨w.heap.size, 0, none⟩))).run Try.prog (w.alloc (.cells zeros 115)) = .ok () w' ∧ SA Y S w' sb (n + 1) (put1 f num (some w.heap.size)) (k + 1) M st (.map (some B)) sm c l ∧ Fr S w w' := by
  have h' := h.bl (Bl.new w (.cells zeros 115))
  rcases h'.pages with ⟨h0, _⟩ | ⟨B', h0, hSB, hpm⟩
  · cases h0
  cases h0
  obtain ⟨w', hrun, hp, ht⟩ := hpm.put (show num < 2 ^ 64 by omega) (by simp only [maxLen]; omega) w.heap.size
  rw [hf] at hp
  have hg := ht.grown
  obtain ⟨_, es, q, hmap⟩ := h'.pages.isMap rfl
  have other : ∀ x o, (w.alloc (.cells zeros 115)).heap[x]? = some o → x ≠ B → w'.heap[x]? = some o := fun x o hx hne => by
    rw [hg.block x (lt_at hx) (fun e => hne (by injection e))]; exact hx
  have hcell : ∀ (x : Nat) (cs : Array Value) (t : TypeId) (fr : Nat × Nat), (w.alloc (.cells zeros 115)).heap[x]? = some (.cells cs t fr) → w'.heap[x]? = some (.cells cs t fr) := fun x cs t fr hx =>
    other x _ hx (fun e => by rw [e, hmap] at hx; cases hx)
  refine ⟨w', hrun, ⟨hcell _ _ _ _ h'.blk, h.own, (by have := h.lw; omega), h.top, .inr ⟨B, rfl, hSB, hp⟩, ?_, h.apart, fun p b hb => ?_, fun p q b hp hq => ?_, fun p o hp ho => ?_, fun p b hb => ?_⟩, (Fr.of_bl (Bl.new w _)).trans (Fr.grown hg (fun x hx => by cases hx; exact hSB))⟩
  · have hs : SMV S w' sm n c st := h'.stamps.kept fun B1 hB1 => by
      obtain ⟨_, es1, q1, h2⟩ := h'.stamps.isMap hB1
      rw [other _ _ h2 (fun e => by subst e; exact h.apart _ rfl hB1), h2]
    exact hs.mono (by omega)
  · by_cases e : p = num
    · subst e
      rw [put1_same] at hb; cases hb
      refine ⟨hS, ?_⟩
      rw [pageOf_zero M p (fun o ho => h.zero p o hf ho)]
      exact hcell _ _ _ _ (heap_alloc_new w _)
    · rw [put1_other _ _ _ e] at hb
      exact ⟨(h'.at_ p b hb).1, hcell _ _ _ _ (h'.at_ p b hb).2⟩
  · by_cases e1 : p = num
    · by_cases e2 : q = num
      · rw [e1, e2]
      · subst e1; rw [put1_same] at hp; rw [put1_other _ _ _ e2] at hq
        cases hp
        have := lt_at (h.at_ q _ hq).2
        omega
    · by_cases e2 : q = num
      · subst e2; rw [put1_same] at hq; rw [put1_other _ _ _ e1] at hp
        cases hq
        have := lt_at (h.at_ p _ hp).2
        omega
      · rw [put1_other _ _ _ e1] at hp; rw [put1_other _ _ _ e2] at hq
        exact h.inj p q b hp hq
  · by_cases e : p = num
    · subst e; rw [put1_same] at hp; cases hp
    · rw [put1_other _ _ _ e] at hp; exact h.zero p o hp ho
  · by_cases e : p = num
    · omega
    · rw [put1_other _ _ _ e] at hb; exact h.lim p b hb
/-- The pages that are held when one is asked for. -/
def hf (f : Nat → Option Nat) (num b : Nat) : Nat → Option Nat := if (f num).isSome then f else put1 f num (some b)
def hk (f : Nat → Option Nat) (num k : Nat) : Nat := if (f num).isSome then k else k + 1
def HoldPost (Y : Rest) (S : Nat → Prop) (w : World) (sb n : Nat) (f : Nat → Option Nat) (k : Nat) (M st : Nat → Int) (num : Nat) (e : Ending) (w' : World) : Prop :=
  ∃ b, e = .returned (addr0 b) ∧ StoreAt Y S w' sb (n + 1) (hf f num b) (hk f num k) M st ∧ hf f num b num = some b ∧ Fr S w w'
theorem hold_there {Y : Rest} {S : Nat → Prop} {w : World} {sb n k : Nat} {f : Nat → Option Nat} {M st : Nat → Int} {pm sm : Value} {c l : Int} (h : SA Y S w sb n f k M st pm sm c l) (num b : Nat) (hnum : num < 67108864) (hb : f num = some b) :
    Calls Try.prog 59 #[.pointer (some ⟨sb, 1, none⟩), .int .u64 (num : Int)] w (HoldPost Y S w sb n f k M st num) := by
  have e1 : hf f num b = f := by simp [hf, hb]
  have e2 : hk f num k = k := by simp [hk, hb]
  obtain ⟨B, rfl⟩ : ∃ B, pm = .map (some B) := by
    rcases h.pages with ⟨_, h1, _⟩ | ⟨B, h0, _⟩
    · rw [h1 num] at hb; cases hb
    · exact ⟨B, h0⟩
  have hlook := h.pages.look (show num < 2 ^ 64 by omega)
  rw [hb] at hlook
  simp only [ptrOf, Option.map_some] at hlook
  obtain ⟨c0, c1, c2, c3⟩ := h.cell
  have hq := fun W => eq39 W (some B)
  have H := Lib.hid h; clear h
  have HB := Lib.hid hb; clear hb
  have E1 := Lib.hid e1; clear e1
  have E2 := Lib.hid e2; clear e2
  (try unfold addr0)
  go_enter Try.func59, Try.ntmps59
  go_wp2
  go_ret
  exact ⟨b, rfl, by rw [E1.out, E2.out]; exact ⟨_, _, _, _, H.out.mono (by omega)⟩, by rw [E1.out]; exact HB.out, Fr.refl _ _⟩
theorem hold_new {Y : Rest} {S : Nat → Prop} {w : World} {sb n k : Nat} {f : Nat → Option Nat} {M st : Nat → Int} {sm : Value} {B : Nat} {c l : Int} (h : SA Y S w sb n f k M st (.map (some B)) sm c l) (num : Nat) (hnum : num < 67108864) (hb : f num = none) (hn : n < 100000000) (hS : S w.heap.size) :
    Calls Try.prog 59 #[.pointer (some ⟨sb, 1, none⟩), .int .u64 (num : Int)] w (HoldPost Y S w sb n f k M st num) := by
  have e1 : hf f num w.heap.size = put1 f num (some w.heap.size) := by simp [hf, hb]
  have e2 : hk f num k = k + 1 := by simp [hk, hb]
  obtain ⟨w', hrun, h', fr'⟩ := h.pageNew hS hnum hb hn
  have hlook := h.pages.look (show num < 2 ^ 64 by omega)
  rw [hb] at hlook
  simp only [ptrOf, Option.map_none] at hlook
  obtain ⟨c0, c1, c2, c3⟩ := h.cell
  have a0 : ∀ o, (w.alloc o).cell? ⟨sb, 1, none⟩ = some (.map (some B)) := fun o => (h.bl (Bl.new w o)).cell.1
  have hq := fun W => eq39 W (some B)
  have hpg := zero53
  have H' := Lib.hid h'; clear h'
  have H := Lib.hid h; clear h
  have E1 := Lib.hid e1; clear e1
  have E2 := Lib.hid e2; clear e2
  have HB := Lib.hid hb; clear hb
  (try unfold addr0)
  go_enter Try.func59, Try.ntmps59
  go_wp2
  go_ret
  exact ⟨w.heap.size, rfl, by rw [E1.out, E2.out]; exact ⟨_, _, _, _, H'.out⟩, by rw [E1.out, put1_same], fr'⟩
theorem hold_nil {Y : Rest} {S : Nat → Prop} {w : World} {sb n k : Nat} {f : Nat → Option Nat} {M st : Nat → Int} {sm : Value} {c l : Int} (h : SA Y S w sb n f k M st (.map none) sm c l) (num : Nat) (hnum : num < 67108864) (hn : n < 100000000) (hS : ∀ b, w.heap.size ≤ b → S b) :
    Calls Try.prog 59 #[.pointer (some ⟨sb, 1, none⟩), .int .u64 (num : Int)] w (HoldPost Y S w sb n f k M st num) := by
  have hb : f num = none := by
    rcases h.pages with ⟨_, h1, _⟩ | ⟨B, h0, _⟩
    · exact h1 num
    · cases h0
  obtain ⟨h0, fr0⟩ := h.pagesMade (hS _ (Nat.le_refl _))
  obtain ⟨c0, c1, c2, c3⟩ := h.cell
  have f0 := h.free 1
  have a0 : ∀ o, (w.alloc o).cell? ⟨sb, 1, none⟩ = some (.map none) := fun o => (h.bl (Bl.new w o)).cell.1
  have af0 : ∀ o, (w.alloc o).frozen? ⟨sb, 1, none⟩ = false := fun o => (h.bl (Bl.new w o)).free 1
  have hq := fun W => eq39 W none
  have hmm := @run_makeMap Try.prog
  have H := Lib.hid h; clear h
  have HB := Lib.hid hb; clear hb
  have H0 := Lib.hid h0; clear h0
  have FR0 := Lib.hid fr0; clear fr0
  (try unfold addr0)
  go_enter Try.func59, Try.ntmps59
  go_upto_region 3 with (fail)
  have hsz : w.heap.size ≤ ((w.alloc (.map #[] 0)).setCell ⟨sb, 1, none⟩ (.map (some w.heap.size))).heap.size := FR0.out.size
  clear c0 c1 c2 c3 f0 a0 af0 hq hmm
  generalize (w.alloc (.map #[] 0)).setCell ⟨sb, 1, none⟩ (.map (some w.heap.size)) = W0 at *
  generalize w.heap.size = B at *
  have hS0 := hS _ hsz
  obtain ⟨w', hrun, h', fr'⟩ := H0.out.pageNew hS0 hnum HB.out hn
  have hlook := H0.out.pages.look (show num < 2 ^ 64 by omega)
  rw [HB.out] at hlook
  simp only [ptrOf, Option.map_none] at hlook
  obtain ⟨c0, c1, c2, c3⟩ := H0.out.cell
  have a0 : ∀ o, (W0.alloc o).cell? ⟨sb, 1, none⟩ = some (.map (some B)) := fun o => (H0.out.bl (Bl.new W0 o)).cell.1
  have hpg := zero53
  have H' := Lib.hid h'; clear h'
  have e1 : hf f num W0.heap.size = put1 f num (some W0.heap.size) := by simp [hf, HB.out]
  have e2 : hk f num k = k + 1 := by simp [hk, HB.out]
  have E1 := Lib.hid e1; clear e1
  have E2 := Lib.hid e2; clear e2
  go_wp2
  go_ret
  exact ⟨W0.heap.size, rfl, by rw [E1.out, E2.out]; exact ⟨_, _, _, _, H'.out⟩, by rw [E1.out, put1_same], FR0.out.trans fr'⟩
theorem hold_any {Y : Rest} {S : Nat → Prop} {w : World} {sb n k : Nat} {f : Nat → Option Nat} {M st : Nat → Int} (h : StoreAt Y S w sb n f k M st) (num : Nat) (hnum : num < 67108864) (hn : n < 100000000) (hS : ∀ b, w.heap.size ≤ b → S b) :
    Calls Try.prog 59 #[.pointer (some ⟨sb, 1, none⟩), .int .u64 (num : Int)] w (HoldPost Y S w sb n f k M st num) := by
  obtain ⟨pm, sm, c, l, h⟩ := h
  rcases hb : f num with _ | b
  · rcases h.pages with ⟨rfl, _⟩ | ⟨B, rfl, _⟩
    · exact hold_nil h num hnum hn hS
    · exact hold_new h num hnum hb hn (hS _ (Nat.le_refl _))
  · exact hold_there h num b hnum hb
end Go.Proofs.Ytpalhkfipnbcnaa
