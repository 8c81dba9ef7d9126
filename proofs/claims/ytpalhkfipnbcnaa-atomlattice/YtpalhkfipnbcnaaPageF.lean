/-
  Stamps of a span; a page that is wiped whole.
-/
import Derived.Test.YtpalhkfipnbcnaaPageE
set_option linter.unusedVariables false
set_option linter.unusedSimpArgs false
namespace Go.Proofs.Ytpalhkfipnbcnaa
open Go.RowKit
set_option maxRecDepth 100000
/-- All pages get one stamp: the last; the stamps of their own are struck. -/
theorem SA.setCommon {Y : Rest} {S : Nat → Prop} {w : World} {sb n k : Nat} {f : Nat → Option Nat} {M st : Nat → Int} {pm sm : Value} {c l : Int} (h : SA Y S w sb n f k M st pm sm c l) :
    ∃ w', (∀ ty, (Builtin.clear_ #[79] ty #[sm]).run Try.prog (w.setCell ⟨sb, 3, none⟩ (.int .u64 l)) = .ok (.tuple #[]) w') ∧ SA Y S w' sb n f k M (fun _ => l) pm sm l l ∧ Fr S w w' ∧ (w.setCell ⟨sb, 3, none⟩ (.int .u64 l)).cell? ⟨sb, 2, none⟩ = some sm := by
  have hb1 := heap_setCell_same w sb 3 _ 83 (.int .u64 l) h.blk
  have hfr : Fr S w (w.setCell ⟨sb, 3, none⟩ (.int .u64 l)) := Fr.set h.own _
  have hcl : (w.setCell ⟨sb, 3, none⟩ (.int .u64 l)).cell? ⟨sb, 2, none⟩ = some sm := by rw [cell_of_row _ _ _ _ _ _ hb1]; rfl
  rcases h.stamps with ⟨rfl, _⟩ | ⟨B, D, rfl, hSB, hown, _⟩
  · refine ⟨_, fun ty => by simp [Builtin.clear_, run_underlying Try.underlying79, Result.andThen], ?_, hfr, hcl⟩
    exact h.cells (setCell_others w sb 3 _) hb1 h.lw (fun _ _ => Int.le_refl _) (h.keptP 3 _) (.inl ⟨rfl, fun _ _ => rfl⟩) h.apart
  · obtain ⟨es, q, hb, _⟩ := ownsMap_of_block hown (w' := w.setCell ⟨sb, 3, none⟩ (.int .u64 l)) (Below.heap_setCell _ _ _ _ (fun e => by
      obtain ⟨es, q, h2, _⟩ := hown
      have := h.blk; rw [← show B = sb from e, h2] at this; first | cases this | exact absurd (cells_ty this) (by decide)))
    have hp := h.keptP 3 (.int .u64 l)
    have hat : ∀ p b, f p = some b → S b ∧ (w.setCell ⟨sb, 3, none⟩ (.int .u64 l)).heap[b]? = some (.cells (asBytes (pageOf M p)).toArray 115 (0, 0)) := fun p b hpb => ⟨(h.at_ p b hpb).1, by
      rw [Below.heap_setCell _ _ _ _ (fun e => by have := h.blk; have h2 := (h.at_ p b hpb).2; rw [← show b = sb from e, h2] at this; first | cases this | exact absurd (cells_ty this) (by decide))]
      exact (h.at_ p b hpb).2⟩
    generalize w.setCell ⟨sb, 3, none⟩ (.int .u64 l) = W at *
    have hrun : ∀ ty, (Builtin.clear_ #[79] ty #[.map (some B)]).run Try.prog W = .ok (.tuple #[]) (ChangeMaps.setBlock W B (.map #[] q)) := fun ty => by
      simp [Builtin.clear_, run_underlying Try.underlying79, MapKept.run_getObj_map hb, MapKept.run_setObj_map _ hb, Result.andThen, ChangeMaps.setBlock]
    have other : ∀ x, x ≠ B → (ChangeMaps.setBlock W B (.map #[] q)).heap[x]? = W.heap[x]? := fun x hx => ChangeMaps.heap_setBlock_other hb _ hx
    have hcell : ∀ (x : Nat) (cs : Array Value) (t : TypeId) (fr : Nat × Nat), W.heap[x]? = some (.cells cs t fr) → (ChangeMaps.setBlock W B (.map #[] q)).heap[x]? = some (.cells cs t fr) := fun x cs t fr hx => by
      rw [other x (fun e => by rw [e, hb] at hx; cases hx)]; exact hx
    refine ⟨_, hrun, ⟨hcell _ _ _ _ hb1, h.own, h.lw, fun _ _ => Int.le_refl _, hp.kept fun B1 hB1 => other B1 (fun e => by subst e; exact h.apart _ hB1 rfl), .inr ⟨B, .map [], rfl, hSB, ⟨#[], q, ChangeMaps.heap_setBlock_same hb _, ⟨by simp, MapKept.stamped_empty q, by simp⟩, Nat.zero_le _, rfl⟩, fun _ => none, fun _ _ => rfl, fun p v _ h => (by cases h), fun _ _ => rfl⟩, h.apart, fun p b hp => ⟨(hat p b hp).1, hcell _ _ _ _ (hat p b hp).2⟩, h.inj, h.zero, h.lim⟩, ?_, hcl⟩
    exact hfr.trans ⟨rfl, rfl, rfl, by simp [ChangeMaps.setBlock], fun x _ hn => other x (fun e => hn (e ▸ hSB))⟩
def box48 (a b : Int) : Obj := .cells #[.int .u64 a, .int .u64 b] 122
/-- All blocks of S but one. -/
def less (S : Nat → Prop) (x : Nat) : Nat → Prop := fun b => S b ∧ b ≠ x
theorem StoreAt.less {Y : Rest} {S : Nat → Prop} {w : World} {sb n k : Nat} {f : Nat → Option Nat} {M st : Nat → Int} (h : StoreAt Y S w sb n f k M st) (o : Obj) : StoreAt Y (less S w.heap.size) (w.alloc o) sb n f k M st := by
  have h1 : StoreAt Y (Ytpalhkfipnbcnaa.less S w.heap.size) w sb n f k M st := h.among fun b hb hS => ⟨hS, by omega⟩
  exact h1.bl (Bl.new w o)
theorem Fr.unless {S : Nat → Prop} {w : World} {x : Nat} {o : Obj} {w' : World} (h : Fr (less S x) (w.alloc o) w') : Fr S w w' := (Fr.of_bl (Bl.new w o)).trans (h.mono fun _ _ e => e.1)
set_option maxHeartbeats 2000000 in
theorem stampAll_wide {Y : Rest} {S : Nat → Prop} {w : World} {sb n k : Nat} {f : Nat → Option Nat} {M st : Nat → Int} (h : StoreAt Y S w sb n f k M st) (a b : Int) (ha : 0 ≤ a) (hab : a < b) (hc : b ≤ 274877906944) (hw : 4096 ≤ (b - 1) / 4096 - a / 4096) (hn : n < 90000000) :
    Calls Try.prog 85 #[.pointer (some ⟨sb, 1, none⟩), span a b] w fun e w' => e = .returned (.tuple #[]) ∧ (∃ st', StoreAt Y S w' sb (n + 1) f k M st' ∧ Rise st st' (fun _ => True)) ∧ Fr S w w' := by
  have cw := fun W => wide_i a b W ha hab hc
  rw [decide_eq_true hw] at cw
  have h1 := h.bl (Bl.new w (box48 a b))
  have HH1 := Lib.hid h1; clear h1 h
  have CW := Lib.hid cw; clear cw
  have hb1 : Bl w (w.alloc (box48 a b)) := Bl.new _ _
  have HB1 := Lib.hid hb1; clear hb1
  clear hw
  (try unfold addr0 at *); (try unfold span at *)
  go_enter Try.func85, Try.ntmps85
  go_wp2_with fail
  refine (CW.out _).mono ?_
  rintro e w1 ⟨rfl, bl1⟩
  (try unfold box48 at *)
  have h2 := HH1.out.bl bl1
  have bl2 := HB1.out.trans bl1
  clear bl1
  generalize w.alloc (.cells #[.int .u64 a, .int .u64 b] 122) = W at *
  obtain ⟨pm, sm, c, l, h2⟩ := h2
  obtain ⟨c0, c1, c2, c3⟩ := h2.cell
  have f3 := h2.free 4
  have H2 := Lib.hid h2; clear h2
  have BL2 := Lib.hid bl2; clear bl2
  go_upto_region 3 with (fail)
  have hlw := H2.out.lw
  have htop := H2.out.top
  rw [IntWalk.u64_in (l + 1) (by omega)]
  have h3 := H2.out.setLast
  have fr3 : Fr S w1 (w1.setCell ⟨sb, 4, none⟩ (.int .u64 (l + 1))) := Fr.set H2.out.own _
  clear c0 c1 c2 c3 f3 hlw
  generalize w1.setCell ⟨sb, 4, none⟩ (.int .u64 (l + 1)) = W3 at *
  have hris : Rise st (fun _ => l + 1) (fun _ => True) := fun p hp => by have := htop p hp; exact ⟨by show st p ≤ l + 1; omega, fun _ => by show st p < l + 1; omega⟩
  have HR := Lib.hid hris; clear hris htop
  generalize l + 1 = l3 at *
  obtain ⟨c0, c1, c2, c3⟩ := h3.cell
  have f2 := h3.free 3
  obtain ⟨w5, hrun, h5, fr5, c6⟩ := h3.setCommon
  have H5 := Lib.hid h5; clear h5 h3
  have FR3 := Lib.hid fr3; clear fr3
  go_upto_region 4 with (fail)
  clear c0 c1 c2 c3 f2
  generalize W3.setCell ⟨sb, 3, none⟩ (.int .u64 l3) = W4 at *
  go_wp2_with fail
  (try simp only [Exit.inBlock, Exit.then]); refine bodyPost_ret (results_none rfl _ _ _) rfl ?_
  exact ⟨rfl, ⟨_, ⟨_, _, _, _, H5.out⟩, HR.out⟩, ((Fr.of_bl BL2.out).trans FR3.out).trans fr5⟩
theorem box_at {S : Nat → Prop} {w w' : World} {a b : Int} (h : Fr (less S w.heap.size) (w.alloc (box48 a b)) w') : w'.heap[w.heap.size]? = some (.cells #[.int .u64 a, .int .u64 b] 122 (0, 0)) :=
  h.at_ (heap_alloc_new w _) (fun e => e.2 rfl)
theorem two_cells {w : World} {g : Nat} {x y : Value} {t : TypeId} (h : w.heap[g]? = some (.cells #[x, y] t (0, 0))) : w.cell? ⟨g, 0, none⟩ = some x ∧ w.cell? ⟨g, 1, none⟩ = some y := by
  refine ⟨?_, ?_⟩ <;> simp [World.cell?, h]
theorem less_new {S : Nat → Prop} {w w' : World} (hS : ∀ b, w.heap.size ≤ b → S b) {o : Obj} (h : (w.alloc o).heap.size ≤ w'.heap.size) : ∀ b, w'.heap.size ≤ b → less S w.heap.size b := fun b hb => by
  have : (w.alloc o).heap.size = w.heap.size + 1 := by simp
  exact ⟨hS b (by omega), by omega⟩
set_option maxHeartbeats 2000000 in
theorem stampAll_narrow {Y : Rest} {S : Nat → Prop} {w : World} {sb n k : Nat} {f : Nat → Option Nat} {M st : Nat → Int} (h : StoreAt Y S w sb n f k M st) (a b : Nat) (hab : a < b) (hc : b ≤ 274877906944) (hw : (b - 1) / 4096 - a / 4096 < 4096) (hn : n < 90000000) (hS : ∀ b, w.heap.size ≤ b → S b) :
    Calls Try.prog 85 #[.pointer (some ⟨sb, 1, none⟩), span (a : Int) (b : Int)] w fun e w' => e = .returned (.tuple #[]) ∧ (∃ st', StoreAt Y S w' sb (n + 8192) f k M st' ∧ Rise st st' (fun p => a / 4096 ≤ p ∧ p ≤ (b - 1) / 4096)) ∧ Fr S w w' := by
  have cw := fun W => wide_i (a : Int) (b : Int) W (by omega) (by omega) (by omega)
  rw [decide_eq_false (by omega)] at cw
  have cf := fun W => first_i (a : Int) (b : Int) W (by omega) (by omega)
  have cl := fun W => last_i (a : Int) (b : Int) W (by omega) (by omega)
  obtain ⟨q0, hq0⟩ : ∃ q0, q0 = a / 4096 := ⟨_, rfl⟩
  obtain ⟨q1, hq1⟩ : ∃ q1, q1 = (b - 1) / 4096 := ⟨_, rfl⟩
  have e0 : (a : Int) / 4096 = (q0 : Int) := by omega
  have e1 : ((b : Int) - 1) / 4096 = (q1 : Int) := by omega
  rw [e0] at cf
  rw [e1] at cl
  have hq01 : q0 ≤ q1 := by omega
  have hq2 : q1 < 67108864 := by omega
  have hq3 : q1 < q0 + 4096 := by omega
  rw [← hq0, ← hq1]
  clear e0 e1 hq0 hq1 hw
  have h1 := h.less (box48 a b)
  have HH1 := Lib.hid h1; clear h1 h
  have CW := Lib.hid cw; clear cw
  have CF := Lib.hid cf; clear cf
  have CL := Lib.hid cl; clear cl
  have HS := Lib.hid hS; clear hS
  generalize (a : Int) = A at *
  generalize (b : Int) = B at *
  have fr1 : Fr (less S w.heap.size) (w.alloc (box48 A B)) (w.alloc (box48 A B)) := Fr.refl _ _
  have FR1 := Lib.hid fr1; clear fr1
  clear hab hc
  (try unfold addr0 at *); (try unfold span at *)
  go_enter Try.func85, Try.ntmps85
  go_wp2_with fail
  refine (CW.out _).mono ?_
  rintro e w1 ⟨rfl, bl1⟩
  have fr2 := FR1.out.trans (Fr.of_bl bl1)
  have h2 := HH1.out.bl bl1
  obtain ⟨c0, c1⟩ := two_cells (box_at fr2)
  have FR2 := Lib.hid fr2; clear fr2 FR1 bl1
  have H2 := Lib.hid h2; clear h2 HH1
  go_wp2_with fail
  refine (CF.out _).mono ?_
  rintro e w2 ⟨rfl, bl2⟩
  have fr3 := FR2.out.trans (Fr.of_bl bl2)
  have h3 := H2.out.bl bl2
  clear c0 c1
  have FR3 := Lib.hid fr3; clear fr3 FR2 bl2
  have H3 := Lib.hid h3; clear h3 H2
  go_wp2_with fail
  go_loopw [4] (fun v wr => ∃ j : Nat, v = .int .u64 ((q0 + j : Nat) : Int) ∧ q0 + j ≤ q1 + 1 ∧ (∃ st', StoreAt Y (less S w.heap.size) wr sb (n + 2 * j) f k M st' ∧ Rise st st' (fun p => q0 ≤ p ∧ p < q0 + j)) ∧ Fr (less S w.heap.size) (w.alloc (box48 A B)) wr) (fun v _ => q1 + 1 - (intOf v).toNat)
  case atStart => exact ⟨0, rfl, by omega, ⟨st, H3.out, (Rise.refl st).mono fun p hp => by omega⟩, FR3.out⟩
  case round =>
    obtain ⟨j, rfl, hj, ⟨st1, hst, hris⟩, hfr⟩ := hrel
    have HRIS := Lib.hid hris; clear hris
    clear H3 FR3
    obtain ⟨c0, c1⟩ := two_cells (box_at hfr)
    have HST := Lib.hid hst; clear hst
    have HFR := Lib.hid hfr; clear hfr
    go_wp2_with fail
    refine (CL.out _).mono ?_
    rintro e w4 ⟨rfl, bl4⟩
    have fr4 := HFR.out.trans (Fr.of_bl bl4)
    have h4 := HST.out.bl bl4
    have FR4 := Lib.hid fr4; clear fr4
    have H4 := Lib.hid h4; clear h4 bl4 c0 c1
    by_cases hlt : q0 + j ≤ q1
    · have hltI : ((q0 + j : Nat) : Int) ≤ (q1 : Int) := by omega
      obtain ⟨x, hx⟩ : ∃ x, x = q0 + j := ⟨_, rfl⟩
      rw [← hx] at hltI ⊢
      have hxb : (x : Int) ≤ 67108864 := by omega
      have HX := Lib.hid hx; clear hx
      go_wp2_with fail
      refine (stamp_any H4.out x (by omega) (by omega) (less_new HS.out FR4.out.size _ (Nat.le_refl _))).mono ?_
      rintro e w5 ⟨rfl, ⟨st5, h5, hris5⟩, fr5⟩
      have HRIS5 := Lib.hid hris5; clear hris5
      have H5 := Lib.hid h5; clear h5
      have FR5 := Lib.hid fr5; clear fr5
      go_wp2_with fail
      refine ⟨⟨j + 1, by congr 1; have := HX.out; omega, by have := HX.out; omega, ⟨st5, H5.out, (HRIS.out.trans HRIS5.out).mono fun p hp => by
        have := HX.out
        by_cases e : p = x
        · exact .inr e
        · exact .inl (by omega)⟩, FR4.out.trans FR5.out⟩, ?_⟩
      simp only [intOf]
      have := HX.out
      omega
    · have hgt : (q1 : Int) < ((q0 + j : Nat) : Int) := by omega
      have hjj : j ≤ 4096 := by omega
      clear hlt
      go_wp2_with fail
      go_end0
      exact ⟨rfl, ⟨st1, (H4.out.among fun _ _ e => e.1).mono (by omega), HRIS.out.mono fun p hp => by omega⟩, FR4.out.unless⟩

/-! ### wipe -/
/-- Noughts from a place up to another one. -/
def wiped (M : Nat → Int) (a b : Nat) : Nat → Int := fun x => if a ≤ x ∧ x < b then 0 else M x
/-- A page is given back. -/
theorem SA.del {Y : Rest} {S : Nat → Prop} {w w' : World} {sb n k : Nat} {f : Nat → Option Nat} {M st : Nat → Int} {sm : Value} {B : Nat} {c l : Int} (h : SA Y S w sb n f k M st (.map (some B)) sm c l) {num : Nat} (hnum : num < 2 ^ 64) {ty : TypeId}
    (hd : (Builtin.delete_ #[78, 22] ty #[.map (some B), .int .u64 (num : Int)]).run Try.prog w = .ok (.tuple #[]) w') :
    ∃ k', SA Y S w' sb n (put1 f num none) k' (wiped M (num * 4096) (num * 4096 + 4096)) st (.map (some B)) sm c l ∧ k' + (if (f num).isSome then 1 else 0) = k ∧ Fr S w w' := by
  rcases h.pages with ⟨h0, _⟩ | ⟨B', h0, hSB, hpm⟩
  · cases h0
  cases h0
  obtain ⟨⟨k', hp, hk⟩, ht⟩ := hpm.del_of hnum hd
  have hg := ht.grown
  obtain ⟨_, es, q, hmap⟩ := h.pages.isMap rfl
  have other : ∀ x o, w.heap[x]? = some o → x ≠ B → w'.heap[x]? = some o := fun x o hx hne => by
    rw [hg.block x (lt_at hx) (fun e => hne (by injection e))]; exact hx
  have hcell : ∀ (x : Nat) (cs : Array Value) (t : TypeId) (fr : Nat × Nat), w.heap[x]? = some (.cells cs t fr) → w'.heap[x]? = some (.cells cs t fr) := fun x cs t fr hx =>
    other x _ hx (fun e => by rw [e, hmap] at hx; cases hx)
  refine ⟨k', ⟨hcell _ _ _ _ h.blk, h.own, h.lw, h.top, .inr ⟨B, rfl, hSB, hp⟩, ?_, h.apart, fun p b hb => ?_, fun p q b hp hq => ?_, fun p o hp ho => ?_, fun p b hb => ?_⟩, hk, Fr.grown hg (fun x hx => by cases hx; exact hSB)⟩
  · exact h.stamps.kept fun B1 hB1 => by
      obtain ⟨_, es1, q1, h2⟩ := h.stamps.isMap hB1
      rw [other _ _ h2 (fun e => by subst e; exact h.apart _ rfl hB1), h2]
  · by_cases e : p = num
    · subst e; rw [put1_same] at hb; cases hb
    · rw [put1_other _ _ _ e] at hb
      refine ⟨(h.at_ p b hb).1, ?_⟩
      rw [pageOf_other M _ p (fun o ho => by simp only [wiped]; rw [if_neg (by omega)])]
      exact hcell _ _ _ _ (h.at_ p b hb).2
  · by_cases e1 : p = num
    · subst e1; rw [put1_same] at hp; cases hp
    · by_cases e2 : q = num
      · subst e2; rw [put1_same] at hq; cases hq
      · rw [put1_other _ _ _ e1] at hp; rw [put1_other _ _ _ e2] at hq
        exact h.inj p q b hp hq
  · simp only [wiped]
    by_cases e : p = num
    · subst e; rw [if_pos (by omega)]
    · rw [if_neg (by omega)]
      rw [put1_other _ _ _ e] at hp; exact h.zero p o hp ho
  · by_cases e : p = num
    · subst e; rw [put1_same] at hb; cases hb
    · rw [put1_other _ _ _ e] at hb; exact h.lim p b hb
set_option maxHeartbeats 2000000 in
theorem wipe_none {Y : Rest} {S : Nat → Prop} {w : World} {sb n k : Nat} {f : Nat → Option Nat} {M st : Nat → Int} {pm sm : Value} {c l : Int} (h : SA Y S w sb n f k M st pm sm c l) (num : Nat) (hnum : num < 67108864) (A B : Int) (hA : 0 ≤ A) (hA1 : A ≤ (num : Int) * 4096) (hB1 : (num : Int) * 4096 + 4096 ≤ B) (hB : B ≤ 274877906944) (hf : f num = none) :
    Calls Try.prog 87 #[.pointer (some ⟨sb, 1, none⟩), .int .u64 (num : Int), span A B] w fun e w' => e = .returned (.tuple #[]) ∧ Bl w w' := by
  have h1 := h.bl (Bl.new w (box48 A B))
  have hlook := h1.pages.look (show num < 2 ^ 64 by omega)
  rw [hf] at hlook
  simp only [ptrOf, Option.map_none] at hlook
  obtain ⟨c0, c1, c2, c3⟩ := h1.cell
  obtain ⟨d0, d1⟩ := two_cells (heap_alloc_new w (box48 A B))
  have hz : (0 : Int) ≤ (num : Int) := by omega
  have hz1 : (num : Int) ≤ 67108864 := by omega
  generalize (num : Int) = x at *
  have hmx : ∀ W, (Builtin.max_ #[22, 22] 22 #[.int .u64 A, .int .u64 (x * 4096)]).run Try.prog W = .ok (.int .u64 (x * 4096)) W := fun W => by
    rw [max_run]; congr 2; split <;> omega
  have hmi : ∀ W, (Builtin.min_ #[22, 22] 22 #[.int .u64 B, .int .u64 (x * 4096 + 4096)]).run Try.prog W = .ok (.int .u64 (x * 4096 + 4096)) W := fun W => by
    rw [min_run]; congr 2; split <;> omega
  clear h1 h
  (try unfold addr0 at *); (try unfold span at *); (try unfold box48 at *)
  go_enter Try.func87, Try.ntmps87
  go_wp2_with fail
  (try simp only [Exit.inBlock, Exit.then]); refine bodyPost_ret (results_none rfl _ _ _) rfl ?_
  exact ⟨rfl, (Bl.new _ _).alloc _⟩
set_option maxHeartbeats 2000000 in
theorem wipe_some {Y : Rest} {S : Nat → Prop} {w : World} {sb n k : Nat} {f : Nat → Option Nat} {M st : Nat → Int} {pb : Nat} {sm : Value} {c l : Int} (h : SA Y S w sb n f k M st (.map (some pb)) sm c l) (num b : Nat) (hnum : num < 67108864) (A B : Int) (hA : 0 ≤ A) (hA1 : A ≤ (num : Int) * 4096) (hB1 : (num : Int) * 4096 + 4096 ≤ B) (hB : B ≤ 274877906944) (hf : f num = some b) :
    Calls Try.prog 87 #[.pointer (some ⟨sb, 1, none⟩), .int .u64 (num : Int), span A B] w fun e w' => e = .returned (.tuple #[]) ∧ ∃ w1, Bl w w1 ∧ (Builtin.delete_ #[78, 22] 0 #[.map (some pb), .int .u64 (num : Int)]).run Try.prog w1 = .ok (.tuple #[]) w' := by
  have h1 := h.bl (Bl.new w (box48 A B))
  have hlook := h1.pages.look (show num < 2 ^ 64 by omega)
  rw [hf] at hlook
  simp only [ptrOf, Option.map_some] at hlook
  obtain ⟨c0, c1, c2, c3⟩ := h1.cell
  obtain ⟨d0, d1⟩ := two_cells (heap_alloc_new w (box48 A B))
  have hz : (0 : Int) ≤ (num : Int) := by omega
  have hz1 : (num : Int) ≤ 67108864 := by omega
  have H := Lib.hid h; clear h1 h
  obtain ⟨x, hx⟩ : ∃ x : Int, x = (num : Int) := ⟨_, rfl⟩
  rw [← hx] at hA1 hB1 hlook hz hz1 ⊢
  have HX := Lib.hid hx; clear hx
  have hmx : ∀ W, (Builtin.max_ #[22, 22] 22 #[.int .u64 A, .int .u64 (x * 4096)]).run Try.prog W = .ok (.int .u64 (x * 4096)) W := fun W => by
    rw [max_run]; congr 2; split <;> omega
  have hmi : ∀ W, (Builtin.min_ #[22, 22] 22 #[.int .u64 B, .int .u64 (x * 4096 + 4096)]).run Try.prog W = .ok (.int .u64 (x * 4096 + 4096)) W := fun W => by
    rw [min_run]; congr 2; split <;> omega
  have ce := fun W => empty_any (x * 4096) (x * 4096 + 4096) W
  rw [decide_eq_false (by omega)] at ce
  have CE := Lib.hid ce; clear ce
  (try unfold addr0 at *); (try unfold span at *); (try unfold box48 at *)
  go_enter Try.func87, Try.ntmps87
  go_wp2_with fail
  refine (CE.out _).mono ?_
  rintro e w3 ⟨rfl, bl3⟩
  have blw := ((Bl.new w (.cells #[.int .u64 A, .int .u64 B] 122)).alloc (.cells #[.int .u64 (x * 4096), .int .u64 (x * 4096 + 4096)] 122)).trans bl3
  have hp := bl3.at_ (heap_alloc_new (w.alloc (.cells #[.int .u64 A, .int .u64 B] 122)) (.cells #[.int .u64 (x * 4096), .int .u64 (x * 4096 + 4096)] 122))
  rw [show (w.alloc (.cells #[.int .u64 A, .int .u64 B] 122)).heap.size = w.heap.size + 1 by simp] at hp
  have h3 := H.out.bl blw
  clear c0 c1 c2 c3 d0 d1 hlook hmx hmi bl3
  obtain ⟨d0, d1⟩ := two_cells hp
  obtain ⟨c0, c1, c2, c3⟩ := h3.cell
  obtain ⟨B', hB', _, hpm⟩ : ∃ B', Value.map (some pb) = .map (some B') ∧ S B' ∧ PM w3 B' n f k := by
    rcases h3.pages with ⟨h0, _⟩ | h0
    · cases h0
    · exact h0
  cases hB'
  obtain ⟨w4, hdel⟩ := hpm.del_run (show num < 2 ^ 64 by omega) 0
  have HDEL := Lib.hid hdel
  rw [← HX.out] at hdel
  have BLW := Lib.hid blw
  clear blw hp h3 hpm
  go_wp2_with fail
  (try simp only [Exit.inBlock, Exit.then]); refine bodyPost_ret (results_none rfl _ _ _) rfl ?_
  refine ⟨rfl, w3, BLW.out, ?_⟩
  rw [HX.out]
  exact HDEL.out
end Go.Proofs.Ytpalhkfipnbcnaa
