/-
  Atomic instructions by the reference.
-/
import Derived.Test.YtpalhkfipnbcnaaQ19
set_option linter.unusedVariables false
set_option linter.unusedSimpArgs false
namespace Go.Proofs.Ytpalhkfipnbcnaa
open Go.RowKit
set_option maxRecDepth 100000
theorem HAt.bl {w w' : World} {hb rb : Nat} {pc at_ held : Int} {xs : List Int} (h : HAt w hb rb pc xs at_ held) (k : Bl w w') : HAt w' hb rb pc xs at_ held := ⟨k.at_ h.blk, h.len⟩
theorem HAt.fr {U : Nat → Prop} {w w' : World} {hb rb : Nat} {pc at_ held : Int} {xs : List Int} (h : HAt w hb rb pc xs at_ held) (k : Fr U w w') (hn : ¬ U hb) : HAt w' hb rb pc xs at_ held := ⟨k.at_ h.blk hn, h.len⟩
/-- Behind the first stores: nothing is held; the answer's stop is there. -/
structure Mid (S : Nat → Prop) (w : World) (hb rb : Nat) (P : List Pg) (M : Nat → Int) (mo b0 b1 pc : Int) (xs : List Int) (V : World) : Prop where
  hart : HAt V hb rb pc xs 0 0
  stop : V.heap[w.heap.size]? = some (.cells #[.int .i64 0, .int .i64 0, .int .u64 0] 43 (0, 0))
  rp : RP (fun b => S b ∧ b < w.heap.size) V rb P M mo b0 b1
  fr : Fr (fun b => S b ∨ b = hb) w V
  lt : hb < w.heap.size
  nS : ¬ S hb
theorem load_lit4 {S : Nat → Prop} {mo b0 b1 : Int} {w : World} {rb : Nat} {P : List Pg} {M : Nat → Int} (h : RP S w rb P M mo b0 b1) (a : Nat) (ha : a < 2 ^ 64) : Calls Try.prog 36 #[addr0 rb, .int .u64 (a : Int), .int .i64 4] w (LoadPost w (regs P) M a 4) := rp_load h a 4 ha (by omega)
theorem load_lit8 {S : Nat → Prop} {mo b0 b1 : Int} {w : World} {rb : Nat} {P : List Pg} {M : Nat → Int} (h : RP S w rb P M mo b0 b1) (a : Nat) (ha : a < 2 ^ 64) : Calls Try.prog 36 #[addr0 rb, .int .u64 (a : Int), .int .i64 8] w (LoadPost w (regs P) M a 8) := rp_load h a 8 ha (by omega)
theorem probe_lit4 {S : Nat → Prop} {mo b0 b1 : Int} {w : World} {rb : Nat} {P : List Pg} {M : Nat → Int} (h : RP S w rb P M mo b0 b1) (a : Nat) (ha : a < 2 ^ 64) : Calls Try.prog 34 #[addr0 rb, .int .u64 (a : Int), .int .i64 4] w (FaultPost w (regs P) 2 a 4 2) := rp_probe h a 4 (by omega) (by omega) (by omega)
theorem store_lit4 {S : Nat → Prop} {mo b0 b1 : Int} {w : World} {rb : Nat} {P : List Pg} {M : Nat → Int} (h : RP S w rb P M mo b0 b1) (a : Nat) (x : Int) (ha : a < 2 ^ 64) : Calls Try.prog 35 #[addr0 rb, .int .u64 (a : Int), .int .i64 4, .int .u64 x] w (RStorePost S w rb P M mo b0 b1 a 4 x) := rp_store h a 4 x ha (by omega)
theorem probe_lit8 {S : Nat → Prop} {mo b0 b1 : Int} {w : World} {rb : Nat} {P : List Pg} {M : Nat → Int} (h : RP S w rb P M mo b0 b1) (a : Nat) (ha : a < 2 ^ 64) : Calls Try.prog 34 #[addr0 rb, .int .u64 (a : Int), .int .i64 8] w (FaultPost w (regs P) 2 a 8 2) := rp_probe h a 8 (by omega) (by omega) (by omega)
theorem store_lit8 {S : Nat → Prop} {mo b0 b1 : Int} {w : World} {rb : Nat} {P : List Pg} {M : Nat → Int} (h : RP S w rb P M mo b0 b1) (a : Nat) (x : Int) (ha : a < 2 ^ 64) : Calls Try.prog 35 #[addr0 rb, .int .u64 (a : Int), .int .i64 8, .int .u64 x] w (RStorePost S w rb P M mo b0 b1 a 8 x) := rp_store h a 8 x ha (by omega)
theorem sextI_n {M : Nat → Int} {a n : Nat} : sextI (numAt M a n) (8 * (n : Int)) = sextI (numAt M a n) (8 * (n : Int)) := rfl
section
variable {S : Nat → Prop} {mo b0 b1 : Int} {w V V' : World} {hb rb : Nat} {P : List Pg} {M M' : Nat → Int} {pc ha hn : Int} {xs : List Int}
theorem mid_of (h : RP S w rb P M mo b0 b1) (hh : HAt w hb rb pc xs ha hn) (hS : ¬ S hb) : Mid S w hb rb P M mo b0 b1 pc xs (((w.alloc (.cells #[.int .i64 0, .int .i64 0, .int .u64 0] 43)).setCell ⟨hb, 34, none⟩ (.int .i64 0)).setCell ⟨hb, 33, none⟩ (.int .u64 0)) := by
  have hlt := hh.lt
  have f : Fr (only hb) (w.alloc (.cells #[.int .i64 0, .int .i64 0, .int .u64 0] 43)) (((w.alloc (.cells #[.int .i64 0, .int .i64 0, .int .u64 0] 43)).setCell ⟨hb, 34, none⟩ (.int .i64 0)).setCell ⟨hb, 33, none⟩ (.int .u64 0)) := (Fr.set (S := only hb) (p := ⟨hb, 34, none⟩) rfl _).trans (Fr.set (S := only hb) (p := ⟨hb, 33, none⟩) rfl _)
  refine ⟨((hh.bl (Bl.new w _)).setHeld 0).setAt 0, f.at_ (heap_alloc_new w _) (fun e => by have : w.heap.size = hb := e; omega), ?_, (Fr.of_bl (Bl.new w _)).trans (f.mono fun b _ e => .inr e), hlt, hS⟩
  exact ((h.among (U := fun b => S b ∧ b < w.heap.size) fun b hb hS => ⟨hS, hb⟩).bl (Bl.new w _)).kept f (fun b _ e e2 => hS (by rw [← (show b = hb from e2)]; exact e.1))
theorem Mid.bl (h : Mid S w hb rb P M mo b0 b1 pc xs V) (k : Bl V V') : Mid S w hb rb P M mo b0 b1 pc xs V' := ⟨h.hart.bl k, k.at_ h.stop, h.rp.bl k, h.fr.trans (Fr.of_bl k), h.lt, h.nS⟩
theorem Mid.rturn (h : Mid S w hb rb P M mo b0 b1 pc xs V) (hr : RP (fun b => S b ∧ b < w.heap.size) V' rb P M' mo b0 b1) (k : Fr (fun b => S b ∧ b < w.heap.size) V V') : Mid S w hb rb P M' mo b0 b1 pc xs V' :=
  ⟨h.hart.fr k (fun e => h.nS e.1), k.at_ h.stop (fun e => by omega), hr, h.fr.trans (k.mono fun b _ e => .inl e.1), h.lt, h.nS⟩
/-- The stop is stored, and what is held: the end. -/
theorem Mid.fin (h : Mid S w hb rb P M mo b0 b1 pc xs V) (k fk fa : Int) :
    ((((V.setCell ⟨w.heap.size, 0, none⟩ (.int .i64 k)).setCell ⟨w.heap.size, 1, none⟩ (.int .i64 fk)).setCell ⟨w.heap.size, 2, none⟩ (.int .u64 fa))).heap[w.heap.size]? = some (.cells #[.int .i64 k, .int .i64 fk, .int .u64 fa] 43 (0, 0)) ∧
    HAt (((V.setCell ⟨w.heap.size, 0, none⟩ (.int .i64 k)).setCell ⟨w.heap.size, 1, none⟩ (.int .i64 fk)).setCell ⟨w.heap.size, 2, none⟩ (.int .u64 fa)) hb rb pc xs 0 0 ∧
    RP S (((V.setCell ⟨w.heap.size, 0, none⟩ (.int .i64 k)).setCell ⟨w.heap.size, 1, none⟩ (.int .i64 fk)).setCell ⟨w.heap.size, 2, none⟩ (.int .u64 fa)) rb P M mo b0 b1 ∧
    Fr (fun b => S b ∨ b = hb) w (((V.setCell ⟨w.heap.size, 0, none⟩ (.int .i64 k)).setCell ⟨w.heap.size, 1, none⟩ (.int .i64 fk)).setCell ⟨w.heap.size, 2, none⟩ (.int .u64 fa)) := by
  have f : Fr (only w.heap.size) V (((V.setCell ⟨w.heap.size, 0, none⟩ (.int .i64 k)).setCell ⟨w.heap.size, 1, none⟩ (.int .i64 fk)).setCell ⟨w.heap.size, 2, none⟩ (.int .u64 fa)) := ((Fr.set (S := only w.heap.size) (p := ⟨w.heap.size, 0, none⟩) rfl _).trans (Fr.set (S := only w.heap.size) (p := ⟨w.heap.size, 1, none⟩) rfl _)).trans (Fr.set (S := only w.heap.size) (p := ⟨w.heap.size, 2, none⟩) rfl _)
  have hl := h.lt
  refine ⟨set3 _ _ _ h.stop, h.hart.fr f (fun e => by have : hb = w.heap.size := e; omega), ?_, ((h.fr.newCell (p := ⟨w.heap.size, 0, none⟩) (Nat.le_refl _) _).newCell (p := ⟨w.heap.size, 1, none⟩) (Nat.le_refl _) _).newCell (p := ⟨w.heap.size, 2, none⟩) (Nat.le_refl _) _⟩
  exact (h.rp.kept f (fun b _ e e2 => by have : b = w.heap.size := e2; omega)).among fun b _ e => e.1
/-- What is held anew, then the stop. -/
theorem Mid.held (h : Mid S w hb rb P M mo b0 b1 pc xs V) (at_ hd : Int) : HAt ((V.setCell ⟨hb, 33, none⟩ (.int .u64 at_)).setCell ⟨hb, 34, none⟩ (.int .i64 hd)) hb rb pc xs at_ hd ∧ (((V.setCell ⟨hb, 33, none⟩ (.int .u64 at_)).setCell ⟨hb, 34, none⟩ (.int .i64 hd))).heap[w.heap.size]? = some (.cells #[.int .i64 0, .int .i64 0, .int .u64 0] 43 (0, 0)) ∧
    RP (fun b => S b ∧ b < w.heap.size) ((V.setCell ⟨hb, 33, none⟩ (.int .u64 at_)).setCell ⟨hb, 34, none⟩ (.int .i64 hd)) rb P M mo b0 b1 ∧ Fr (fun b => S b ∨ b = hb) w ((V.setCell ⟨hb, 33, none⟩ (.int .u64 at_)).setCell ⟨hb, 34, none⟩ (.int .i64 hd)) := by
  have f : Fr (only hb) V ((V.setCell ⟨hb, 33, none⟩ (.int .u64 at_)).setCell ⟨hb, 34, none⟩ (.int .i64 hd)) := (Fr.set (S := only hb) (p := ⟨hb, 33, none⟩) rfl _).trans (Fr.set (S := only hb) (p := ⟨hb, 34, none⟩) rfl _)
  have hl := h.lt
  exact ⟨(h.hart.setAt at_).setHeld hd, f.at_ h.stop (fun e => by have : w.heap.size = hb := e; omega), h.rp.kept f (fun b _ e e2 => h.nS (by rw [← (show b = hb from e2)]; exact e.1)), h.fr.trans (f.mono fun b _ e => .inr e)⟩
/-- The end, with something held. -/
theorem held_fin {V : World} {at_ hd : Int} (hlt : hb < w.heap.size) (hart : HAt V hb rb pc xs at_ hd) (stop : V.heap[w.heap.size]? = some (.cells #[.int .i64 0, .int .i64 0, .int .u64 0] 43 (0, 0))) (rp : RP (fun b => S b ∧ b < w.heap.size) V rb P M mo b0 b1) (fr : Fr (fun b => S b ∨ b = hb) w V) (k fk fa : Int) :
    ((((V.setCell ⟨w.heap.size, 0, none⟩ (.int .i64 k)).setCell ⟨w.heap.size, 1, none⟩ (.int .i64 fk)).setCell ⟨w.heap.size, 2, none⟩ (.int .u64 fa))).heap[w.heap.size]? = some (.cells #[.int .i64 k, .int .i64 fk, .int .u64 fa] 43 (0, 0)) ∧
    HAt (((V.setCell ⟨w.heap.size, 0, none⟩ (.int .i64 k)).setCell ⟨w.heap.size, 1, none⟩ (.int .i64 fk)).setCell ⟨w.heap.size, 2, none⟩ (.int .u64 fa)) hb rb pc xs at_ hd ∧
    RP S (((V.setCell ⟨w.heap.size, 0, none⟩ (.int .i64 k)).setCell ⟨w.heap.size, 1, none⟩ (.int .i64 fk)).setCell ⟨w.heap.size, 2, none⟩ (.int .u64 fa)) rb P M mo b0 b1 ∧
    Fr (fun b => S b ∨ b = hb) w (((V.setCell ⟨w.heap.size, 0, none⟩ (.int .i64 k)).setCell ⟨w.heap.size, 1, none⟩ (.int .i64 fk)).setCell ⟨w.heap.size, 2, none⟩ (.int .u64 fa)) := by
  have f : Fr (only w.heap.size) V (((V.setCell ⟨w.heap.size, 0, none⟩ (.int .i64 k)).setCell ⟨w.heap.size, 1, none⟩ (.int .i64 fk)).setCell ⟨w.heap.size, 2, none⟩ (.int .u64 fa)) := ((Fr.set (S := only w.heap.size) (p := ⟨w.heap.size, 0, none⟩) rfl _).trans (Fr.set (S := only w.heap.size) (p := ⟨w.heap.size, 1, none⟩) rfl _)).trans (Fr.set (S := only w.heap.size) (p := ⟨w.heap.size, 2, none⟩) rfl _)
  refine ⟨set3 _ _ _ stop, hart.fr f (fun e => by have : hb = w.heap.size := e; omega), ?_, ((fr.newCell (p := ⟨w.heap.size, 0, none⟩) (Nat.le_refl _) _).newCell (p := ⟨w.heap.size, 1, none⟩) (Nat.le_refl _) _).newCell (p := ⟨w.heap.size, 2, none⟩) (Nat.le_refl _) _⟩
  exact (rp.kept f (fun b _ e e2 => by have : b = w.heap.size := e2; omega)).among fun b _ e => e.1
theorem Mid.fset (h : Mid S w hb rb P M mo b0 b1 pc xs V) {g : Nat} {a b : Value} (hg : V.heap[g]? = some (.cells #[a, b] 41 (0, 0))) (hgt : w.heap.size < g) (x y : Value) : Mid S w hb rb P M mo b0 b1 pc xs ((V.setCell ⟨g, 0, none⟩ x).setCell ⟨g, 1, none⟩ y) ∧ ((V.setCell ⟨g, 0, none⟩ x).setCell ⟨g, 1, none⟩ y).heap[g]? = some (.cells #[x, y] 41 (0, 0)) := by
  have f : Fr (only g) V ((V.setCell ⟨g, 0, none⟩ x).setCell ⟨g, 1, none⟩ y) := (Fr.set (S := only g) (p := ⟨g, 0, none⟩) rfl _).trans (Fr.set (S := only g) (p := ⟨g, 1, none⟩) rfl _)
  have hl := h.lt
  exact ⟨⟨h.hart.fr f (fun e => by have : hb = g := e; omega), f.at_ h.stop (fun e => by have : w.heap.size = g := e; omega), h.rp.kept f (fun b _ e e2 => by have : b = g := e2; omega), (h.fr.newCell (p := ⟨g, 0, none⟩) (Nat.le_of_lt hgt) _).newCell (p := ⟨g, 1, none⟩) (Nat.le_of_lt hgt) _, hl, h.nS⟩, set2 _ _ hg⟩
def RAtomPost (S : Nat → Prop) (w : World) (hb rb : Nat) (P : List Pg) (M : Nat → Int) (mo b0 b1 pc : Int) (xs : List Int) (ha hn op : Int) (a : Nat) (x : Int) (e : Ending) (w' : World) : Prop := ∃ o M', e = .returned (.tuple #[.int .u64 o.y, stopV o.k o.fk o.fa]) ∧ StepIs (regs P) M ha hn op a x o M' ∧ HAt w' hb rb pc xs o.ta o.tn ∧ RP S w' rb P M' mo b0 b1 ∧ Fr (fun b => S b ∨ b = hb) w w'
set_option maxHeartbeats 8000000 in
theorem ratom_none (h : RP S w rb P M mo b0 b1) (hh : HAt w hb rb pc xs ha hn) (hS : ¬ S hb) (op : Int) (a : Nat) (x : Int) (hA : a < 2 ^ 64) (hx0 : 0 ≤ x) (hx1 : x < 18446744073709551616) (ho : op < 63 ∨ 84 < op) :
    Calls Try.prog 14 #[addr0 hb, .int .i64 op, .int .u64 (a : Int), .int .u64 x] w (RAtomPost S w hb rb P M mo b0 b1 pc xs ha hn op a x) := by
  have cw : ∀ w, Calls Try.prog 11 #[.int .i64 op] w fun e w' => e = .returned (.int .i64 0) ∧ w = w' := fun w => by
    have := rwidth_any op w
    rwa [awid0 ho] at this
  have CW := Lib.hid cw; clear cw
  have hmid := mid_of h hh hS
  obtain ⟨c0, c1, c2⟩ := (hh.bl (Bl.new w (.cells #[.int .i64 0, .int .i64 0, .int .u64 0] 43))).cells
  have q0 := (hh.bl (Bl.new w (.cells #[.int .i64 0, .int .i64 0, .int .u64 0] 43))).frozen 33
  have q1 := (hh.bl (Bl.new w (.cells #[.int .i64 0, .int .i64 0, .int .u64 0] 43))).frozen 34
  have HMID := Lib.hid hmid; clear hmid h hh hS
  have haI : (a : Int) ≤ 18446744073709551615 := by omega
  have haI0 : (0 : Int) ≤ (a : Int) := by omega
  have HA := Lib.hid hA; clear hA
  have HS := Lib.hid (StepIs.none_ (awid0 ho) : StepIs (regs P) M ha hn op a x (badO 3 0 0) M); clear ho
  have HX := Lib.hid (And.intro hx0 hx1); clear hx0 hx1
  unfold addr0 at *
  go_enter Try.func14, Try.ntmps14
  go_wp2_with fail
  with_reducible refine (CW.out _).mono ?_
  rintro e w' ⟨rfl, rfl⟩
  obtain ⟨W, hW⟩ : ∃ W, W = w.alloc (.cells #[.int .i64 0, .int .i64 0, .int .u64 0] 43) := ⟨_, rfl⟩
  rw [← hW] at c0 c1 c2 q0 q1 HMID ⊢
  clear hW
  go_upto_region 6 with (fail)
  obtain ⟨V, hV⟩ : ∃ V, V = (W.setCell ⟨hb, 34, none⟩ (.int .i64 0)).setCell ⟨hb, 33, none⟩ (.int .u64 0) := ⟨_, rfl⟩
  rw [← hV] at HMID ⊢
  clear hV c0 c1 c2 q0 q1
  obtain ⟨c0, c1, c2⟩ := HMID.out.hart.cells
  have q0 := HMID.out.hart.frozen 33
  have q1 := HMID.out.hart.frozen 34
  obtain ⟨d0, d1, d2, r0, r1, r2⟩ := row3 HMID.out.stop
  go_wp2_with fail
  (try simp only [Exit.inBlock, Exit.then])
  obtain ⟨s1, s2, s3, s4⟩ := HMID.out.fin 3 0 0
  refine bodyPost_ret (results_tmp_row rfl _ _ w.heap.size 43 _ (0, 0) _ rfl (s1) Try.underlying43 rfl (by kernel_rfl)) rfl ?_
  exact ⟨badO 3 0 0, M, rfl, HS.out, s2, s3, s4⟩
set_option maxHeartbeats 8000000 in
theorem ratom_align4 (h : RP S w rb P M mo b0 b1) (hh : HAt w hb rb pc xs ha hn) (hS : ¬ S hb) (op : Int) (a : Nat) (x : Int) (hA : a < 2 ^ 64) (hx0 : 0 ≤ x) (hx1 : x < 18446744073709551616) (ho : awid op = 4) (hm : (a : Int) % 4 ≠ 0) :
    Calls Try.prog 14 #[addr0 hb, .int .i64 op, .int .u64 (a : Int), .int .u64 x] w (RAtomPost S w hb rb P M mo b0 b1 pc xs ha hn op a x) := by
  have cw : ∀ w, Calls Try.prog 11 #[.int .i64 op] w fun e w' => e = .returned (.int .i64 4) ∧ w = w' := fun w => by
    have := rwidth_any op w
    rwa [ho] at this
  have CW := Lib.hid cw; clear cw
  have hmid := mid_of h hh hS
  obtain ⟨c0, c1, c2⟩ := (hh.bl (Bl.new w (.cells #[.int .i64 0, .int .i64 0, .int .u64 0] 43))).cells
  have q0 := (hh.bl (Bl.new w (.cells #[.int .i64 0, .int .i64 0, .int .u64 0] 43))).frozen 33
  have q1 := (hh.bl (Bl.new w (.cells #[.int .i64 0, .int .i64 0, .int .u64 0] 43))).frozen 34
  have HMID := Lib.hid hmid; clear hmid h hh hS
  have haI : (a : Int) ≤ 18446744073709551615 := by omega
  have haI0 : (0 : Int) ≤ (a : Int) := by omega
  have HA := Lib.hid hA; clear hA
  have HS := Lib.hid (StepIs.align (by omega) (by rw [ho]; exact hm) : StepIs (regs P) M ha hn op a x (badO 5 0 a) M); clear ho
  have t1 : ((a : Int) % 4 != 0) = true := by simp only [bne_iff_ne, ne_eq]; exact hm
  clear hm
  have HX := Lib.hid (And.intro hx0 hx1); clear hx0 hx1
  unfold addr0 at *
  go_enter Try.func14, Try.ntmps14
  go_wp2_with fail
  with_reducible refine (CW.out _).mono ?_
  rintro e w' ⟨rfl, rfl⟩
  obtain ⟨W, hW⟩ : ∃ W, W = w.alloc (.cells #[.int .i64 0, .int .i64 0, .int .u64 0] 43) := ⟨_, rfl⟩
  rw [← hW] at c0 c1 c2 q0 q1 HMID ⊢
  clear hW
  go_upto_region 6 with (fail)
  obtain ⟨V, hV⟩ : ∃ V, V = (W.setCell ⟨hb, 34, none⟩ (.int .i64 0)).setCell ⟨hb, 33, none⟩ (.int .u64 0) := ⟨_, rfl⟩
  rw [← hV] at HMID ⊢
  clear hV c0 c1 c2 q0 q1
  obtain ⟨c0, c1, c2⟩ := HMID.out.hart.cells
  have q0 := HMID.out.hart.frozen 33
  have q1 := HMID.out.hart.frozen 34
  obtain ⟨d0, d1, d2, r0, r1, r2⟩ := row3 HMID.out.stop
  go_wp2_with fail
  (try simp only [Exit.inBlock, Exit.then])
  obtain ⟨s1, s2, s3, s4⟩ := HMID.out.fin 5 0 a
  refine bodyPost_ret (results_tmp_row rfl _ _ w.heap.size 43 _ (0, 0) _ rfl (s1) Try.underlying43 rfl (by kernel_rfl)) rfl ?_
  exact ⟨badO 5 0 a, M, rfl, HS.out, s2, s3, s4⟩
set_option maxHeartbeats 8000000 in
theorem ratom_align8 (h : RP S w rb P M mo b0 b1) (hh : HAt w hb rb pc xs ha hn) (hS : ¬ S hb) (op : Int) (a : Nat) (x : Int) (hA : a < 2 ^ 64) (hx0 : 0 ≤ x) (hx1 : x < 18446744073709551616) (ho : awid op = 8) (hm : (a : Int) % 8 ≠ 0) :
    Calls Try.prog 14 #[addr0 hb, .int .i64 op, .int .u64 (a : Int), .int .u64 x] w (RAtomPost S w hb rb P M mo b0 b1 pc xs ha hn op a x) := by
  have cw : ∀ w, Calls Try.prog 11 #[.int .i64 op] w fun e w' => e = .returned (.int .i64 8) ∧ w = w' := fun w => by
    have := rwidth_any op w
    rwa [ho] at this
  have CW := Lib.hid cw; clear cw
  have hmid := mid_of h hh hS
  obtain ⟨c0, c1, c2⟩ := (hh.bl (Bl.new w (.cells #[.int .i64 0, .int .i64 0, .int .u64 0] 43))).cells
  have q0 := (hh.bl (Bl.new w (.cells #[.int .i64 0, .int .i64 0, .int .u64 0] 43))).frozen 33
  have q1 := (hh.bl (Bl.new w (.cells #[.int .i64 0, .int .i64 0, .int .u64 0] 43))).frozen 34
  have HMID := Lib.hid hmid; clear hmid h hh hS
  have haI : (a : Int) ≤ 18446744073709551615 := by omega
  have haI0 : (0 : Int) ≤ (a : Int) := by omega
  have HA := Lib.hid hA; clear hA
  have HS := Lib.hid (StepIs.align (by omega) (by rw [ho]; exact hm) : StepIs (regs P) M ha hn op a x (badO 5 0 a) M); clear ho
  have t1 : ((a : Int) % 8 != 0) = true := by simp only [bne_iff_ne, ne_eq]; exact hm
  clear hm
  have HX := Lib.hid (And.intro hx0 hx1); clear hx0 hx1
  unfold addr0 at *
  go_enter Try.func14, Try.ntmps14
  go_wp2_with fail
  with_reducible refine (CW.out _).mono ?_
  rintro e w' ⟨rfl, rfl⟩
  obtain ⟨W, hW⟩ : ∃ W, W = w.alloc (.cells #[.int .i64 0, .int .i64 0, .int .u64 0] 43) := ⟨_, rfl⟩
  rw [← hW] at c0 c1 c2 q0 q1 HMID ⊢
  clear hW
  go_upto_region 6 with (fail)
  obtain ⟨V, hV⟩ : ∃ V, V = (W.setCell ⟨hb, 34, none⟩ (.int .i64 0)).setCell ⟨hb, 33, none⟩ (.int .u64 0) := ⟨_, rfl⟩
  rw [← hV] at HMID ⊢
  clear hV c0 c1 c2 q0 q1
  obtain ⟨c0, c1, c2⟩ := HMID.out.hart.cells
  have q0 := HMID.out.hart.frozen 33
  have q1 := HMID.out.hart.frozen 34
  obtain ⟨d0, d1, d2, r0, r1, r2⟩ := row3 HMID.out.stop
  go_wp2_with fail
  (try simp only [Exit.inBlock, Exit.then])
  obtain ⟨s1, s2, s3, s4⟩ := HMID.out.fin 5 0 a
  refine bodyPost_ret (results_tmp_row rfl _ _ w.heap.size 43 _ (0, 0) _ rfl (s1) Try.underlying43 rfl (by kernel_rfl)) rfl ?_
  exact ⟨badO 5 0 a, M, rfl, HS.out, s2, s3, s4⟩
set_option maxHeartbeats 8000000 in
theorem ratom_lr4 (h : RP S w rb P M mo b0 b1) (hh : HAt w hb rb pc xs ha hn) (hS : ¬ S hb) (a : Nat) (x : Int) (hA : a < 2 ^ 64) (hx0 : 0 ≤ x) (hx1 : x < 18446744073709551616) (hm : (a : Int) % 4 = 0) :
    Calls Try.prog 14 #[addr0 hb, .int .i64 63, .int .u64 (a : Int), .int .u64 x] w (RAtomPost S w hb rb P M mo b0 b1 pc xs ha hn 63 a x) := by
  have cw : ∀ w, Calls Try.prog 11 #[.int .i64 63] w fun e w' => e = .returned (.int .i64 4) ∧ w = w' := fun w => by
    have := rwidth_any 63 w
    rwa [show awid 63 = 4 from rfl] at this
  have CW := Lib.hid cw; clear cw
  have hmid := mid_of h hh hS
  obtain ⟨c0, c1, c2⟩ := (hh.bl (Bl.new w (.cells #[.int .i64 0, .int .i64 0, .int .u64 0] 43))).cells
  have q0 := (hh.bl (Bl.new w (.cells #[.int .i64 0, .int .i64 0, .int .u64 0] 43))).frozen 33
  have q1 := (hh.bl (Bl.new w (.cells #[.int .i64 0, .int .i64 0, .int .u64 0] 43))).frozen 34
  have HMID := Lib.hid hmid; clear hmid h hh hS
  have haI : (a : Int) ≤ 18446744073709551615 := by omega
  have haI0 : (0 : Int) ≤ (a : Int) := by omega
  have HA := Lib.hid hA; clear hA
  have t1 : ((a : Int) % 4 != 0) = false := by simp [hm]
  have HM := Lib.hid hm; clear hm
  have HX := Lib.hid (And.intro hx0 hx1); clear hx0 hx1
  unfold addr0 at *
  go_enter Try.func14, Try.ntmps14
  go_wp2_with fail
  with_reducible refine (CW.out _).mono ?_
  rintro e w' ⟨rfl, rfl⟩
  obtain ⟨W, hW⟩ : ∃ W, W = w.alloc (.cells #[.int .i64 0, .int .i64 0, .int .u64 0] 43) := ⟨_, rfl⟩
  rw [← hW] at c0 c1 c2 q0 q1 HMID ⊢
  clear hW
  go_upto_region 6 with (fail)
  obtain ⟨V, hV⟩ : ∃ V, V = (W.setCell ⟨hb, 34, none⟩ (.int .i64 0)).setCell ⟨hb, 33, none⟩ (.int .u64 0) := ⟨_, rfl⟩
  rw [← hV] at HMID ⊢
  clear hV c0 c1 c2 q0 q1
  obtain ⟨c0, c1, c2⟩ := HMID.out.hart.cells
  have q0 := HMID.out.hart.frozen 33
  have q1 := HMID.out.hart.frozen 34
  obtain ⟨d0, d1, d2, r0, r1, r2⟩ := row3 HMID.out.stop
  have cl := load_lit4 HMID.out.rp a HA.out
  have CL := Lib.hid cl; clear cl
  have HN := Lib.hid (sextI_n (M := M) (a := a) (n := 4))
  unfold addr0 at *
  go_wp2_with fail
  with_reducible refine CL.out.mono ?_
  rintro e w1 ⟨old, k, y, rfl, hh, kk⟩
  have HM1 := Lib.hid (HMID.out.bl kk); clear HMID kk c0 c1 c2 q0 q1 d0 d1 d2 r0 r1 r2
  unfold faultV
  rcases hh with ⟨rfl, hy, hh⟩ | ⟨rfl, hx, hy, hh⟩
  · have HH := Lib.hid hh; clear hh
    have HM2 := Lib.hid (HM1.out.bl (Bl.new w1 (.cells #[.int .i64 1, .int .u64 y] 41)))
    obtain ⟨d0, d1, d2, r0, r1, r2⟩ := row3 HM2.out.stop
    obtain ⟨f0, f1, g0, g1⟩ := row2 (heap_alloc_new w1 (.cells #[.int .i64 1, .int .u64 y] 41))
    go_upto_region 20 with (fail)
    generalize w1.alloc (.cells #[.int .i64 1, .int .u64 y] 41) = V2 at *
    go_region
    all_goals (
      (try go_wp2_with fail)
      (try simp only [Exit.inBlock, Exit.then])
      obtain ⟨s1, s2, s3, s4⟩ := (HM2.out.bl ((Bl.refl _).drew)).fin 4 1 y
      refine bodyPost_ret (results_tmp_row rfl _ _ w.heap.size 43 _ (0, 0) _ rfl (s1) Try.underlying43 rfl (by kernel_rfl)) rfl ?_
      exact ⟨badO 4 1 y, M, rfl, StepIs.lrBad y (by simp) HM.out HH.out, s2, s3, s4⟩)
  · have HH := Lib.hid hh; clear hh
    subst hx
    have HM2 := Lib.hid (HM1.out.bl (Bl.new w1 (.cells #[.int .i64 0, .int .u64 0] 41)))
    obtain ⟨c0, c1, c2⟩ := HM2.out.hart.cells
    have q0 := HM2.out.hart.frozen 33
    have q1 := HM2.out.hart.frozen 34
    obtain ⟨d0, d1, d2, r0, r1, r2⟩ := row3 HM2.out.stop
    obtain ⟨f0, f1, g0, g1⟩ := row2 (heap_alloc_new w1 (.cells #[.int .i64 0, .int .u64 0] 41))
    go_upto_region 21 with (fail)
    generalize w1.alloc (.cells #[.int .i64 0, .int .u64 0] 41) = V2 at *
    go_upto_region 24 with (fail)
    obtain ⟨u1, u2, u3, u4⟩ := HM2.out.held (a : Int) 4
    have HLT := Lib.hid HM2.out.lt
    obtain ⟨V3, hV3⟩ : ∃ V3, V3 = (V2.setCell ⟨hb, 33, none⟩ (.int .u64 (a : Int))).setCell ⟨hb, 34, none⟩ (.int .i64 4) := ⟨_, rfl⟩
    rw [← hV3] at u1 u2 u3 u4 ⊢
    clear hV3 HM2 HM1 c0 c1 c2 q0 q1 d0 d1 d2 r0 r1 r2 f0 f1 g0 g1
    obtain ⟨d0, d1, d2, r0, r1, r2⟩ := row3 u2
    have U1 := Lib.hid u1; clear u1
    have U2 := Lib.hid u2; clear u2
    have U3 := Lib.hid u3
    have U4 := Lib.hid u4; clear u4
    have nb := numAt_bd u3.by_ a 4 (by omega)
    clear u3
    have cs := fun w => refSext_any (numAt M a 4) 32 w nb.1
    have CS := Lib.hid cs; clear cs nb
    subst hy
    go_wp2_with fail
    with_reducible refine (CS.out _).mono ?_
    rintro e w' ⟨rfl, rfl⟩
    go_wp2_with fail
    (try simp only [Exit.inBlock, Exit.then])
    obtain ⟨s1, s2, s3, s4⟩ := held_fin HLT.out U1.out U2.out U3.out U4.out 0 0 0
    refine bodyPost_ret (results_tmp_row rfl _ _ w.heap.size 43 _ (0, 0) _ rfl (s1) Try.underlying43 rfl (by kernel_rfl)) rfl ?_
    exact ⟨⟨sextI (numAt M a 4) 32, a, 4, 0, 0, 0⟩, M, rfl, StepIs.lrYes (by simp) HM.out HH.out, s2, s3, s4⟩
set_option maxHeartbeats 8000000 in
theorem ratom_lr8 (h : RP S w rb P M mo b0 b1) (hh : HAt w hb rb pc xs ha hn) (hS : ¬ S hb) (a : Nat) (x : Int) (hA : a < 2 ^ 64) (hx0 : 0 ≤ x) (hx1 : x < 18446744073709551616) (hm : (a : Int) % 8 = 0) :
    Calls Try.prog 14 #[addr0 hb, .int .i64 74, .int .u64 (a : Int), .int .u64 x] w (RAtomPost S w hb rb P M mo b0 b1 pc xs ha hn 74 a x) := by
  have cw : ∀ w, Calls Try.prog 11 #[.int .i64 74] w fun e w' => e = .returned (.int .i64 8) ∧ w = w' := fun w => by
    have := rwidth_any 74 w
    rwa [show awid 74 = 8 from rfl] at this
  have CW := Lib.hid cw; clear cw
  have hmid := mid_of h hh hS
  obtain ⟨c0, c1, c2⟩ := (hh.bl (Bl.new w (.cells #[.int .i64 0, .int .i64 0, .int .u64 0] 43))).cells
  have q0 := (hh.bl (Bl.new w (.cells #[.int .i64 0, .int .i64 0, .int .u64 0] 43))).frozen 33
  have q1 := (hh.bl (Bl.new w (.cells #[.int .i64 0, .int .i64 0, .int .u64 0] 43))).frozen 34
  have HMID := Lib.hid hmid; clear hmid h hh hS
  have haI : (a : Int) ≤ 18446744073709551615 := by omega
  have haI0 : (0 : Int) ≤ (a : Int) := by omega
  have HA := Lib.hid hA; clear hA
  have t1 : ((a : Int) % 8 != 0) = false := by simp [hm]
  have HM := Lib.hid hm; clear hm
  have HX := Lib.hid (And.intro hx0 hx1); clear hx0 hx1
  unfold addr0 at *
  go_enter Try.func14, Try.ntmps14
  go_wp2_with fail
  with_reducible refine (CW.out _).mono ?_
  rintro e w' ⟨rfl, rfl⟩
  obtain ⟨W, hW⟩ : ∃ W, W = w.alloc (.cells #[.int .i64 0, .int .i64 0, .int .u64 0] 43) := ⟨_, rfl⟩
  rw [← hW] at c0 c1 c2 q0 q1 HMID ⊢
  clear hW
  go_upto_region 6 with (fail)
  obtain ⟨V, hV⟩ : ∃ V, V = (W.setCell ⟨hb, 34, none⟩ (.int .i64 0)).setCell ⟨hb, 33, none⟩ (.int .u64 0) := ⟨_, rfl⟩
  rw [← hV] at HMID ⊢
  clear hV c0 c1 c2 q0 q1
  obtain ⟨c0, c1, c2⟩ := HMID.out.hart.cells
  have q0 := HMID.out.hart.frozen 33
  have q1 := HMID.out.hart.frozen 34
  obtain ⟨d0, d1, d2, r0, r1, r2⟩ := row3 HMID.out.stop
  have cl := load_lit8 HMID.out.rp a HA.out
  have CL := Lib.hid cl; clear cl
  have HN := Lib.hid (sextI_n (M := M) (a := a) (n := 8))
  unfold addr0 at *
  go_wp2_with fail
  with_reducible refine CL.out.mono ?_
  rintro e w1 ⟨old, k, y, rfl, hh, kk⟩
  have HM1 := Lib.hid (HMID.out.bl kk); clear HMID kk c0 c1 c2 q0 q1 d0 d1 d2 r0 r1 r2
  unfold faultV
  rcases hh with ⟨rfl, hy, hh⟩ | ⟨rfl, hx, hy, hh⟩
  · have HH := Lib.hid hh; clear hh
    have HM2 := Lib.hid (HM1.out.bl (Bl.new w1 (.cells #[.int .i64 1, .int .u64 y] 41)))
    obtain ⟨d0, d1, d2, r0, r1, r2⟩ := row3 HM2.out.stop
    obtain ⟨f0, f1, g0, g1⟩ := row2 (heap_alloc_new w1 (.cells #[.int .i64 1, .int .u64 y] 41))
    go_upto_region 20 with (fail)
    generalize w1.alloc (.cells #[.int .i64 1, .int .u64 y] 41) = V2 at *
    go_region
    all_goals (
      (try go_wp2_with fail)
      (try simp only [Exit.inBlock, Exit.then])
      obtain ⟨s1, s2, s3, s4⟩ := (HM2.out.bl ((Bl.refl _).drew)).fin 4 1 y
      refine bodyPost_ret (results_tmp_row rfl _ _ w.heap.size 43 _ (0, 0) _ rfl (s1) Try.underlying43 rfl (by kernel_rfl)) rfl ?_
      exact ⟨badO 4 1 y, M, rfl, StepIs.lrBad y (by simp) HM.out HH.out, s2, s3, s4⟩)
  · have HH := Lib.hid hh; clear hh
    subst hx
    have HM2 := Lib.hid (HM1.out.bl (Bl.new w1 (.cells #[.int .i64 0, .int .u64 0] 41)))
    obtain ⟨c0, c1, c2⟩ := HM2.out.hart.cells
    have q0 := HM2.out.hart.frozen 33
    have q1 := HM2.out.hart.frozen 34
    obtain ⟨d0, d1, d2, r0, r1, r2⟩ := row3 HM2.out.stop
    obtain ⟨f0, f1, g0, g1⟩ := row2 (heap_alloc_new w1 (.cells #[.int .i64 0, .int .u64 0] 41))
    go_upto_region 21 with (fail)
    generalize w1.alloc (.cells #[.int .i64 0, .int .u64 0] 41) = V2 at *
    go_upto_region 24 with (fail)
    obtain ⟨u1, u2, u3, u4⟩ := HM2.out.held (a : Int) 8
    have HLT := Lib.hid HM2.out.lt
    obtain ⟨V3, hV3⟩ : ∃ V3, V3 = (V2.setCell ⟨hb, 33, none⟩ (.int .u64 (a : Int))).setCell ⟨hb, 34, none⟩ (.int .i64 8) := ⟨_, rfl⟩
    rw [← hV3] at u1 u2 u3 u4 ⊢
    clear hV3 HM2 HM1 c0 c1 c2 q0 q1 d0 d1 d2 r0 r1 r2 f0 f1 g0 g1
    obtain ⟨d0, d1, d2, r0, r1, r2⟩ := row3 u2
    have U1 := Lib.hid u1; clear u1
    have U2 := Lib.hid u2; clear u2
    have U3 := Lib.hid u3
    have U4 := Lib.hid u4; clear u4
    have nb := numAt_bd u3.by_ a 8 (by omega)
    clear u3
    have cs := fun w => refSext_any (numAt M a 8) 64 w nb.1
    have CS := Lib.hid cs; clear cs nb
    subst hy
    go_wp2_with fail
    with_reducible refine (CS.out _).mono ?_
    rintro e w' ⟨rfl, rfl⟩
    go_wp2_with fail
    (try simp only [Exit.inBlock, Exit.then])
    obtain ⟨s1, s2, s3, s4⟩ := held_fin HLT.out U1.out U2.out U3.out U4.out 0 0 0
    refine bodyPost_ret (results_tmp_row rfl _ _ w.heap.size 43 _ (0, 0) _ rfl (s1) Try.underlying43 rfl (by kernel_rfl)) rfl ?_
    exact ⟨⟨sextI (numAt M a 8) 64, a, 8, 0, 0, 0⟩, M, rfl, StepIs.lrYes (by simp) HM.out HH.out, s2, s3, s4⟩
set_option maxHeartbeats 8000000 in
theorem ratom_sc4 (h : RP S w rb P M mo b0 b1) (hh : HAt w hb rb pc xs ha hn) (hS : ¬ S hb) (a : Nat) (x : Int) (hA : a < 2 ^ 64) (hx0 : 0 ≤ x) (hx1 : x < 18446744073709551616) (hm : (a : Int) % 4 = 0) :
    Calls Try.prog 14 #[addr0 hb, .int .i64 64, .int .u64 (a : Int), .int .u64 x] w (RAtomPost S w hb rb P M mo b0 b1 pc xs ha hn 64 a x) := by
  have cw : ∀ w, Calls Try.prog 11 #[.int .i64 64] w fun e w' => e = .returned (.int .i64 4) ∧ w = w' := fun w => by
    have := rwidth_any 64 w
    rwa [show awid 64 = 4 from rfl] at this
  have CW := Lib.hid cw; clear cw
  have hmid := mid_of h hh hS
  obtain ⟨c0, c1, c2⟩ := (hh.bl (Bl.new w (.cells #[.int .i64 0, .int .i64 0, .int .u64 0] 43))).cells
  have q0 := (hh.bl (Bl.new w (.cells #[.int .i64 0, .int .i64 0, .int .u64 0] 43))).frozen 33
  have q1 := (hh.bl (Bl.new w (.cells #[.int .i64 0, .int .i64 0, .int .u64 0] 43))).frozen 34
  have HMID := Lib.hid hmid; clear hmid h hh hS
  have haI : (a : Int) ≤ 18446744073709551615 := by omega
  have haI0 : (0 : Int) ≤ (a : Int) := by omega
  have HA := Lib.hid hA; clear hA
  have t1 : ((a : Int) % 4 != 0) = false := by simp [hm]
  have HM := Lib.hid hm; clear hm
  have HX := Lib.hid (And.intro hx0 hx1); clear hx0 hx1
  unfold addr0 at *
  go_enter Try.func14, Try.ntmps14
  go_wp2_with fail
  with_reducible refine (CW.out _).mono ?_
  rintro e w' ⟨rfl, rfl⟩
  obtain ⟨W, hW⟩ : ∃ W, W = w.alloc (.cells #[.int .i64 0, .int .i64 0, .int .u64 0] 43) := ⟨_, rfl⟩
  rw [← hW] at c0 c1 c2 q0 q1 HMID ⊢
  clear hW
  go_upto_region 6 with (fail)
  obtain ⟨V, hV⟩ : ∃ V, V = (W.setCell ⟨hb, 34, none⟩ (.int .i64 0)).setCell ⟨hb, 33, none⟩ (.int .u64 0) := ⟨_, rfl⟩
  rw [← hV] at HMID ⊢
  clear hV c0 c1 c2 q0 q1
  obtain ⟨c0, c1, c2⟩ := HMID.out.hart.cells
  have q0 := HMID.out.hart.frozen 33
  have q1 := HMID.out.hart.frozen 34
  obtain ⟨d0, d1, d2, r0, r1, r2⟩ := row3 HMID.out.stop
  have cl := probe_lit4 HMID.out.rp a HA.out
  have CL := Lib.hid cl; clear cl
  unfold addr0 at *
  go_wp2_with fail
  with_reducible refine CL.out.mono ?_
  rintro e w1 ⟨k, y, rfl, hh, kk⟩
  have HM1 := Lib.hid (HMID.out.bl kk); clear HMID kk c0 c1 c2 q0 q1 d0 d1 d2 r0 r1 r2
  unfold faultV
  rcases hh with ⟨rfl, hh⟩ | ⟨rfl, hx, hh⟩
  · have HH := Lib.hid hh; clear hh
    have HM2 := Lib.hid (HM1.out.bl (Bl.new w1 (.cells #[.int .i64 2, .int .u64 y] 41)))
    obtain ⟨d0, d1, d2, r0, r1, r2⟩ := row3 HM2.out.stop
    obtain ⟨f0, f1, g0, g1⟩ := row2 (heap_alloc_new w1 (.cells #[.int .i64 2, .int .u64 y] 41))
    go_upto_region 13 with (fail)
    generalize w1.alloc (.cells #[.int .i64 2, .int .u64 y] 41) = V2 at *
    go_region
    all_goals (
      (try go_wp2_with fail)
      (try simp only [Exit.inBlock, Exit.then])
      obtain ⟨s1, s2, s3, s4⟩ := (HM2.out.bl ((Bl.refl _).drew)).fin 4 2 y
      refine bodyPost_ret (results_tmp_row rfl _ _ w.heap.size 43 _ (0, 0) _ rfl (s1) Try.underlying43 rfl (by kernel_rfl)) rfl ?_
      exact ⟨badO 4 2 y, M, rfl, StepIs.scBad y (by simp) HM.out HH.out, s2, s3, s4⟩)
  · have HH := Lib.hid hh; clear hh
    subst hx
    have HM2 := Lib.hid (HM1.out.bl (Bl.new w1 (.cells #[.int .i64 0, .int .u64 0] 41)))
    obtain ⟨c0, c1, c2⟩ := HM2.out.hart.cells
    unfold addr0 at c2
    obtain ⟨d0, d1, d2, r0, r1, r2⟩ := row3 HM2.out.stop
    obtain ⟨f0, f1, g0, g1⟩ := row2 (heap_alloc_new w1 (.cells #[.int .i64 0, .int .u64 0] 41))
    go_upto_region 14 with (fail)
    generalize w1.alloc (.cells #[.int .i64 0, .int .u64 0] 41) = V2 at *
    have hcase : ((hn != 4) = true ∧ ¬ (ha = a ∧ hn = 4)) ∨ ((hn != 4) = false ∧ (ha != (a : Int)) = true ∧ ¬ (ha = a ∧ hn = 4)) ∨ ((hn != 4) = false ∧ (ha != (a : Int)) = false ∧ (ha = a ∧ hn = 4)) := by
      by_cases e1 : hn = 4
      · by_cases e2 : ha = a
        · exact .inr (.inr ⟨by simp [e1], by simp [e2], e2, e1⟩)
        · exact .inr (.inl ⟨by simp [e1], by simp [e2], fun h => e2 h.1⟩)
      · exact .inl ⟨by simp [e1], fun h => e1 h.2⟩
    rcases hcase with ⟨t2, hno⟩ | ⟨t2, t3, hno⟩ | ⟨t2, t3, hyes⟩
    · have HNO := Lib.hid hno; clear hno
      go_wp2_with fail
      (try simp only [Exit.inBlock, Exit.then])
      obtain ⟨s1, s2, s3, s4⟩ := HM2.out.fin 0 0 0
      refine bodyPost_ret (results_tmp_row rfl _ _ w.heap.size 43 _ (0, 0) _ rfl (s1) Try.underlying43 rfl (by kernel_rfl)) rfl ?_
      exact ⟨⟨1, 0, 0, 0, 0, 0⟩, M, rfl, StepIs.scNo (by simp) HM.out HH.out HNO.out, s2, s3, s4⟩
    · have HNO := Lib.hid hno; clear hno
      go_wp2_with fail
      (try simp only [Exit.inBlock, Exit.then])
      obtain ⟨s1, s2, s3, s4⟩ := HM2.out.fin 0 0 0
      refine bodyPost_ret (results_tmp_row rfl _ _ w.heap.size 43 _ (0, 0) _ rfl (s1) Try.underlying43 rfl (by kernel_rfl)) rfl ?_
      exact ⟨⟨1, 0, 0, 0, 0, 0⟩, M, rfl, StepIs.scNo (by simp) HM.out HH.out HNO.out, s2, s3, s4⟩
    · have HYES := Lib.hid hyes; clear hyes
      have cst := store_lit4 HM2.out.rp a x HA.out
      have CST := Lib.hid cst; clear cst
      unfold addr0 at CST
      go_wp2_with fail
      with_reducible refine CST.out.mono ?_
      rintro e w3 ⟨k, z, rfl, hs⟩
      rcases hs with ⟨hk, z1, z2, z3, _⟩ | ⟨hk, hz, _, hrp, hfr⟩
      · exact absurd (HH.out z z1 z2) z3
      · have HM3 := Lib.hid (HM2.out.rturn hrp hfr)
        clear hrp hfr c0 c1 c2 d0 d1 d2 r0 r1 r2 f0 f1 g0 g1
        obtain ⟨d0, d1, d2, r0, r1, r2⟩ := row3 HM3.out.stop
        go_wp2_with fail
        (try simp only [Exit.inBlock, Exit.then])
        obtain ⟨s1, s2, s3, s4⟩ := HM3.out.fin 0 0 0
        refine bodyPost_ret (results_tmp_row rfl _ _ w.heap.size 43 _ (0, 0) _ rfl (s1) Try.underlying43 rfl (by kernel_rfl)) rfl ?_
        exact ⟨⟨0, 0, 0, 0, 0, 0⟩, _, rfl, StepIs.scYes (by simp) HM.out HH.out HYES.out, s2, s3, s4⟩
set_option maxHeartbeats 8000000 in
theorem ratom_sc8 (h : RP S w rb P M mo b0 b1) (hh : HAt w hb rb pc xs ha hn) (hS : ¬ S hb) (a : Nat) (x : Int) (hA : a < 2 ^ 64) (hx0 : 0 ≤ x) (hx1 : x < 18446744073709551616) (hm : (a : Int) % 8 = 0) :
    Calls Try.prog 14 #[addr0 hb, .int .i64 75, .int .u64 (a : Int), .int .u64 x] w (RAtomPost S w hb rb P M mo b0 b1 pc xs ha hn 75 a x) := by
  have cw : ∀ w, Calls Try.prog 11 #[.int .i64 75] w fun e w' => e = .returned (.int .i64 8) ∧ w = w' := fun w => by
    have := rwidth_any 75 w
    rwa [show awid 75 = 8 from rfl] at this
  have CW := Lib.hid cw; clear cw
  have hmid := mid_of h hh hS
  obtain ⟨c0, c1, c2⟩ := (hh.bl (Bl.new w (.cells #[.int .i64 0, .int .i64 0, .int .u64 0] 43))).cells
  have q0 := (hh.bl (Bl.new w (.cells #[.int .i64 0, .int .i64 0, .int .u64 0] 43))).frozen 33
  have q1 := (hh.bl (Bl.new w (.cells #[.int .i64 0, .int .i64 0, .int .u64 0] 43))).frozen 34
  have HMID := Lib.hid hmid; clear hmid h hh hS
  have haI : (a : Int) ≤ 18446744073709551615 := by omega
  have haI0 : (0 : Int) ≤ (a : Int) := by omega
  have HA := Lib.hid hA; clear hA
  have t1 : ((a : Int) % 8 != 0) = false := by simp [hm]
  have HM := Lib.hid hm; clear hm
  have HX := Lib.hid (And.intro hx0 hx1); clear hx0 hx1
  unfold addr0 at *
  go_enter Try.func14, Try.ntmps14
  go_wp2_with fail
  with_reducible refine (CW.out _).mono ?_
  rintro e w' ⟨rfl, rfl⟩
  obtain ⟨W, hW⟩ : ∃ W, W = w.alloc (.cells #[.int .i64 0, .int .i64 0, .int .u64 0] 43) := ⟨_, rfl⟩
  rw [← hW] at c0 c1 c2 q0 q1 HMID ⊢
  clear hW
  go_upto_region 6 with (fail)
  obtain ⟨V, hV⟩ : ∃ V, V = (W.setCell ⟨hb, 34, none⟩ (.int .i64 0)).setCell ⟨hb, 33, none⟩ (.int .u64 0) := ⟨_, rfl⟩
  rw [← hV] at HMID ⊢
  clear hV c0 c1 c2 q0 q1
  obtain ⟨c0, c1, c2⟩ := HMID.out.hart.cells
  have q0 := HMID.out.hart.frozen 33
  have q1 := HMID.out.hart.frozen 34
  obtain ⟨d0, d1, d2, r0, r1, r2⟩ := row3 HMID.out.stop
  have cl := probe_lit8 HMID.out.rp a HA.out
  have CL := Lib.hid cl; clear cl
  unfold addr0 at *
  go_wp2_with fail
  with_reducible refine CL.out.mono ?_
  rintro e w1 ⟨k, y, rfl, hh, kk⟩
  have HM1 := Lib.hid (HMID.out.bl kk); clear HMID kk c0 c1 c2 q0 q1 d0 d1 d2 r0 r1 r2
  unfold faultV
  rcases hh with ⟨rfl, hh⟩ | ⟨rfl, hx, hh⟩
  · have HH := Lib.hid hh; clear hh
    have HM2 := Lib.hid (HM1.out.bl (Bl.new w1 (.cells #[.int .i64 2, .int .u64 y] 41)))
    obtain ⟨d0, d1, d2, r0, r1, r2⟩ := row3 HM2.out.stop
    obtain ⟨f0, f1, g0, g1⟩ := row2 (heap_alloc_new w1 (.cells #[.int .i64 2, .int .u64 y] 41))
    go_upto_region 13 with (fail)
    generalize w1.alloc (.cells #[.int .i64 2, .int .u64 y] 41) = V2 at *
    go_region
    all_goals (
      (try go_wp2_with fail)
      (try simp only [Exit.inBlock, Exit.then])
      obtain ⟨s1, s2, s3, s4⟩ := (HM2.out.bl ((Bl.refl _).drew)).fin 4 2 y
      refine bodyPost_ret (results_tmp_row rfl _ _ w.heap.size 43 _ (0, 0) _ rfl (s1) Try.underlying43 rfl (by kernel_rfl)) rfl ?_
      exact ⟨badO 4 2 y, M, rfl, StepIs.scBad y (by simp) HM.out HH.out, s2, s3, s4⟩)
  · have HH := Lib.hid hh; clear hh
    subst hx
    have HM2 := Lib.hid (HM1.out.bl (Bl.new w1 (.cells #[.int .i64 0, .int .u64 0] 41)))
    obtain ⟨c0, c1, c2⟩ := HM2.out.hart.cells
    unfold addr0 at c2
    obtain ⟨d0, d1, d2, r0, r1, r2⟩ := row3 HM2.out.stop
    obtain ⟨f0, f1, g0, g1⟩ := row2 (heap_alloc_new w1 (.cells #[.int .i64 0, .int .u64 0] 41))
    go_upto_region 14 with (fail)
    generalize w1.alloc (.cells #[.int .i64 0, .int .u64 0] 41) = V2 at *
    have hcase : ((hn != 8) = true ∧ ¬ (ha = a ∧ hn = 8)) ∨ ((hn != 8) = false ∧ (ha != (a : Int)) = true ∧ ¬ (ha = a ∧ hn = 8)) ∨ ((hn != 8) = false ∧ (ha != (a : Int)) = false ∧ (ha = a ∧ hn = 8)) := by
      by_cases e1 : hn = 8
      · by_cases e2 : ha = a
        · exact .inr (.inr ⟨by simp [e1], by simp [e2], e2, e1⟩)
        · exact .inr (.inl ⟨by simp [e1], by simp [e2], fun h => e2 h.1⟩)
      · exact .inl ⟨by simp [e1], fun h => e1 h.2⟩
    rcases hcase with ⟨t2, hno⟩ | ⟨t2, t3, hno⟩ | ⟨t2, t3, hyes⟩
    · have HNO := Lib.hid hno; clear hno
      go_wp2_with fail
      (try simp only [Exit.inBlock, Exit.then])
      obtain ⟨s1, s2, s3, s4⟩ := HM2.out.fin 0 0 0
      refine bodyPost_ret (results_tmp_row rfl _ _ w.heap.size 43 _ (0, 0) _ rfl (s1) Try.underlying43 rfl (by kernel_rfl)) rfl ?_
      exact ⟨⟨1, 0, 0, 0, 0, 0⟩, M, rfl, StepIs.scNo (by simp) HM.out HH.out HNO.out, s2, s3, s4⟩
    · have HNO := Lib.hid hno; clear hno
      go_wp2_with fail
      (try simp only [Exit.inBlock, Exit.then])
      obtain ⟨s1, s2, s3, s4⟩ := HM2.out.fin 0 0 0
      refine bodyPost_ret (results_tmp_row rfl _ _ w.heap.size 43 _ (0, 0) _ rfl (s1) Try.underlying43 rfl (by kernel_rfl)) rfl ?_
      exact ⟨⟨1, 0, 0, 0, 0, 0⟩, M, rfl, StepIs.scNo (by simp) HM.out HH.out HNO.out, s2, s3, s4⟩
    · have HYES := Lib.hid hyes; clear hyes
      have cst := store_lit8 HM2.out.rp a x HA.out
      have CST := Lib.hid cst; clear cst
      unfold addr0 at CST
      go_wp2_with fail
      with_reducible refine CST.out.mono ?_
      rintro e w3 ⟨k, z, rfl, hs⟩
      rcases hs with ⟨hk, z1, z2, z3, _⟩ | ⟨hk, hz, _, hrp, hfr⟩
      · exact absurd (HH.out z z1 z2) z3
      · have HM3 := Lib.hid (HM2.out.rturn hrp hfr)
        clear hrp hfr c0 c1 c2 d0 d1 d2 r0 r1 r2 f0 f1 g0 g1
        obtain ⟨d0, d1, d2, r0, r1, r2⟩ := row3 HM3.out.stop
        go_wp2_with fail
        (try simp only [Exit.inBlock, Exit.then])
        obtain ⟨s1, s2, s3, s4⟩ := HM3.out.fin 0 0 0
        refine bodyPost_ret (results_tmp_row rfl _ _ w.heap.size 43 _ (0, 0) _ rfl (s1) Try.underlying43 rfl (by kernel_rfl)) rfl ?_
        exact ⟨⟨0, 0, 0, 0, 0, 0⟩, _, rfl, StepIs.scYes (by simp) HM.out HH.out HYES.out, s2, s3, s4⟩
end
end Go.Proofs.Ytpalhkfipnbcnaa
