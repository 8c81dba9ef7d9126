/-
  Room: of the list.
  A store of pages in memory: its block, its map of pages, its map of stamps, the pages' blocks; what is read of it; what a call may turn.
  Spans: below, within, empty, first, last, wide.
-/
import Derived.Test.YtpalhkfipnbcnaaQ7
import Derived.Deep.Cut
import Derived.IntWalk
import Derived.Test.YtpalhkfipnbcnaaQ3
import Derived.Test.YtpalhkfipnbcnaaQ1
import Derived.Deep.QuietTactic
import Derived.BigQuiet
import Derived.Deep.RegionHeld3
set_option linter.unusedVariables false
set_option linter.unusedSimpArgs false
namespace Go.Proofs.Ytpalhkfipnbcnaa
open Go.RowKit
set_option maxRecDepth 100000
theorem down_any (n : Int) (w : World) (h0 : 0 ≤ n) (h1 : n ≤ 18446744073709551615) : Calls Try.prog 78 #[.int .u64 n] w fun e w' => e = .returned (.int .u64 (n - n % 4096)) ∧ w = w' := by
  have h2 : n % 4096 ≤ n := by omega
  go_enter Try.func78, Try.ntmps78
  go_wp2
  go_ret
  exact ⟨rfl, rfl⟩
/-- A size in whole pages, at least one. -/
def szOf (size : Int) : Int := max ((size + 4095) / 4096 * 4096) 4096
def belOf (below : Int) : Int := min below 274877906944 / 4096 * 4096
theorem szOf_facts (size : Int) (h0 : 0 ≤ size) (h1 : size ≤ 274877906944) : szOf size % 4096 = 0 ∧ 4096 ≤ szOf size ∧ szOf size ≤ 274877911040 := by unfold szOf; omega
theorem belOf_facts (below : Int) (h0 : 0 ≤ below) : belOf below % 4096 = 0 ∧ 0 ≤ belOf below ∧ belOf below ≤ 274877906944 := by unfold belOf; omega
theorem ups_any (n : Int) (w : World) (h0 : 0 ≤ n) (h1 : n ≤ 274877906944) : Calls Try.prog 77 #[.int .u64 n] w fun e w' => e = .returned (.int .u64 ((n + 4095) / 4096 * 4096)) ∧ w = w' := by
  have cd := fun W => down_any (n + 4095) W (by omega) (by omega)
  have he : n + 4095 - (n + 4095) % 4096 = (n + 4095) / 4096 * 4096 := by omega
  rw [he] at cd
  clear he
  have CD := Lib.hid cd; clear cd
  have he2 : n + 4096 - 1 = n + 4095 := by omega
  have HE2 := Lib.hid he2; clear he2
  go_enter Try.func77, Try.ntmps77
  go_wp2_with fail
  (try rw [HE2.out])
  refine (CD.out _).mono ?_
  rintro e w' ⟨rfl, rfl⟩
  go_wp2_with fail
  go_ret
  exact ⟨rfl, rfl⟩
def boxN (w : World) (b : Nat) : Nat := match w.cell? ⟨b, 0, none⟩ with | some (.int _ n) => n.toNat | _ => 0
theorem boxN_of {w : World} {b : Nat} {k : IntKind} {n : Int} (h : w.cell? ⟨b, 0, none⟩ = some (.int k n)) : boxN w b = n.toNat := by unfold boxN; rw [h]
def RoomPost (w : World) (L : List Rg) (sz bel : Int) (e : Ending) (w' : World) : Prop := ∃ x ok, e = .returned (.tuple #[.int .u64 x, .bool ok]) ∧ RoomIs L sz bel x ok ∧ Bl w w'
structure RM (w : World) (L : List Rg) (sz bel : Int) (be : Nat) (en : Int) (wr : World) : Prop where
  box : wr.heap[be]? = some (.cells #[.int .u64 en] 22 (0, 0))
  al : en % 4096 = 0
  pos : 0 ≤ en
  le : en ≤ bel
  no : NoRoom L sz bel en
  bl : Bl w wr
theorem room_far {w : World} {b : Nat} (size below : Int) (h : 274877906944 < size) : Calls Try.prog 66 #[addr0 b, .int .u64 size, .int .u64 below] w fun e w' => e = .returned (.tuple #[.int .u64 0, .bool false]) ∧ Bl w w' := by
  unfold addr0
  go_enter Try.func66, Try.ntmps66
  go_wp2
  go_ret2
  exact ⟨rfl, Bl.refl _⟩
set_option maxHeartbeats 4000000 in
theorem room_any {X : Ctx} {w : World} {b : Nat} {L : List Rg} (h : ListAt X w b L) (hrs : Rs L) (hl : L.length ≤ 256) (size below : Int) (h0 : 0 ≤ size) (h1 : size ≤ 274877906944) (h2 : 0 ≤ below) (h3 : below ≤ 18446744073709551615) :
    Calls Try.prog 66 #[addr0 b, .int .u64 size, .int .u64 below] w (RoomPost w L (szOf size) (belOf below)) := by
  have hmf : ∀ (fn : Fn) (first cap : Array Value) (w : World), (Instr.makeFunc fn first cap).run Try.prog w = .ok (.func fn first cap) w := fun _ _ _ _ => rfl
  obtain ⟨z1, z2, z3⟩ := szOf_facts size h0 h1
  obtain ⟨y1, y2, y3⟩ := belOf_facts below h2
  have cu := fun W => ups_any size W h0 h1
  obtain ⟨u, hu⟩ : ∃ u, u = (size + 4095) / 4096 * 4096 := ⟨_, rfl⟩
  simp only [← hu] at cu
  have mx : ∀ ts t W, (Builtin.max_ ts t #[.int .u64 u, .int .u64 4096]).run Try.prog W = .ok (.int .u64 (szOf size)) W := fun ts t W => by
    rw [max_run]; congr 2; unfold szOf; rw [← hu]; omega
  obtain ⟨mB, hmB⟩ : ∃ mB, mB = min below 274877906944 := ⟨_, rfl⟩
  have mn : ∀ ts t W, (Builtin.min_ ts t #[.int .u64 below, .int .u64 274877906944]).run Try.prog W = .ok (.int .u64 mB) W := fun ts t W => by
    rw [min_run]; congr 2; rw [hmB]; omega
  have cd := fun W => down_any mB W (by omega) (by omega)
  have hbe : mB - mB % 4096 = belOf below := by unfold belOf; rw [← hmB]; omega
  simp only [hbe] at cd
  clear hbe hmB hu
  have CU := Lib.hid cu; clear cu
  have CD := Lib.hid cd; clear cd
  have HH := Lib.hid h; clear h
  have HRS := Lib.hid hrs; clear hrs
  have HL := Lib.hid hl; clear hl
  generalize szOf size = sz at *
  generalize belOf below = bel at *
  have Z1 := Lib.hid z1; clear z1
  have Y1 := Lib.hid y1; clear y1
  unfold addr0
  go_enter Try.func66, Try.ntmps66
  go_wp2_with fail
  refine (CU.out _).mono ?_
  rintro e w' ⟨rfl, rfl⟩
  go_wp2_with fail
  refine (CD.out _).mono ?_
  rintro e w' ⟨rfl, rfl⟩
  clear CU CD mx mn
  go_wp2_with fail
  have hrm : RM w L sz bel w.heap.size bel (w.alloc (.cells #[.int .u64 bel] 22)) := ⟨heap_alloc_new w _, Y1.out, y2, Int.le_refl _, NoRoom.start _ _ _, Bl.new _ _⟩
  have HRM := Lib.hid hrm; clear hrm
  obtain ⟨be, hbe⟩ : ∃ be, be = w.heap.size := ⟨_, rfl⟩
  rw [← hbe] at HRM ⊢
  have HBE := Lib.hid hbe; clear hbe
  generalize w.alloc (.cells #[.int .u64 bel] 22) = W0 at *
  go_loopw [9] (fun _ wr => ∃ en, RM w L sz bel be en wr) (fun _ wr => boxN wr be)
  case atStart => exact ⟨bel, HRM.out⟩
  case round =>
    obtain ⟨en, hrm⟩ := hrel
    clear HRM
    have bc : wr.cell? ⟨be, 0, none⟩ = some (.int .u64 en) := by rw [cell_of_row wr be 0 _ 22 (0, 0) hrm.box]; rfl
    have hN := boxN_of bc
    have e1 := hrm.pos
    have e2 := hrm.le
    have HRM := Lib.hid hrm; clear hrm
    have HNN := Lib.hid hN; clear hN
    by_cases hge : 4096 + sz ≤ en
    · have cs := seek_47 (HH.out.bl HRM.out.bl) bc (fun r W hW => is47_any r be en W hW) (by have := HL.out; omega)
      unfold asks addr0 at cs
      have CS := Lib.hid cs; clear cs
      have hwr : IntKind.u64.wrap (en - sz) = en - sz := IntWalk.u64_in _ (by omega)
      go_wp2_with fail
      refine CS.out.mono ?_
      rintro e w1 ⟨k, rfl, k1, k2, k3, k4⟩
      have hL1 := (HH.out.bl HRM.out.bl).bl k4
      have bc1 := k4.cell' bc
      have hbox1 := k4.at_ HRM.out.box
      have hbl1 := HRM.out.bl.trans k4
      clear CS k4 bc
      have q1 : 0 < k → ∀ r, L[k - 1]? = some r → r.s < en := fun hk r hr => by have := k2 hk r hr; simpa using this
      have q2 : ∀ r, L[k]? = some r → en ≤ r.s := fun r hr => by have := k3 r hr; simpa using this
      obtain ⟨v, hb, hr⟩ := hL1
      obtain ⟨A, cap, rfl⟩ := hr.shape
      have hcell : w1.cell? ⟨b, 0, none⟩ = some (.slice A L.length cap) := by rw [cell_of_row w1 b 0 _ _ (0, 0) hb]; simp
      have Q1 := Lib.hid q1; clear q1 k2
      have Q2 := Lib.hid q2; clear q2 k3
      have K1 := Lib.hid k1; clear k1
      have HR := Lib.hid hr; clear hr hb
      have HBX := Lib.hid hbox1; clear hbox1
      have HBL1 := Lib.hid hbl1; clear hbl1
      obtain ⟨n, hn⟩ : ∃ n, n = L.length := ⟨_, rfl⟩
      rw [← hn] at hcell HR K1
      have hnI : (n : Int) ≤ 256 := by have := HL.out; omega
      have HN := Lib.hid hn; clear hn
      have hkn := K1.out
      have hknI : (k : Int) ≤ (n : Int) := by omega
      clear hkn
      rcases k with _ | j
      · have hfr : FreeIn L (en - sz) en := free_room HRS.out.nm.so (fun h => absurd h (by omega)) Q2.out (by omega) (fun h => absurd h (by omega))
        have hp : RoomPost w L sz bel (.returned (.tuple #[.int .u64 (en - sz), .bool true])) w1 := ⟨_, _, rfl, room_yes HRM.out.no HRM.out.al Z1.out e2 hge hfr, HBL1.out⟩
        have HP : Hid (∀ q, RoomPost w L sz bel (.returned (.tuple #[.int .u64 (en - sz), .bool true])) (w1.drewN q)) := Lib.hid fun q => ⟨_, _, rfl, room_yes HRM.out.no HRM.out.al Z1.out e2 hge hfr, HBL1.out.drewN q⟩
        clear hp hfr
        go_wp2_with fail
        go_quiet (fail)
        go_wp2_with fail
        go_ret2
        exact HP.out _
      · have hjL : j < L.length := by have := HN.out; omega
        obtain ⟨r, hrj⟩ : ∃ r, L[j]? = some r := ⟨L[j], List.getElem?_eq_getElem hjL⟩
        have hne : L ≠ [] := by intro e; rw [e] at hjL; simp at hjL
        obtain ⟨g, cap', cur, hA, _, hnc, hg, _⟩ := HR.out.form hne
        have hA' : A = some ⟨g, 0, none⟩ := by injection hA
        subst hA'
        obtain ⟨c0, c1, c2⟩ := row_cells HR.out j r hrj
        clear hA hnc hg hne
        obtain ⟨r1, r2, r3⟩ := HRS.out.nm.2 r (List.mem_of_getElem? hrj)
        obtain ⟨ra, rb⟩ := HRS.out.al r (List.mem_of_getElem? hrj)
        have rlt : r.s < en := Q1.out (by omega) r hrj
        have RA := Lib.hid ra; clear ra rb
        have hjn : (j : Int) < (n : Int) := by have := HN.out; omega
        have hj0 : (0 : Int) ≤ (j : Int) := by omega
        have hjI : (j : Int) ≤ 256 := by omega
        have wj : IntKind.i64.wrap (j : Int) = (j : Int) := IntWalk.i64_in _ (by omega)
        have tj : ((j : Int) + 1 == 0) = false := by simp; omega
        have HRJ := Lib.hid hrj; clear hrj
        by_cases hfit : r.e ≤ en - sz
        · have hfr : FreeIn L (en - sz) en := free_room HRS.out.nm.so Q1.out Q2.out (by have := HN.out; omega) (fun _ r' hr' => by
            rw [Nat.add_sub_cancel, HRJ.out] at hr'; cases hr'; exact hfit)
          have HP : Hid (∀ q, RoomPost w L sz bel (.returned (.tuple #[.int .u64 (en - sz), .bool true])) (w1.drewN q)) := Lib.hid fun q => ⟨_, _, rfl, room_yes HRM.out.no HRM.out.al Z1.out e2 hge hfr, HBL1.out.drewN q⟩
          clear hfr
          go_wp2_with fail
          go_quiet (fail)
          go_wp2_with fail
          go_ret2
          exact HP.out _
        · have hfit2 : en - sz < r.e := by omega
          have hfz : w1.frozen? ⟨be, 0, none⟩ = false := by simp [World.frozen?, HBX.out]
          have hdn := HRM.out.no.down (by omega) (List.mem_of_getElem? HRJ.out) r2 hfit2
          have HRM2 : Hid (∀ q, RM w L sz bel be r.s ((w1.drewN q).setCell ⟨be, 0, none⟩ (.int .u64 r.s))) := Lib.hid fun q => ⟨heap_setCell_same (w1.drewN q) be 0 _ 22 _ HBX.out, RA.out, r1, by omega, hdn, (HBL1.out.drewN q).set (by rw [HBE.out]; exact Nat.le_refl _) _⟩
          clear hdn
          go_wp2_with fail
          go_quiet (fail)
          go_wp2_with fail
          refine ⟨⟨r.s, HRM2.out _⟩, ?_⟩
          have hb2 : boxN ((w1.drewN nq).setCell ⟨be, 0, none⟩ (.int .u64 r.s)) be = r.s.toNat := boxN_of (k := .u64) (by rw [cell_of_row _ be 0 _ 22 (0, 0) (HRM2.out nq).box]; rfl)
          rw [hb2, HNN.out]
          omega
    · have hp : RoomPost w L sz bel (.returned (.tuple #[.int .u64 0, .bool false])) wr := ⟨_, _, rfl, room_no HRM.out.no (by omega), HRM.out.bl⟩
      have HP := Lib.hid hp; clear hp
      have hlt : en < 4096 + sz := by omega
      go_wp2_with fail
      go_ret2
      exact HP.out
end Go.Proofs.Ytpalhkfipnbcnaa

set_option linter.unusedVariables false
namespace Go.Proofs.Ytpalhkfipnbcnaa
open Go.RowKit
set_option maxRecDepth 100000

theorem cells_ty {a b : Array Value} {t u : TypeId} {f g : Nat × Nat} (h : some (Obj.cells a t f) = some (Obj.cells b u g)) : t = u := by
  injection h with h; injection h
theorem Fr.grown {S : Nat → Prop} {a b : World} {r : Option Nat} (h : a.grownBy b r) (hr : ∀ k, r = some k → S k) : Fr S a b :=
  ⟨h.os, h.tape, h.output, h.size, fun k hk hn => h.block k hk (fun e => hn (hr k e.symm))⟩
/-! ### pages, as bytes by their places -/
def pageOf (M : Nat → Int) (p : Nat) : List Int := (List.range 4096).map fun o => M (p * 4096 + o)
theorem pageOf_length (M : Nat → Int) (p : Nat) : (pageOf M p).length = 4096 := by simp [pageOf]
theorem pageOf_get (M : Nat → Int) (p o : Nat) (h : o < 4096) : (pageOf M p)[o]? = some (M (p * 4096 + o)) := by simp [pageOf, List.getElem?_range h]
/-- Bytes laid at a place. -/
def lay (M : Nat → Int) (a : Nat) (cs : List Int) : Nat → Int := fun x => if a ≤ x ∧ x < a + cs.length then cs.getD (x - a) 0 else M x
theorem lay_nil (M : Nat → Int) (a : Nat) : lay M a [] = M := by funext x; simp only [lay, List.length_nil]; rw [if_neg (by omega)]
theorem lay_at (M : Nat → Int) (a : Nat) (cs : List Int) (i : Nat) (h : i < cs.length) : lay M a cs (a + i) = cs.getD i 0 := by
  simp only [lay]; rw [if_pos (by omega), Nat.add_sub_cancel_left]
theorem lay_out (M : Nat → Int) (a : Nat) (cs : List Int) (x : Nat) (h : x < a ∨ a + cs.length ≤ x) : lay M a cs x = M x := by
  simp only [lay]; rw [if_neg (by omega)]
theorem lay_lay (M : Nat → Int) (a : Nat) (cs ds : List Int) : lay (lay M a cs) (a + cs.length) ds = lay M a (cs ++ ds) := by
  funext x
  simp only [lay, List.length_append, List.getD_eq_getElem?_getD, List.getElem?_append]
  by_cases h1 : a + cs.length ≤ x ∧ x < a + cs.length + ds.length
  · rw [if_pos h1, if_pos (by omega), if_neg (by omega)]
    congr 2; omega
  · rw [if_neg h1]
    by_cases h2 : a ≤ x ∧ x < a + cs.length
    · rw [if_pos h2, if_pos (by omega), if_pos (by omega)]
    · rw [if_neg h2, if_neg (by omega)]
theorem pageOf_lay (M : Nat → Int) (p off : Nat) (cs : List Int) (h : off + cs.length ≤ 4096) : pageOf (lay M (p * 4096 + off) cs) p = splice (pageOf M p) off cs := by
  apply List.ext_getElem?
  intro o
  by_cases ho : o < 4096
  · rw [pageOf_get _ _ _ ho]
    simp only [splice, lay]
    by_cases h1 : o < off
    · rw [if_neg (by omega), List.getElem?_append_left (by simp [pageOf_length]; omega), List.getElem?_take_of_lt h1, pageOf_get _ _ _ ho]
    · have hl : ((pageOf M p).take off).length = off := by simp [pageOf_length]; omega
      rw [List.getElem?_append_right (by omega), hl]
      by_cases h2 : o < off + cs.length
      · rw [if_pos (by omega), List.getElem?_append_left (by omega), List.getD_eq_getElem?_getD]
        have e : p * 4096 + o - (p * 4096 + off) = o - off := by omega
        rw [e, List.getElem?_eq_getElem (by omega)]; rfl
      · rw [if_neg (by omega), List.getElem?_append_right (by omega), List.getElem?_drop]
        have e : off + cs.length + (o - off - cs.length) = o := by omega
        rw [e, pageOf_get _ _ _ ho]
  · rw [List.getElem?_eq_none (by simp [pageOf_length]; omega), List.getElem?_eq_none (by rw [length_splice _ _ _ (by rw [pageOf_length]; exact h), pageOf_length]; omega)]
theorem pageOf_other (M M' : Nat → Int) (p : Nat) (h : ∀ o, o < 4096 → M' (p * 4096 + o) = M (p * 4096 + o)) : pageOf M' p = pageOf M p := by
  simp only [pageOf]
  apply List.map_congr_left
  intro o ho
  exact h o (by simpa using ho)
theorem pageOf_zero (M : Nat → Int) (p : Nat) (h : ∀ o, o < 4096 → M (p * 4096 + o) = 0) : pageOf M p = List.replicate 4096 0 := by
  apply List.ext_getElem?
  intro o
  by_cases ho : o < 4096
  · rw [pageOf_get _ _ _ ho, h o ho, List.getElem?_replicate, if_pos ho]
  · rw [List.getElem?_eq_none (by simp [pageOf_length]; omega), List.getElem?_eq_none (by simp; omega)]

/-! ### the map of pages -/
def ptrE (v : Value) : Option (DataW Nat × List MemPlace) :=
  match v with
  | .pointer (some ⟨b, 0, none⟩) => some (.held b, [])
  | .pointer none => some (.nil, [])
  | _ => none
def ptrOf (x : Option Nat) : Value := .pointer (x.map fun b => ⟨b, 0, none⟩)
theorem ptrE_inv {v : Value} {z : DataW Nat × List MemPlace} (h : ptrE v = some z) : ∃ x, v = ptrOf x ∧ z.1 = (match x with | some b => .held b | none => .nil) := by
  unfold ptrE at h
  split at h
  · rename_i b; cases h; exact ⟨some b, rfl, rfl⟩
  · cases h; exact ⟨none, rfl, rfl⟩
  · cases h
theorem ptrE_mk (x : Option Nat) : ptrE (ptrOf x) = some ((match x with | some b => .held b | none => .nil), []) := by cases x <;> rfl
def datum (x : Option Nat) : DataW Nat := match x with | some b => .held b | none => .nil
theorem datum_inj {x y : Option Nat} (h : datum x = datum y) : x = y := by
  cases x <;> cases y <;> simp_all [datum]
def key (p : Nat) : Lit := .int .u64 (p : Int)
theorem key_wf {p : Nat} (h : p < 2 ^ 64) : (key p).wf = true := by
  show (decide ((0 : Int) ≤ (p : Int)) && decide ((p : Int) ≤ 18446744073709551615)) = true
  simp; omega
theorem key_ne {p q : Nat} (h : p ≠ q) : key p ≠ key q := by
  intro e; simp only [key, Lit.int.injEq, true_and] at e; omega
def put1 (f : Nat → Option Nat) (p : Nat) (x : Option Nat) : Nat → Option Nat := fun q => if q = p then x else f q
theorem put1_same (f : Nat → Option Nat) (p : Nat) (x : Option Nat) : put1 f p x p = x := by simp [put1]
theorem put1_other (f : Nat → Option Nat) (p : Nat) (x : Option Nat) {q : Nat} (h : q ≠ p) : put1 f p x q = f q := by simp [put1, h]

theorem key_of {p : Nat} (h : p < 2 ^ 64) : keyOf Try.prog 22 (.int .u64 (p : Int)) = some (key p) := Maps.keyOf_int_mk Try.underlying22 (key_wf h)

/-- Block B is a map of the pages of f, at most n, k of them. -/
def PM (w : World) (B n : Nat) (f : Nat → Option Nat) (k : Nat) : Prop :=
  ∃ D, w.ownsMap Try.prog 22 ptrE B n D ∧ (∀ p, p < 2 ^ 64 → D.atKey (key p) .nil = datum (f p)) ∧ (∀ p, p < 2 ^ 64 → Maps.has D (key p) = (f p).isSome) ∧ Maps.size D = k

theorem PM.lt {w : World} {B n k : Nat} {f : Nat → Option Nat} (h : PM w B n f k) : B < w.heap.size := by
  obtain ⟨D, h1, _⟩ := h; exact h1.lt
theorem PM.isMap {w : World} {B n k : Nat} {f : Nat → Option Nat} (h : PM w B n f k) : ∃ es c, w.heap[B]? = some (.map es c) := by
  obtain ⟨D, ⟨es, c, h1, _⟩, _⟩ := h; exact ⟨es, c, h1⟩
theorem ownsMap_of_block {H : Type} {w w' : World} {P : Program} {t : TypeId} {R : Value → Option (DataW H × List MemPlace)} {b n : Nat} {D : DataW H} (h : w.ownsMap P t R b n D) (hb : w'.heap[b]? = w.heap[b]?) : w'.ownsMap P t R b n D := by
  obtain ⟨es, c, h1, h2⟩ := h; exact ⟨es, c, hb.trans h1, h2⟩
theorem PM.of_block {w w' : World} {B n k : Nat} {f : Nat → Option Nat} (h : PM w B n f k) (hb : w'.heap[B]? = w.heap[B]?) : PM w' B n f k := by
  obtain ⟨D, h1, h2⟩ := h
  exact ⟨D, ownsMap_of_block h1 hb, h2⟩
theorem PM.mono {w : World} {B n m k : Nat} {f : Nat → Option Nat} (h : PM w B n f k) (hn : n ≤ m) : PM w B m f k := by
  obtain ⟨D, h1, h2⟩ := h; exact ⟨D, h1.mono hn, h2⟩
theorem PM.made (w : World) : PM (w.alloc (.map #[] 0)) w.heap.size 0 (fun _ => none) 0 :=
  ⟨_, World.ownsMap_made w Try.prog 22 ptrE, fun _ _ => rfl, fun _ _ => rfl, rfl⟩
theorem PM.k_le {w : World} {B n k : Nat} {f : Nat → Option Nat} (h : PM w B n f k) : k ≤ n := by
  obtain ⟨D, h1, _, _, rfl⟩ := h; exact h1.size_le
theorem PM.look {w : World} {B n k : Nat} {f : Nat → Option Nat} (h : PM w B n f k) {p : Nat} (hp : p < 2 ^ 64) :
    (Instr.lookup 78 (.map (some B)) (.int .u64 (p : Int)) false).run Try.prog w = .ok (ptrOf (f p)) w := by
  obtain ⟨D, h1, h2, _⟩ := h
  obtain ⟨v, ps, hrun, hv⟩ := h1.lookup law27 Try.underlying78 (zero44 w) (ptrE_mk none) (key_of hp)
  obtain ⟨x, rfl, hx⟩ := ptrE_inv hv
  rw [hrun]
  have : f p = x := datum_inj (by rw [← h2 p hp]; exact hx)
  rw [this]
theorem PM.len {w : World} {B n k : Nat} {f : Nat → Option Nat} (h : PM w B n f k) (ty : TypeId) :
    (Builtin.len_ #[78] ty #[.map (some B)]).run Try.prog w = .ok (.int .i64 (k : Int)) w := by
  obtain ⟨D, h1, _, _, rfl⟩ := h
  exact h1.len Try.underlying78 ty
theorem isKeyLit_key (p : Nat) : WideAt.IsKeyLit (key p) := trivial
theorem PM.put {w : World} {B n k : Nat} {f : Nat → Option Nat} (h : PM w B n f k) {p : Nat} (hp : p < 2 ^ 64) (hn : n < maxLen) (b : Nat) :
    ∃ w', (Instr.mapUpdate 78 (.map (some B)) (.int .u64 (p : Int)) (.pointer (some ⟨b, 0, none⟩))).run Try.prog w = .ok () w' ∧ PM w' B (n + 1) (put1 f p (some b)) (if (f p).isSome then k else k + 1) ∧ w.mapTurned w' B := by
  obtain ⟨D, h1, h2, h3, h4⟩ := h
  obtain ⟨w', hrun, ho, ht⟩ := h1.store law27 Try.underlying78 hn (key_of hp) (ptrE_mk (some b))
  refine ⟨w', hrun, ⟨_, ho, fun q hq => ?_, fun q hq => ?_, ?_⟩, ht⟩
  · by_cases e : q = p
    · subst e; rw [put1_same]; exact Maps.atKey_put_same h1.isMap (isKeyLit_key _) _ _
    · rw [put1_other _ _ _ e, Maps.atKey_put_other (key_ne e)]; exact h2 q hq
  · by_cases e : q = p
    · subst e; rw [put1_same]; exact Maps.has_put_same h1.isMap (isKeyLit_key _) _
    · rw [put1_other _ _ _ e, Maps.has_put_other (key_ne e)]; exact h3 q hq
  · rw [Maps.size_put (h1.tidy law27), h3 p hp, h4]
theorem PM.del_of {w w' : World} {B n k : Nat} {f : Nat → Option Nat} (h : PM w B n f k) {p : Nat} (hp : p < 2 ^ 64) {ty : TypeId}
    (hd : (Builtin.delete_ #[78, 22] ty #[.map (some B), .int .u64 (p : Int)]).run Try.prog w = .ok (.tuple #[]) w') :
    (∃ k', PM w' B n (put1 f p none) k' ∧ k' + (if (f p).isSome then 1 else 0) = k) ∧ w.mapTurned w' B := by
  obtain ⟨D, h1, h2, h3, h4⟩ := h
  obtain ⟨w2, hrun, ho, ht⟩ := h1.drop law27 Try.underlying78 (key_of hp) ty
  rw [hrun] at hd; injection hd with _ e; subst e
  refine ⟨⟨_, ⟨_, ho, fun q hq => ?_, fun q hq => ?_, rfl⟩, ?_⟩, ht⟩
  · by_cases e : q = p
    · subst e; rw [put1_same]; exact Maps.atKey_del_same _
    · rw [put1_other _ _ _ e, Maps.atKey_del_other (key_ne e)]; exact h2 q hq
  · by_cases e : q = p
    · subst e; rw [put1_same]; exact Maps.has_del_same
    · rw [put1_other _ _ _ e, Maps.has_del_other (key_ne e)]; exact h3 q hq
  · have := Maps.size_del (k := key p) (h1.tidy law27)
    rw [h3 p hp, h4] at this; exact this
theorem PM.del_run {w : World} {B n k : Nat} {f : Nat → Option Nat} (h : PM w B n f k) {p : Nat} (hp : p < 2 ^ 64) (ty : TypeId) :
    ∃ w', (Builtin.delete_ #[78, 22] ty #[.map (some B), .int .u64 (p : Int)]).run Try.prog w = .ok (.tuple #[]) w' := by
  obtain ⟨D, h1, _⟩ := h
  obtain ⟨w2, hrun, _⟩ := h1.drop law27 Try.underlying78 (key_of hp) ty
  exact ⟨w2, hrun⟩

/-- The field that holds the pages: nil, or a map. -/
def PMV (S : Nat → Prop) (w : World) (pm : Value) (n : Nat) (f : Nat → Option Nat) (k : Nat) : Prop :=
  (pm = .map none ∧ (∀ p, f p = none) ∧ k = 0) ∨ ∃ B, pm = .map (some B) ∧ S B ∧ PM w B n f k
theorem PMV.look {S : Nat → Prop} {w : World} {pm : Value} {n k : Nat} {f : Nat → Option Nat} (h : PMV S w pm n f k) {p : Nat} (hp : p < 2 ^ 64) :
    (Instr.lookup 78 pm (.int .u64 (p : Int)) false).run Try.prog w = .ok (ptrOf (f p)) w := by
  rcases h with ⟨rfl, h1, _⟩ | ⟨B, rfl, _, h1⟩
  · rw [h1 p]; exact Maps.look_nil false law27 Try.underlying78 (zero44 w) (key_of hp)
  · exact h1.look hp
theorem PMV.len {S : Nat → Prop} {w : World} {pm : Value} {n k : Nat} {f : Nat → Option Nat} (h : PMV S w pm n f k) (ty : TypeId) :
    (Builtin.len_ #[78] ty #[pm]).run Try.prog w = .ok (.int .i64 (k : Int)) w := by
  rcases h with ⟨rfl, _, rfl⟩ | ⟨B, rfl, _, h1⟩
  · exact Maps.len_nil Try.underlying78 ty
  · exact h1.len ty
/-- The field that holds the stamps: which page has which. -/
def SMV (S : Nat → Prop) (w : World) (sm : Value) (n : Nat) (c : Int) (st : Nat → Int) : Prop :=
  (sm = .map none ∧ ∀ p, p < 2 ^ 64 → st p = c) ∨ ∃ B D, sm = .map (some B) ∧ S B ∧ w.ownsMap Try.prog 22 (plainElem (H := Nat) Try.prog 22) B n D ∧
    ∃ g : Nat → Option Int, (∀ p, p < 2 ^ 64 → Maps.has D (key p) = (g p).isSome) ∧ (∀ p v, p < 2 ^ 64 → g p = some v → ∀ zd, D.atKey (key p) zd = .lit (.int .u64 v)) ∧ ∀ p, p < 2 ^ 64 → st p = (g p).getD c
/-- Stamps of a later time: none is less, those of T are greater. -/
def Rise (st st' : Nat → Int) (T : Nat → Prop) : Prop := ∀ p, p < 2 ^ 64 → st p ≤ st' p ∧ (T p → st p < st' p)
theorem Rise.refl (st : Nat → Int) : Rise st st (fun _ => False) := fun p _ => ⟨Int.le_refl _, fun h => h.elim⟩
theorem Rise.trans {st st1 st2 : Nat → Int} {T U : Nat → Prop} (h : Rise st st1 T) (k : Rise st1 st2 U) : Rise st st2 (fun p => T p ∨ U p) := fun p hp => by
  have h1 := h p hp
  have h2 := k p hp
  refine ⟨by omega, fun h3 => ?_⟩
  rcases h3 with h3 | h3
  · have := h1.2 h3; omega
  · have := h2.2 h3; omega
theorem Rise.mono {st st1 : Nat → Int} {T U : Nat → Prop} (h : Rise st st1 T) (k : ∀ p, U p → T p) : Rise st st1 U := fun p hp => ⟨(h p hp).1, fun hu => (h p hp).2 (k p hu)⟩
def setSt (st : Nat → Int) (num : Nat) (l : Int) : Nat → Int := fun p => if p = num then l else st p
/-- What a space's block holds beside its store. -/
structure Rest where
  rg : Value
  mo : Int
  ba : Int
  en : Int
theorem PMV.kept {S : Nat → Prop} {w w' : World} {pm : Value} {n k : Nat} {f : Nat → Option Nat} (h : PMV S w pm n f k) (hb : ∀ B, pm = .map (some B) → w'.heap[B]? = w.heap[B]?) : PMV S w' pm n f k := by
  rcases h with h | ⟨B, rfl, h1, h2⟩
  · exact .inl h
  · exact .inr ⟨B, rfl, h1, h2.of_block (hb B rfl)⟩
theorem SMV.kept {S : Nat → Prop} {w w' : World} {sm : Value} {n : Nat} {c : Int} {st : Nat → Int} (h : SMV S w sm n c st) (hb : ∀ B, sm = .map (some B) → w'.heap[B]? = w.heap[B]?) : SMV S w' sm n c st := by
  rcases h with h | ⟨B, D, rfl, h1, h2, h3⟩
  · exact .inl h
  · exact .inr ⟨B, D, rfl, h1, ownsMap_of_block h2 (hb B rfl), h3⟩
theorem SMV.mono {S : Nat → Prop} {w : World} {sm : Value} {n m : Nat} {c : Int} {st : Nat → Int} (h : SMV S w sm n c st) (hn : n ≤ m) : SMV S w sm m c st := by
  rcases h with h | ⟨B, D, h0, h1, h2, h3⟩
  · exact .inl h
  · exact .inr ⟨B, D, h0, h1, h2.mono hn, h3⟩
theorem PMV.mono {S : Nat → Prop} {w : World} {pm : Value} {n m k : Nat} {f : Nat → Option Nat} (h : PMV S w pm n f k) (hn : n ≤ m) : PMV S w pm m f k := by
  rcases h with h1 | ⟨B, h0, h1, h2⟩
  · exact .inl h1
  · exact .inr ⟨B, h0, h1, h2.mono hn⟩

/-- A store at block sb, its blocks among S: f, the pages' blocks; k, how many; M, the bytes. -/
structure SA (Y : Rest) (S : Nat → Prop) (w : World) (sb n : Nat) (f : Nat → Option Nat) (k : Nat) (M st : Nat → Int) (pm sm : Value) (c l : Int) : Prop where
  blk : w.heap[sb]? = some (.cells #[Y.rg, pm, sm, .int .u64 c, .int .u64 l, .int .i64 Y.mo, .int .u64 Y.ba, .int .u64 Y.en] 83 (0, 0))
  own : S sb
  lw : 0 ≤ l ∧ l ≤ (n : Int)
  top : ∀ p, p < 2 ^ 64 → st p ≤ l
  pages : PMV S w pm n f k
  stamps : SMV S w sm n c st
  apart : ∀ B, pm = .map (some B) → sm ≠ .map (some B)
  at_ : ∀ p b, f p = some b → S b ∧ w.heap[b]? = some (.cells (asBytes (pageOf M p)).toArray 115 (0, 0))
  inj : ∀ p q b, f p = some b → f q = some b → p = q
  zero : ∀ p o, f p = none → o < 4096 → M (p * 4096 + o) = 0
  lim : ∀ p b, f p = some b → p < 67108864
def StoreAt (Y : Rest) (S : Nat → Prop) (w : World) (sb n : Nat) (f : Nat → Option Nat) (k : Nat) (M st : Nat → Int) : Prop := ∃ pm sm c l, SA Y S w sb n f k M st pm sm c l

section
variable {Y : Rest} {S T : Nat → Prop} {w w' : World} {sb n k : Nat} {f : Nat → Option Nat} {M st : Nat → Int} {pm sm : Value} {c l : Int}
theorem SMV.isMap {S : Nat → Prop} {w : World} {sm : Value} {n : Nat} {c : Int} {st : Nat → Int} (h : SMV S w sm n c st) {B : Nat} (hB : sm = .map (some B)) : S B ∧ ∃ es c, w.heap[B]? = some (.map es c) := by
  rcases h with h | ⟨B', D, h0, h1, ⟨es, c, h2, _⟩, _⟩
  · rw [h.1] at hB; cases hB
  · rw [h0] at hB; cases hB; exact ⟨h1, es, c, h2⟩
theorem PMV.isMap {S : Nat → Prop} {w : World} {pm : Value} {n k : Nat} {f : Nat → Option Nat} (h : PMV S w pm n f k) {B : Nat} (hB : pm = .map (some B)) : S B ∧ ∃ es c, w.heap[B]? = some (.map es c) := by
  rcases h with h | ⟨B', h0, h1, h2⟩
  · rw [h.1] at hB; cases hB
  · rw [h0] at hB; cases hB; exact ⟨h1, h2.isMap⟩
/-- It stays while none of its blocks turns. -/
theorem SA.kept (h : SA Y S w sb n f k M st pm sm c l) (hf : Fr T w w') (hd : ∀ b, S b → ¬ T b) : SA Y S w' sb n f k M st pm sm c l where
  blk := hf.at_ h.blk (hd _ h.own)
  own := h.own
  lw := h.lw
  top := h.top
  pages := h.pages.kept fun B hB => by
    obtain ⟨h1, es, c, h2⟩ := h.pages.isMap hB
    rw [hf.at_ h2 (hd _ h1), h2]
  stamps := h.stamps.kept fun B hB => by
    obtain ⟨h1, es, c, h2⟩ := h.stamps.isMap hB
    rw [hf.at_ h2 (hd _ h1), h2]
  apart := h.apart
  at_ := fun p b hb => ⟨(h.at_ p b hb).1, hf.at_ (h.at_ p b hb).2 (hd _ (h.at_ p b hb).1)⟩
  inj := h.inj
  zero := h.zero
  lim := h.lim
theorem SA.bl (h : SA Y S w sb n f k M st pm sm c l) (hf : Bl w w') : SA Y S w' sb n f k M st pm sm c l := h.kept (T := fun _ => False) (Fr.of_bl hf) (fun _ _ e => e)
theorem StoreAt.kept (h : StoreAt Y S w sb n f k M st) (hf : Fr T w w') (hd : ∀ b, S b → ¬ T b) : StoreAt Y S w' sb n f k M st := by
  obtain ⟨pm, sm, c, l, h⟩ := h; exact ⟨pm, sm, c, l, h.kept hf hd⟩
theorem StoreAt.bl (h : StoreAt Y S w sb n f k M st) (hf : Bl w w') : StoreAt Y S w' sb n f k M st := by
  obtain ⟨pm, sm, c, l, h⟩ := h; exact ⟨pm, sm, c, l, h.bl hf⟩
theorem SA.lt (h : SA Y S w sb n f k M st pm sm c l) : sb < w.heap.size := lt_at h.blk
/-- It may be told by other blocks. -/
theorem SA.among (h : SA Y S w sb n f k M st pm sm c l) (hs : ∀ b, b < w.heap.size → S b → T b) : SA Y T w sb n f k M st pm sm c l where
  blk := h.blk
  own := hs _ h.lt h.own
  lw := h.lw
  top := h.top
  pages := by
    rcases h.pages with h1 | ⟨B, h0, h1, h2⟩
    · exact .inl h1
    · exact .inr ⟨B, h0, hs _ h2.lt h1, h2⟩
  stamps := by
    rcases h.stamps with h1 | ⟨B, D, h0, h1, h2, h3⟩
    · exact .inl h1
    · exact .inr ⟨B, D, h0, hs _ h2.lt h1, h2, h3⟩
  apart := h.apart
  at_ := fun p b hb => ⟨hs _ (lt_at (h.at_ p b hb).2) (h.at_ p b hb).1, (h.at_ p b hb).2⟩
  inj := h.inj
  zero := h.zero
  lim := h.lim
theorem StoreAt.among (h : StoreAt Y S w sb n f k M st) (hs : ∀ b, b < w.heap.size → S b → T b) : StoreAt Y T w sb n f k M st := by
  obtain ⟨pm, sm, c, l, h⟩ := h; exact ⟨pm, sm, c, l, h.among hs⟩
theorem SA.mono (h : SA Y S w sb n f k M st pm sm c l) {m : Nat} (hn : n ≤ m) : SA Y S w sb m f k M st pm sm c l where
  blk := h.blk
  own := h.own
  lw := by have := h.lw; omega
  top := h.top
  pages := h.pages.mono hn
  stamps := h.stamps.mono hn
  apart := h.apart
  at_ := h.at_
  inj := h.inj
  zero := h.zero
  lim := h.lim
theorem StoreAt.mono (h : StoreAt Y S w sb n f k M st) {m : Nat} (hn : n ≤ m) : StoreAt Y S w sb m f k M st := by
  obtain ⟨pm, sm, c, l, h⟩ := h; exact ⟨pm, sm, c, l, h.mono hn⟩
theorem SA.cell (h : SA Y S w sb n f k M st pm sm c l) : w.cell? ⟨sb, 1, none⟩ = some pm ∧ w.cell? ⟨sb, 2, none⟩ = some sm ∧ w.cell? ⟨sb, 3, none⟩ = some (.int .u64 c) ∧ w.cell? ⟨sb, 4, none⟩ = some (.int .u64 l) := by
  have := h.blk
  refine ⟨?_, ?_, ?_, ?_⟩ <;> simp [World.cell?, this]
theorem SA.free (h : SA Y S w sb n f k M st pm sm c l) (i : Nat) : w.frozen? ⟨sb, i, none⟩ = false := by
  have := h.blk
  simp [World.frozen?, this]
/-- A page's bytes turn. -/
theorem SA.write (h : SA Y S w sb n f k M st pm sm c l) {num b off : Nat} {cs : List Int} (hb : f num = some b) (hfit : off + cs.length ≤ 4096) (hg : w.grownBy w' (some b))
    (hw : w'.heap[b]? = some (.cells (asBytes (splice (pageOf M num) off cs)).toArray 115 (0, 0))) : SA Y S w' sb n f k (lay M (num * 4096 + off) cs) st pm sm c l := by
  have hbb := (h.at_ num b hb).2
  have other : ∀ x o, w.heap[x]? = some o → x ≠ b → w'.heap[x]? = some o := fun x o hx hn => by
    rw [hg.block x (lt_at hx) (fun e => hn (by injection e))]; exact hx
  refine ⟨other _ _ h.blk (fun e => ?_), h.own, h.lw, h.top, h.pages.kept fun B hB => ?_, h.stamps.kept fun B hB => ?_, h.apart, fun p x hx => ?_, h.inj, fun p o hp ho => ?_, h.lim⟩
  · have := h.blk; rw [e, hbb] at this; first | cases this | exact absurd (cells_ty this) (by decide)
  · obtain ⟨_, es, c, h2⟩ := h.pages.isMap hB
    rw [other _ _ h2 (fun e => by rw [e, hbb] at h2; cases h2), h2]
  · obtain ⟨_, es, c, h2⟩ := h.stamps.isMap hB
    rw [other _ _ h2 (fun e => by rw [e, hbb] at h2; cases h2), h2]
  · by_cases e : p = num
    · subst e
      rw [hb] at hx; cases hx
      exact ⟨(h.at_ p _ hb).1, by rw [pageOf_lay _ _ _ _ hfit]; exact hw⟩
    · have hne : x ≠ b := fun ex => e (h.inj p num b (ex ▸ hx) hb)
      refine ⟨(h.at_ p x hx).1, ?_⟩
      rw [pageOf_other M _ p (fun o ho => lay_out _ _ _ _ (by omega))]
      exact other _ _ (h.at_ p x hx).2 hne
  · have hpn : p ≠ num := fun e => by subst e; rw [hb] at hp; cases hp
    rw [lay_out _ _ _ _ (by omega)]
    exact h.zero p o hp ho
end

end Go.Proofs.Ytpalhkfipnbcnaa

set_option linter.unusedVariables false
set_option linter.unusedSimpArgs false
namespace Go.Proofs.Ytpalhkfipnbcnaa
open Go.RowKit
set_option maxRecDepth 100000

theorem below_far (addr n : Int) (w : World) (h : 274877906944 ≤ addr) : Calls Try.prog 57 #[.int .u64 addr, .int .i64 n] w fun e w' => e = .returned (.int .i64 0) ∧ w = w' := by
  go_enter Try.func57, Try.ntmps57
  go_wp2
  go_ret
  exact ⟨rfl, rfl⟩
theorem below_le (addr n : Int) (w : World) (h0 : 0 ≤ addr) (h : addr < 274877906944) (hn0 : 0 ≤ n) (hn : n ≤ 100000000) (h1 : n ≤ 274877906944 - addr) : Calls Try.prog 57 #[.int .u64 addr, .int .i64 n] w fun e w' => e = .returned (.int .i64 n) ∧ w = w' := by
  go_enter Try.func57, Try.ntmps57
  go_wp2
  go_ret
  exact ⟨rfl, rfl⟩
theorem below_gt (addr n : Int) (w : World) (h0 : 0 ≤ addr) (h : addr < 274877906944) (hn0 : 0 ≤ n) (hn : n ≤ 100000000) (h1 : 274877906944 - addr < n) : Calls Try.prog 57 #[.int .u64 addr, .int .i64 n] w fun e w' => e = .returned (.int .i64 (274877906944 - addr)) ∧ w = w' := by
  go_enter Try.func57, Try.ntmps57
  go_wp2
  go_ret
  exact ⟨rfl, rfl⟩
/-- How many of n places there are. -/
def room (addr n : Nat) : Nat := min n (274877906944 - addr)
theorem below_any (addr n : Nat) (w : World) (hn : n ≤ 100000000) : Calls Try.prog 57 #[.int .u64 (addr : Int), .int .i64 (n : Int)] w fun e w' => e = .returned (.int .i64 (room addr n : Int)) ∧ w = w' := by
  unfold room
  by_cases h : addr < 274877906944
  · by_cases hle : n ≤ 274877906944 - addr
    · rw [Nat.min_eq_left hle]
      exact below_le _ _ w (by omega) (by omega) (by omega) (by omega) (by omega)
    · rw [Nat.min_eq_right (by omega)]
      have e : ((274877906944 - addr : Nat) : Int) = 274877906944 - (addr : Int) := by omega
      rw [e]
      exact below_gt _ _ w (by omega) (by omega) (by omega) (by omega) (by omega)
  · rw [show 274877906944 - addr = 0 by omega, Nat.min_zero]
    exact below_far _ _ w (by omega)

def span (a b : Int) : Value := .agg #[.int .u64 a, .int .u64 b]
theorem pwithin_in (a b : Int) (w : World) (h : b ≤ 274877906944) : Calls Try.prog 83 #[.int .u64 a, .int .u64 b] w fun e w' => e = .returned (span a b) ∧ Bl w w' := by
  unfold span
  go_enter Try.func83, Try.ntmps83
  go_wp2
  refine bodyPost_ret (results_cell_row rfl _ _ w.heap.size 122 _ (0, 0) _ rfl (heap_alloc_new w _) Try.underlying122 rfl (by kernel_rfl)) rfl ⟨rfl, ?_⟩
  exact Bl.new _ _
theorem pwithin_out (a b : Int) (w : World) (h : 274877906944 < b) : Calls Try.prog 83 #[.int .u64 a, .int .u64 b] w fun e w' => e = .returned (span a 274877906944) ∧ Bl w w' := by
  unfold span
  go_enter Try.func83, Try.ntmps83
  go_wp2
  refine bodyPost_ret (results_cell_row rfl _ _ w.heap.size 122 _ (0, 0) _ rfl (heap_alloc_new w _) Try.underlying122 rfl (by kernel_rfl)) rfl ⟨rfl, ?_⟩
  exact Bl.new _ _
theorem empty_any (a b : Int) (w : World) : Calls Try.prog 84 #[span a b] w fun e w' => e = .returned (.bool (decide (b ≤ a))) ∧ Bl w w' := by
  unfold span
  go_enter Try.func84, Try.ntmps84
  go_wp2
  go_ret
  exact ⟨rfl, Bl.new _ _⟩
theorem first_i (a b : Int) (w : World) (h0 : 0 ≤ a) (h1 : a ≤ 18446744073709551615) : Calls Try.prog 88 #[span a b] w fun e w' => e = .returned (.int .u64 (a / 4096)) ∧ Bl w w' := by
  unfold span
  go_enter Try.func88, Try.ntmps88
  go_wp2
  go_ret
  exact ⟨rfl, Bl.new _ _⟩
theorem last_i (a b : Int) (w : World) (hb : 1 ≤ b) (hc : b ≤ 274877906944) : Calls Try.prog 89 #[span a b] w fun e w' => e = .returned (.int .u64 ((b - 1) / 4096)) ∧ Bl w w' := by
  unfold span
  go_enter Try.func89, Try.ntmps89
  go_wp2
  go_ret
  exact ⟨rfl, Bl.new _ _⟩
theorem keepS {w w9 w8 : World} {x : Value} {y : Value} {b : Nat} (h : w8.cell? ⟨b, 0, none⟩ = some x ∧ w8.cell? ⟨b, 1, none⟩ = some y ∧ Bl w w8) (k : Bl w8 w9) : w9.cell? ⟨b, 0, none⟩ = some x ∧ w9.cell? ⟨b, 1, none⟩ = some y ∧ Bl w w9 := by
  obtain ⟨h1, h2, h3⟩ := h
  exact ⟨by rw [k.cell (block_lt_of_cell h1)]; exact h1, by rw [k.cell (block_lt_of_cell h2)]; exact h2, h3.trans k⟩
set_option maxHeartbeats 1000000 in
theorem wide_i (a b : Int) (w : World) (ha : 0 ≤ a) (hab : a < b) (hc : b ≤ 274877906944) : Calls Try.prog 86 #[span a b] w fun e w' => e = .returned (.bool (decide (4096 ≤ (b - 1) / 4096 - a / 4096))) ∧ Bl w w' := by
  have cl := fun W => last_i a b W (by omega) hc
  have cf := fun W => first_i a b W ha (by omega)
  have CL := Lib.hid cl; clear cl
  have CF := Lib.hid cf; clear cf
  have k0 : Bl w (w.alloc (.cells #[.int .u64 a, .int .u64 b] 122)) := Bl.new _ _
  have K0 := Lib.hid k0; clear k0
  have c0 : (w.alloc (.cells #[.int .u64 a, .int .u64 b] 122)).cell? ⟨w.heap.size, 0, none⟩ = some (.int .u64 a) := by rw [cell_of_row _ _ _ _ _ _ (heap_alloc_new w _)]; rfl
  have c1 : (w.alloc (.cells #[.int .u64 a, .int .u64 b] 122)).cell? ⟨w.heap.size, 1, none⟩ = some (.int .u64 b) := by rw [cell_of_row _ _ _ _ _ _ (heap_alloc_new w _)]; rfl
  have C0 := Lib.hid c0; clear c0
  have C1 := Lib.hid c1; clear c1
  have hle : a / 4096 ≤ (b - 1) / 4096 := by omega
  have hq0 : 0 ≤ a / 4096 := by omega
  have hq1 : (b - 1) / 4096 ≤ 67108864 := by omega
  unfold span at *
  generalize (b - 1) / 4096 = q1 at *
  generalize a / 4096 = q0 at *
  go_enter Try.func86, Try.ntmps86
  go_wp2
  generalize w.alloc (.cells #[.int .u64 a, .int .u64 b] 122) = W at *
  go_region_held3 (fun w' => w'.cell? ⟨w.heap.size, 0, none⟩ = some (.int .u64 a) ∧ w'.cell? ⟨w.heap.size, 1, none⟩ = some (.int .u64 b) ∧ Bl w w') (first | assumption | exact ⟨C0.out, C1.out, K0.out⟩ | exact ⟨C0.out, C1.out, K0.out.drew⟩) (first | (go_at_call 89; refine (CL.out _).mono ?_; rintro e w9 ⟨rfl, k9⟩; have hkk := keepS (by assumption) k9) | (go_at_call 88; refine (CF.out _).mono ?_; rintro e w9 ⟨rfl, k9⟩; have hkk := keepS (by assumption) k9))
  all_goals go_wp2
  all_goals go_ret
  all_goals refine ⟨?_, hkk.2.2⟩
  all_goals rw [IntWalk.u64_in (q1 - q0) (by omega)]
  all_goals rfl
end Go.Proofs.Ytpalhkfipnbcnaa
