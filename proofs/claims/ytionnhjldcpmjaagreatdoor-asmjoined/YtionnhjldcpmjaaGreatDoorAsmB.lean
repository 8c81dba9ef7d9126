/-
  The frame of calls, the variables, forms and parts.
-/
import Derived.Test.YtionnhjldcpmjaaGreatDoorTables
import Derived.Lib.AppendIntMem
set_option linter.unusedVariables false
set_option linter.unusedSimpArgs false
namespace Go.Proofs.YtionnhjldcpmjaaGreatDoor
open Go.RowKit

/-- A text as a value. -/
abbrev str (l : List UInt8) : Value := .string ⟨l.toArray⟩
/-- All that was there is as it was. -/
abbrev Bl (w w' : World) : Prop := Below w.heap.size w w'
theorem Bl.refl (w : World) : Bl w w := Below.refl _ _
theorem Bl.trans {a b c : World} (h : Bl a b) (k : Bl b c) : Bl a c := Below.trans h (Below.mono k h.size)
theorem Kp.bl {w w' : World} (h : Kp none w w') : Bl w w' := ⟨h.os, h.tape, h.output, h.size, fun k hk => h.block k hk (by simp)⟩
theorem Has.bl {w w' : World} {b : Nat} {t : TypeId} {cs : Array Value} (h : Has w b t cs) (k : Bl w w') : Has w' b t cs := (k.block b h.lt).trans h
theorem Bl.drewN {a w : World} (h : Bl a w) (n : Nat) : Bl a (w.drewN n) := ⟨h.os, h.tape, h.output, h.size, h.block⟩
theorem Bl.drew {a w : World} (h : Bl a w) : Bl a w.drew := ⟨h.os, h.tape, h.output, h.size, h.block⟩
theorem Bl.alloc {a w : World} (h : Bl a w) (c : Array Value) (t : TypeId) : Bl a (w.alloc (.cells c t)) := Bl.trans h ((Kp.refl _ _).alloc c t).bl
theorem Bl.setCell {a w : World} (h : Bl a w) {p : Addr} (hp : a.heap.size ≤ p.block) (u : Value) : Bl a (w.setCell p u) :=
  ⟨h.os, h.tape, h.output, by simpa [World.setCell] using h.size,
   fun k hk => (Below.heap_setCell _ _ _ _ (fun e => by subst e; omega)).trans (h.block k hk)⟩
theorem cell_lt {w : World} {a : Addr} {v : Value} (h : w.cell? a = some v) : a.block < w.heap.size := by
  rcases Nat.lt_or_ge a.block w.heap.size with hl | hl
  · exact hl
  · simp [World.cell?, Array.getElem?_eq_none hl] at h
theorem Bl.cell {w w' : World} (k : Bl w w') {a : Addr} {v : Value} (h : w.cell? a = some v) : w'.cell? a = some v := by
  rw [World.cell?_of_block (w := w) (k.block a.block (cell_lt h))]
  exact h
theorem Tab.bl {w w' : World} {g : Nat} {zs : List Int} (h : Tab w g zs) (k : Bl w w') : Tab w' g zs := fun i hi => k.cell (h i hi)
theorem Tabs.bl {w w' : World} (h : Tabs w) (k : Bl w w') : Tabs w' :=
  ⟨h.t0.bl k, h.t1.bl k, h.t2.bl k, h.t3.bl k, h.t4.bl k, h.t5.bl k, h.t6.bl k, h.t7.bl k, h.t8.bl k, h.t9.bl k, h.t10.bl k, h.t11.bl k, h.t12.bl k, h.t13.bl k, h.t14.bl k, h.t15.bl k, h.t16.bl k, h.t17.bl k, h.t18.bl k⟩
/-- What stands behind the names of atomic instructions, by their order. -/
def ordT : List (List UInt8) := [[], [46, 114, 108], [46, 97, 113], [46, 97, 113, 114, 108]]
/-- What the variables hold, all the time; the fault of a text is at a. -/
structure Env (a : Addr) (w : World) : Prop where
  tabs : Tabs w
  o0 : w.cell? ⟨0, 0, none⟩ = some (.string ⟨#[]⟩)
  o1 : w.cell? ⟨0, 1, none⟩ = some (.string ⟨#[46, 114, 108]⟩)
  o2 : w.cell? ⟨0, 2, none⟩ = some (.string ⟨#[46, 97, 113]⟩)
  o3 : w.cell? ⟨0, 3, none⟩ = some (.string ⟨#[46, 97, 113, 114, 108]⟩)
  err : w.cell? ⟨1, 0, none⟩ = some (.iface 153 (.pointer (some a)))
  pow : Lib.TabBelow Tryz.prog w.heap.size w "internal/strconv.uint64pow10" .u64 Lib.pow10Tab
  ml : ∃ m, w.cell? ⟨21, 0, none⟩ = some (.int .i64 m)
  syn : ∃ t p, w.cell? ⟨23, 0, none⟩ = some (.iface t p)
  rng : ∃ t p, w.cell? ⟨24, 0, none⟩ = some (.iface t p)
theorem Env.bl {a : Addr} {w w' : World} (h : Env a w) (k : Bl w w') : Env a w' :=
  ⟨h.tabs.bl k, k.cell h.o0, k.cell h.o1, k.cell h.o2, k.cell h.o3, k.cell h.err, fun w2 h2 => h.pow w2 (Bl.trans k h2), h.ml.imp fun _ x => k.cell x,
   h.syn.imp fun _ x => x.imp fun _ y => k.cell y, h.rng.imp fun _ x => x.imp fun _ y => k.cell y⟩
/-- An operator's form. -/
def frm (op : Int) : Int :=
  if op = 1 ∨ op = 2 then 1 else if op = 3 then 2 else if op = 4 ∨ (11 ≤ op ∧ op ≤ 17) then 3 else if 5 ≤ op ∧ op ≤ 10 then 4 else if 18 ≤ op ∧ op ≤ 21 then 5
  else if (22 ≤ op ∧ op ≤ 30) ∨ (41 ≤ op ∧ op ≤ 44) then 6 else if (31 ≤ op ∧ op ≤ 40) ∨ (45 ≤ op ∧ op ≤ 62) then 7 else if op = 63 ∨ op = 74 then 8 else if 64 ≤ op ∧ op ≤ 84 then 9 else 0
/-- The parts that a form tells. -/
def prt (f : Int) : List Int :=
  if f = 1 then [0, 4] else if f = 2 then [0, 3] else if f = 3 then [0, 3, 1] else if f = 4 then [1, 2, 3] else if f = 5 then [2, 3, 1] else if f = 6 then [0, 1, 3]
  else if f = 7 then [0, 1, 2] else if f = 8 then [0, 1] else if f = 9 then [0, 2, 1] else []
set_option maxHeartbeats 4000000 in
theorem formOf_any (op : Int) (w : World) : Calls Tryz.prog 23 #[.int .i64 op] w fun e w' => e = .returned (.int .i64 (frm op)) ∧ w = w' := by
  go_enter Tryz.func23, Tryz.ntmps23
  go_wp2
  all_goals (go_ret; refine ⟨?_, rfl⟩)
  all_goals refine congrArg (fun x => Ending.returned (Value.int IntKind.i64 x)) (?_ : _ = frm op)
  all_goals first | (unfold frm; simp_all; done) | (unfold frm; simp_all; omega)
theorem prt_one : prt 1 = [0, 4] ∧ prt 2 = [0, 3] ∧ prt 3 = [0, 3, 1] ∧ prt 4 = [1, 2, 3] ∧ prt 5 = [2, 3, 1] ∧ prt 6 = [0, 1, 3] ∧ prt 7 = [0, 1, 2] ∧ prt 8 = [0, 1] ∧ prt 9 = [0, 2, 1] ∧ prt 0 = [] := by decide
set_option maxHeartbeats 4000000 in
theorem parts_some (f : Int) (w : World) (hf : 1 ≤ f ∧ f ≤ 9) : Calls Tryz.prog 22 #[.int .i64 f] w fun e w' => ∃ b, e = .returned (.slice (some ⟨b, 0, none⟩) (prt f).length (prt f).length) ∧ Has w' b 3 ((prt f).map fun p => Value.int .i64 p).toArray ∧ Kp none w w' := by
  have h : f = 1 ∨ f = 2 ∨ f = 3 ∨ f = 4 ∨ f = 5 ∨ f = 6 ∨ f = 7 ∨ f = 8 ∨ f = 9 := by omega
  clear hf
  rcases h with rfl | rfl | rfl | rfl | rfl | rfl | rfl | rfl | rfl
  all_goals go_enter Tryz.func22, Tryz.ntmps22
  all_goals go_wp2
  all_goals go_ret
  all_goals exact ⟨w.heap.size, rfl, Has.new _ _ _, (Kp.refl _ _).alloc _ _⟩
set_option maxHeartbeats 4000000 in
theorem parts_none (w : World) : Calls Tryz.prog 22 #[.int .i64 0] w fun e w' => e = .returned (.slice none 0 0) ∧ w = w' := by
  go_enter Tryz.func22, Tryz.ntmps22
  go_wp2
  go_ret
  exact ⟨rfl, rfl⟩
/-- Where a part lies. -/
def off (p : Int) : Nat := if p = 0 then 1 else if p = 1 then 2 else if p = 2 then 3 else 4
theorem field_any (b : Nat) (p : Int) (w : World) (hp : 0 ≤ p ∧ p ≤ 4) : Calls Tryz.prog 38 #[.pointer (some ⟨b, 0, none⟩), .int .i64 p] w fun e w' => e = .returned (.pointer (some ⟨b, off p, none⟩)) ∧ w = w' := by
  have h : p = 0 ∨ p = 1 ∨ p = 2 ∨ p = 3 ∨ p = 4 := by omega
  clear hp
  rcases h with rfl | rfl | rfl | rfl | rfl
  all_goals go_enter Tryz.func38, Tryz.ntmps38
  all_goals go_wp2
  all_goals go_ret
  all_goals exact ⟨rfl, rfl⟩

end Go.Proofs.YtionnhjldcpmjaaGreatDoor
