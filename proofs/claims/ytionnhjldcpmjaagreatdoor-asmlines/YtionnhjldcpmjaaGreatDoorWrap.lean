/-
  The frame of the laws: their arguments, and what they may lean on.
-/
import Derived.Test.YtionnhjldcpmjaaGreatDoorLaidA
import Derived.Test.YtionnhjldcpmjaaGreatDoorAsmV
import Derived.ShutString
set_option linter.unusedVariables false
set_option linter.unusedSimpArgs false
namespace Go.Proofs.YtionnhjldcpmjaaGreatDoor
open Go.RowKit

open Go.ChangeShapes Go.WideShapes Go.ChangeAt
/-- The wrap of a law that lists variables, with the shape of the world. -/
theorem returnsIn_laid {H : Type} {enc : TypeId × Value → H} {a : Assume} {C : Checked} {os : Os} {f : FuncId} {fn : Func} {s : ChangeSpec} {conds : List PathCond} {apart fresh handsOn again : Bool} {X : World → Array Value → Prop}
    (hX : ∀ (w w' : World) (args : Array Value), w.heap = w'.heap → X w args → X w' args)
    (own : ownKnob C.prog.godebug = none) (started : os.Started) (noInit : C.prog.inits.idxOf? f = none) (hfn : C.prog.funcs[f]? = some fn)
    (witness : ∃ (w : World) (tape : Tape) (i : Input), w.os = os ∧ (w.forCall tape i).Shaped C.prog ∧ i.vars = [] ∧ Input.okWide C.prog (w.forCall tape i) .any w.heap.size f i ∧
      ((s.pre enc C.prog fn conds apart (w.forCall tape i).memory i.args ∧ X (w.forCall tape i).memory i.args) ∧ sizedMet enc C.prog fn (OpenSpec.ofChange s) apart (w.forCall tape i).memory i.args) ∧ a.holds C.prog (lone (Frame.enter C.prog f i.args .normal) [] (w.forCall tape i)))
    (contract : ∀ (W : World) (base : Nat) (args : Array Value) (ds gs : List (DataW H)) (before : List MemPlace),
      (∀ (j : Nat) t v, fn.params[j]? = some t → args[j]? = some v → Value.okWide C.prog W .any base t v) →
      DataW.Whole enc C.prog fn.params.toList s.vars apart W args.toList ds gs before →
      X W args → W.ShapedOpen C.prog →
      Calls C.prog f args W fun e W' => ∃ v, e = .returned v ∧ s.post enc C.prog fn apart fresh handsOn again W args v W') :
    ReturnsInHanded a C os f .any (fun w args => (s.pre enc C.prog fn conds apart w args ∧ X w args) ∧ sizedMet enc C.prog fn (OpenSpec.ofChange s) apart w args) (s.post enc C.prog fn apart fresh handsOn again) := by
  refine returnsInHanded_of_calls own started noInit witness ?_
  intro w tape i _ hsh _ hok hpre _
  obtain ⟨_, _, _, fn', hfn', _, _, _, _, hval⟩ := hok
  obtain rfl : fn' = fn := Option.some.inj (hfn'.symm.trans hfn)
  obtain ⟨⟨⟨ds, gs, before, hw, _⟩, hx⟩, _⟩ := hpre
  refine (contract (w.forCall tape i) w.heap.size i.args ds gs before hval (DataW.Whole.of_heap (w' := w.forCall tape i) (by rfl) hw) (hX _ _ _ (by rfl) hx) hsh).mono fun e W' ⟨v, he, hp⟩ => ?_
  subst he
  exact ChangeSpec.post_blind hp
theorem some_max {W : World} (h : W.ShapedOpen Tryz.prog) : ∃ m, W.cell? ⟨21, 0, none⟩ = some (.int .i64 m) := Tryz.laysM145.s1_3 W h
theorem i64_bd (a : Int) (h : (Lit.int .i64 a).wf = true) : -9223372036854775808 ≤ a ∧ a ≤ 9223372036854775807 := by
  simp only [Lit.wf, Bool.and_eq_true, decide_eq_true_eq] at h
  have h1 : IntKind.i64.min = -9223372036854775808 := rfl
  have h2 : IntKind.i64.max = 9223372036854775807 := rfl
  omega
/-- A text that came in, as a list. -/
theorem str_of (s : ByteArray) : Value.string s = str s.data.toList := by
  rfl
theorem len_of {s : ByteArray} (h : s.size ≤ maxLen) : s.data.toList.length ≤ 9223372036854775807 := h
set_option maxRecDepth 10000
/-- Each number of an instruction is one of 64 bits. -/
def Ins.Fits (i : Ins) : Prop := (Lit.int .i64 i.op).wf = true ∧ (Lit.int .i64 i.rd).wf = true ∧ (Lit.int .i64 i.r1).wf = true ∧ (Lit.int .i64 i.r2).wf = true ∧ (Lit.int .i64 i.im).wf = true ∧ (Lit.int .i64 i.od).wf = true ∧ (Lit.int .i64 i.sz).wf = true
/-- How an instruction reads. -/
def Ins.data {H : Type} (i : Ins) : DataW H := .agg [.lit (.int .i64 i.op), .lit (.int .i64 i.rd), .lit (.int .i64 i.r1), .lit (.int .i64 i.r2), .lit (.int .i64 i.im), .lit (.int .i64 i.od), .lit (.int .i64 i.sz)]
section
variable {H : Type} {enc : TypeId × Value → H} {w : World} {base : Nat} {sp : Nat → Bool} {held : Bool}
theorem cells28 : Tryz.prog.cellsOf 28 = 7 := by kernel_rfl
theorem open_inst {r : Reach} {b0 : Nat} {v : Value} {d : DataW H} {p : List MemPlace} (hv : Value.okWide Tryz.prog w r b0 28 v) (h : DataW.Trod enc Tryz.prog w base sp held 28 v d p) :
    ∃ i : Ins, i.Fits ∧ v = .agg i.cells ∧ d = i.data ∧ p = [] := by
  obtain ⟨cs, rfl, hsz⟩ := okWide_struct Tryz.underlying28 hv
  rw [cells28] at hsz
  obtain ⟨fuel, hf⟩ := h
  obtain ⟨xs, n, _, hx, _, hlen, hg⟩ := DataW.trod_struct Tryz.underlying28 hf
  obtain ⟨l⟩ := cs
  match l, hsz with
  | [c0, c1, c2, c3, c4, c5, c6], _ =>
    match xs, hlen with
    | [y0, y1, y2, y3, y4, y5, y6], _ =>
      have t0 : DataW.trod enc Tryz.prog w base sp held n 3 [c0] = some y0 := by simpa [Value.cells, cells3] using hg 0 _ rfl
      obtain ⟨z0, u0, rfl, f0⟩ := DataW.trod_int Tryz.underlying3 t0
      obtain rfl : c0 = .int .i64 z0 := by simpa using u0
      have t1 : DataW.trod enc Tryz.prog w base sp held n 3 [c1] = some y1 := by simpa [Value.cells, cells3] using hg 1 _ rfl
      obtain ⟨z1, u1, rfl, f1⟩ := DataW.trod_int Tryz.underlying3 t1
      obtain rfl : c1 = .int .i64 z1 := by simpa using u1
      have t2 : DataW.trod enc Tryz.prog w base sp held n 3 [c2] = some y2 := by simpa [Value.cells, cells3] using hg 2 _ rfl
      obtain ⟨z2, u2, rfl, f2⟩ := DataW.trod_int Tryz.underlying3 t2
      obtain rfl : c2 = .int .i64 z2 := by simpa using u2
      have t3 : DataW.trod enc Tryz.prog w base sp held n 3 [c3] = some y3 := by simpa [Value.cells, cells3] using hg 3 _ rfl
      obtain ⟨z3, u3, rfl, f3⟩ := DataW.trod_int Tryz.underlying3 t3
      obtain rfl : c3 = .int .i64 z3 := by simpa using u3
      have t4 : DataW.trod enc Tryz.prog w base sp held n 3 [c4] = some y4 := by simpa [Value.cells, cells3] using hg 4 _ rfl
      obtain ⟨z4, u4, rfl, f4⟩ := DataW.trod_int Tryz.underlying3 t4
      obtain rfl : c4 = .int .i64 z4 := by simpa using u4
      have t5 : DataW.trod enc Tryz.prog w base sp held n 3 [c5] = some y5 := by simpa [Value.cells, cells3] using hg 5 _ rfl
      obtain ⟨z5, u5, rfl, f5⟩ := DataW.trod_int Tryz.underlying3 t5
      obtain rfl : c5 = .int .i64 z5 := by simpa using u5
      have t6 : DataW.trod enc Tryz.prog w base sp held n 3 [c6] = some y6 := by simpa [Value.cells, cells3] using hg 6 _ rfl
      obtain ⟨z6, u6, rfl, f6⟩ := DataW.trod_int Tryz.underlying3 t6
      obtain rfl : c6 = .int .i64 z6 := by simpa using u6
      simp only [Prod.mk.injEq] at hx
      exact ⟨⟨z0, z1, z2, z3, z4, z5, z6⟩, ⟨f0, f1, f2, f3, f4, f5, f6⟩, rfl, by simpa [Ins.data] using hx.1, by simpa using hx.2⟩
theorem shut_inst {i : Ins} (h : i.Fits) : DataW.Trod enc Tryz.prog w base sp held 28 (.agg i.cells) i.data [] := by
  obtain ⟨f0, f1, f2, f3, f4, f5, f6⟩ := h
  obtain ⟨op, rd, r1, r2, im, od, sz⟩ := i
  have t : ∀ z : Int, (Lit.int .i64 z).wf = true → DataW.trod enc Tryz.prog w base sp held 1 3 [.int .i64 z] = some (.lit (.int .i64 z), []) := fun z hz => trod_int_mk 0 Tryz.underlying3 hz
  have := trod_struct_mk (enc := enc) (P := Tryz.prog) (w := w) (base := base) (spare := sp) (held := held) (n := 1) (cs := [.int .i64 op, .int .i64 rd, .int .i64 r1, .int .i64 r2, .int .i64 im, .int .i64 od, .int .i64 sz]) (xs := [(.lit (.int .i64 op), []), (.lit (.int .i64 rd), []), (.lit (.int .i64 r1), []), (.lit (.int .i64 r2), []), (.lit (.int .i64 im), []), (.lit (.int .i64 od), []), (.lit (.int .i64 sz), [])]) Tryz.underlying28 (by rw [cells28]; rfl)
    (by simp [cells3, t op f0, t rd f1, t r1 f2, t r2 f3, t im f4, t od f5, t sz f6])
  exact ⟨2, this⟩
end
theorem Ins.Fits.in64 {i : Ins} (h : i.Fits) : In64 i := by
  obtain ⟨h0, h1, h2, h3, h4, h5, h6⟩ := h
  exact ⟨i64_bd _ h1, i64_bd _ h2, i64_bd _ h3, i64_bd _ h4⟩

end Go.Proofs.YtionnhjldcpmjaaGreatDoor
