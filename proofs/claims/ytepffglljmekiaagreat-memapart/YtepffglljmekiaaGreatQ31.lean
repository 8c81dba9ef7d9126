/-
  The heap of a space: SetBrk, resize, Brk.
-/
import Derived.Test.YtepffglljmekiaaGreatQ30
set_option linter.unusedVariables false
set_option linter.unusedSimpArgs false
namespace Go.Proofs.YtepffglljmekiaaGreat
open Go.RowKit
set_option maxRecDepth 100000
theorem MS.setNums {T : Nat → Prop} {w w' : World} {sb n : Nat} {L : List Rg} {M st : Nat → Int} {mo ba en ba' en' : Int} (h : MS T w sb n L M st mo ba en) (hf : Fr (only sb) w w')
    (hb : ∀ v pm sm c l, w.heap[sb]? = some (.cells #[v, pm, sm, .int .u64 c, .int .u64 l, .int .i64 mo, .int .u64 ba, .int .u64 en] 77 (0, 0)) → w'.heap[sb]? = some (.cells #[v, pm, sm, .int .u64 c, .int .u64 l, .int .i64 mo, .int .u64 ba', .int .u64 en'] 77 (0, 0)))
    (hh : 0 ≤ ba' ∧ ba' ≤ 274877906944 ∧ 0 ≤ en' ∧ en' ≤ 274877906944) : MS T w' sb n L M st mo ba' en' := by
  obtain ⟨rg, f, k0, ⟨pm, sm, c, l, h1⟩, h2, h3⟩ := h.ex
  refine ⟨⟨rg, f, k0, ⟨pm, sm, c, l, h1.nums (hb _ _ _ _ _ h1.blk) hf⟩, h2.kept (fun g hg => hf.block g (h2.lt g hg).2 (fun e => ?_)), h3⟩, h.rs, h.few, h.by_, h.mo_, hh⟩
  obtain ⟨cur, hcur⟩ := h2.type hg
  have := h1.blk
  rw [← show g = sb from e, hcur] at this
  exact absurd (cells_ty this) (by decide)
set_option maxHeartbeats 1000000 in
theorem msetbrk_any {T : Nat → Prop} {w : World} {sb n : Nat} {L : List Rg} {M st : Nat → Int} {mo ba en : Int} (h : MS T w sb n L M st mo ba en) (x : Int) (h0 : 0 ≤ x) (h1 : x ≤ 274877906944) :
    Calls Tryz.prog 21 #[addr0 sb, .int .u64 x] w fun e w' => e = .returned (.tuple #[]) ∧ MS T w' sb n L M st mo ((x + 4095) / 4096 * 4096) ((x + 4095) / 4096 * 4096) ∧ Fr T w w' := by
  have cu := fun W => mup_any x W
  rw [upW_in h0 h1] at cu
  obtain ⟨y, hy⟩ : ∃ y, y = (x + 4095) / 4096 * 4096 := ⟨_, rfl⟩
  have y0 : 0 ≤ y := by omega
  have y1 : y ≤ 274877906944 := by omega
  rw [← hy] at cu ⊢
  clear hy
  have CU := Lib.hid cu; clear cu
  have hf : Fr (only sb) w ((w.setCell ⟨sb, 6, none⟩ (.int .u64 y)).setCell ⟨sb, 7, none⟩ (.int .u64 y)) := (Fr.set (S := only sb) (p := ⟨sb, 6, none⟩) rfl _).trans (Fr.set (S := only sb) (p := ⟨sb, 7, none⟩) rfl _)
  have h2 := h.setNums (ba' := y) (en' := y) hf (fun v pm sm c l hb => by
    have e1 := heap_setCell_same w sb 6 _ 77 (.int .u64 y) hb
    have e2 := heap_setCell_same _ sb 7 _ 77 (.int .u64 y) e1
    rw [e2]; rfl) ⟨y0, y1, y0, y1⟩
  have f2 := hf.only_of h.own
  obtain ⟨m0, m1, m2⟩ := h.cells
  have d6 := h.free 6
  have d7 := h.free 7
  have H2 := Lib.hid h2; clear h2
  have F2 := Lib.hid f2; clear f2 h hf
  unfold addr0
  go_enter Tryz.func21, Tryz.ntmps21
  go_wp2_with fail
  refine (CU.out _).mono ?_
  rintro e w' ⟨rfl, rfl⟩
  go_wp2_with fail
  go_end0
  exact ⟨rfl, H2.out, F2.out⟩
theorem msetbrk_far {w : World} (sb : Nat) (x : Int) (h1 : 274877906944 < x) : Calls Tryz.prog 21 #[addr0 sb, .int .u64 x] w fun e w' => e = .returned (.tuple #[]) ∧ w = w' := by
  unfold addr0
  go_enter Tryz.func21, Tryz.ntmps21
  go_wp2_with fail
  (try simp only [Exit.inBlock, Exit.then]); refine bodyPost_ret (results_none rfl _ _ _) rfl ?_
  exact ⟨rfl, rfl⟩
/-- What Clear must do for what is unmapped. -/
def Clears (T : Nat → Prop) (w : World) (sb n : Nat) (M st : Nat → Int) (mo ba en : Int) (a b : Nat) : Prop := ∀ W L', a % 4096 = 0 → b % 4096 = 0 → a < b → b ≤ 274877906944 → w.heap.size ≤ W.heap.size → MS T W sb n L' M st mo ba en → Calls Tryz.prog 68 #[.pointer (some ⟨sb, 1, none⟩), .int .u64 (a : Int), .int .u64 (b : Int)] W fun e w' => e = .returned (.tuple #[]) ∧ ClearPost T W sb n L' M st mo ba en a b w'
/-- How the heap's pages were moved. -/
def ResizeIs (T : Nat → Prop) (w : World) (sb n : Nat) (L : List Rg) (M st : Nat → Int) (mo ba en : Int) (was now : Nat) (ok : Bool) (w' : World) : Prop :=
  (was < now ∧ ok = true ∧ FreeIn L was now ∧ (layL L was now [⟨was, now, 3⟩]).length ≤ 256 ∧ tot (layL L was now [⟨was, now, 3⟩]) ≤ mo * 4096 ∧ ClearPost T w sb n (layL L was now [⟨was, now, 3⟩]) M st mo ba en was now w') ∨
  (now < was ∧ ok = true ∧ (layL L now was []).length ≤ 256 ∧ ClearPost T w sb n (layL L now was []) M st mo ba en now was w') ∨
  (now = was ∧ ok = true ∧ Bl w w') ∨
  (ok = false ∧ Bl w w' ∧ ((was < now ∧ (¬ FreeIn L was now ∨ 256 < (layL L was now [⟨was, now, 3⟩]).length ∨ mo * 4096 < tot (layL L was now [⟨was, now, 3⟩]))) ∨ (now < was ∧ 256 < (layL L now was []).length)))
set_option maxHeartbeats 4000000 in
theorem mresize_any {T : Nat → Prop} {w : World} {sb n : Nat} {L : List Rg} {M st : Nat → Int} {mo ba en : Int} (h : MS T w sb n L M st mo ba en) (was now : Nat) (h1 : was % 4096 = 0) (h2 : now % 4096 = 0) (h3 : was ≤ 274877906944) (h4 : now ≤ 274877906944) (hn : n < 80000000) (hT : ∀ b, w.heap.size ≤ b → T b) (hcl : Clears T w sb n M st mo ba en now was) :
    Calls Tryz.prog 66 #[addr0 sb, .int .u64 (was : Int), .int .u64 (now : Int)] w fun e w' => ∃ ok, e = .returned (.bool ok) ∧ ResizeIs T w sb n L M st mo ba en was now ok w' := by
  rcases Nat.lt_trichotomy was now with hlt | rfl | hgt
  · have hs : Span (was : Int) (now : Int) := ⟨by omega, by omega, by omega, by omega⟩
    have hltI : (was : Int) < (now : Int) := by omega
    obtain ⟨X, hX⟩ := h.list
    by_cases hf : FreeIn L was now
    · have cf := free_any hX h.so was now (by omega) hs (by have := h.few; omega) true ⟨fun _ => hf, fun _ => rfl⟩
      have CF := Lib.hid cf; clear cf hX
      have H := Lib.hid h; clear h
      have HT := Lib.hid hT; clear hT hcl
      have HF := Lib.hid hf; clear hf hs
      unfold addr0 at *
      go_enter Tryz.func66, Tryz.ntmps66
      go_wp2_with fail
      refine CF.out.mono ?_
      rintro e w1 ⟨rfl, k1⟩
      have cl := mlay_any (H.out.bl k1) was now 3 (by omega) (by omega) hn (fun b hb => HT.out b (Nat.le_trans k1.size hb))
      have CL := Lib.hid cl; clear cl
      have K1 := Lib.hid k1; clear k1 CF
      unfold addr0 at CL
      go_wp2_with fail
      refine CL.out.mono ?_
      rintro e w2 ⟨r, rfl, hl⟩
      have hl2 := LayAny.back K1.out hl
      clear hl CL
      rcases hl2 with ⟨rfl, g2, g3, g4, g5, g6, g7⟩ | ⟨rfl, g2, g3⟩ | ⟨rfl, g2, g3, g4⟩
      · have G5 := Lib.hid g5
        have G6 := Lib.hid g6
        have G7 := Lib.hid g7
        clear g2 g3 g4 g5 g6 g7
        go_wp2_with fail
        go_ret
        exact ⟨true, rfl, .inl ⟨hlt, rfl, HF.out, G5.out, G6.out, G7.out⟩⟩
      · exact absurd ⟨⟨by omega, by omega, by omega, by omega⟩, by omega, by omega⟩ g2
      · have G3 := Lib.hid g3
        have G4 := Lib.hid g4
        clear g2 g3 g4
        go_wp2_with fail
        go_ret
        exact ⟨false, rfl, .inr (.inr (.inr ⟨rfl, G4.out, .inl ⟨hlt, .inr G3.out⟩⟩))⟩
    · have cf := free_any hX h.so was now (by omega) hs (by have := h.few; omega) false ⟨fun e => (by cases e), fun e => absurd e hf⟩
      have CF := Lib.hid cf; clear cf hX h hT hcl hs
      have HF := Lib.hid hf; clear hf
      unfold addr0 at *
      go_enter Tryz.func66, Tryz.ntmps66
      go_wp2_with fail
      refine CF.out.mono ?_
      rintro e w1 ⟨rfl, k1⟩
      have K1 := Lib.hid k1; clear k1 CF
      go_wp2_with fail
      go_ret
      exact ⟨false, rfl, .inr (.inr (.inr ⟨rfl, K1.out, .inl ⟨hlt, .inl HF.out⟩⟩))⟩
  · unfold addr0
    clear h hcl
    go_enter Tryz.func66, Tryz.ntmps66
    go_wp2_with fail
    go_ret
    exact ⟨true, rfl, .inr (.inr (.inl ⟨rfl, rfl, Bl.refl _⟩))⟩
  · have hgtI : (now : Int) < (was : Int) := by omega
    have hb : (was : Int) = IntKind.u64.wrap (now + upW ((was : Int) - now)) := by
      rw [upW_in (by omega) (by omega), IntWalk.u64_in _ (by omega)]; omega
    have cu := munmap_of h now was ((was : Int) - now) (by omega) hb hn hT hcl
    have CU := Lib.hid cu; clear cu h hT hcl hb
    have hw : IntKind.u64.wrap ((was : Int) - now) = (was : Int) - now := IntWalk.u64_in _ (by omega)
    unfold addr0 at *
    go_enter Tryz.func66, Tryz.ntmps66
    go_wp2_with fail
    refine CU.out.mono ?_
    rintro e w1 ⟨r, rfl, hr⟩
    rcases hr with ⟨rfl, g1, g2, g3⟩ | ⟨hr, g1, g2⟩
    · have G2 := Lib.hid g2
      have G3 := Lib.hid g3
      clear g1 g2 g3 CU
      go_wp2_with fail
      go_ret
      exact ⟨true, rfl, .inr (.inl ⟨hgt, rfl, G2.out, G3.out⟩)⟩
    · have t5 : (r == 0) = false := by simp [hr]
      have hlen : 256 < (layL L now was []).length := by
        rcases Nat.lt_or_ge 256 (layL L now was []).length with h | h
        · exact h
        · exact absurd ⟨⟨by omega, by omega, by omega, by omega⟩, h⟩ g1
      have G1 := Lib.hid hlen
      have G2 := Lib.hid g2
      clear g1 g2 CU hr hlen
      go_wp2_with fail
      go_ret
      exact ⟨false, rfl, .inr (.inr (.inr ⟨rfl, G2.out, .inr ⟨hgt, G1.out⟩⟩))⟩
def upN (x : Int) : Nat := ((x + 4095) / 4096 * 4096).toNat
theorem upN_of {x : Int} (h0 : 0 ≤ x) (h1 : x ≤ 274877906944) : (upN x : Int) = upW x ∧ upN x % 4096 = 0 ∧ upN x ≤ 274877906944 ∧ (upN x : Int) = (x + 4095) / 4096 * 4096 := by
  rw [upW_in h0 h1]; unfold upN; omega
/-- What Brk answers, and what it does. -/
def BrkIs (T : Nat → Prop) (w : World) (sb n : Nat) (L : List Rg) (M st : Nat → Int) (mo ba en x y : Int) (w' : World) : Prop :=
  (¬ (ba ≤ x ∧ x ≤ 274877906944) ∧ y = en ∧ Bl w w') ∨
  (ba ≤ x ∧ x ≤ 274877906944 ∧ ∃ ok w1, ResizeIs T w sb n L M st mo ba en (upN en) (upN x) ok w1 ∧ ((ok = false ∧ y = en ∧ w' = w1) ∨ (ok = true ∧ y = x ∧ w' = w1.setCell ⟨sb, 7, none⟩ (.int .u64 x))))
set_option maxHeartbeats 4000000 in
theorem mbrk_any {T : Nat → Prop} {w : World} {sb n : Nat} {L : List Rg} {M st : Nat → Int} {mo ba en : Int} (h : MS T w sb n L M st mo ba en) (x : Int) (h0 : 0 ≤ x) (hn : n < 80000000) (hT : ∀ b, w.heap.size ≤ b → T b) (hcl : Clears T w sb n M st mo ba en (upN x) (upN en)) :
    Calls Tryz.prog 26 #[addr0 sb, .int .u64 x] w fun e w' => ∃ y, e = .returned (.int .u64 y) ∧ BrkIs T w sb n L M st mo ba en x y w' := by
  obtain ⟨m0, m1, m2⟩ := h.cells
  obtain ⟨b0, b1, b2, b3⟩ := h.heap
  by_cases hx : ba ≤ x ∧ x ≤ 274877906944
  · obtain ⟨x1, x2⟩ := hx
    obtain ⟨e1, e2, e3, e4⟩ := upN_of h0 x2
    obtain ⟨e5, e6, e7, e8⟩ := upN_of b2 b3
    have cr := mresize_any h (upN en) (upN x) e6 e2 e7 e3 hn hT hcl
    have cu1 := fun W => mup_any en W
    have cu2 := fun W => mup_any x W
    rw [← e5] at cu1
    rw [← e1] at cu2
    have CR := Lib.hid cr; clear cr
    have CU1 := Lib.hid cu1; clear cu1
    have CU2 := Lib.hid cu2; clear cu2
    have H := Lib.hid h; clear h e1 e5 e4 e8 hcl
    unfold addr0 at *
    obtain ⟨ue, hue⟩ : ∃ ue, ue = upN en := ⟨_, rfl⟩
    obtain ⟨ux, hux⟩ : ∃ ux, ux = upN x := ⟨_, rfl⟩
    rw [← hue] at CU1 e6 e7
    rw [← hux] at CU2 e2 e3
    rw [← hue, ← hux] at CR
    have HUE := Lib.hid hue; clear hue
    have HUX := Lib.hid hux; clear hux
    go_enter Tryz.func26, Tryz.ntmps26
    go_wp2_with fail
    refine (CU1.out _).mono ?_
    rintro e w' ⟨rfl, rfl⟩
    go_wp2_with fail
    refine (CU2.out _).mono ?_
    rintro e w' ⟨rfl, rfl⟩
    go_wp2_with fail
    refine CR.out.mono ?_
    rintro e w1 ⟨ok, rfl, hr⟩
    have hcells : w1.cell? ⟨sb, 7, none⟩ = some (.int .u64 en) ∧ w1.frozen? ⟨sb, 7, none⟩ = false := by
      rcases hr with ⟨_, _, _, _, _, st', g, _⟩ | ⟨_, _, _, st', g, _⟩ | ⟨_, _, k⟩ | ⟨_, k, _⟩
      · exact ⟨g.cells.2.2, g.free 7⟩
      · exact ⟨g.cells.2.2, g.free 7⟩
      · exact ⟨(H.out.bl k).cells.2.2, (H.out.bl k).free 7⟩
      · exact ⟨(H.out.bl k).cells.2.2, (H.out.bl k).free 7⟩
    obtain ⟨d7, f7⟩ := hcells
    have HR := Lib.hid hr; clear hr m0 m1 m2 CR
    rcases ok with _ | _
    · go_wp2_with fail
      go_ret
      exact ⟨en, rfl, .inr ⟨x1, x2, false, w1, (by rw [← HUE.out, ← HUX.out]; exact HR.out), .inl ⟨rfl, rfl, rfl⟩⟩⟩
    · go_wp2_with fail
      go_ret
      exact ⟨x, rfl, .inr ⟨x1, x2, true, w1, (by rw [← HUE.out, ← HUX.out]; exact HR.out), .inr ⟨rfl, rfl, rfl⟩⟩⟩
  · clear h hcl
    unfold addr0
    by_cases x1 : ba ≤ x
    · have x2 : 274877906944 < x := by omega
      go_enter Tryz.func26, Tryz.ntmps26
      go_wp2_with fail
      go_ret
      exact ⟨en, rfl, .inl ⟨by omega, rfl, Bl.refl _⟩⟩
    · have x2 : x < ba := by omega
      go_enter Tryz.func26, Tryz.ntmps26
      go_wp2_with fail
      go_ret
      exact ⟨en, rfl, .inl ⟨by omega, rfl, Bl.refl _⟩⟩
end Go.Proofs.YtepffglljmekiaaGreat
