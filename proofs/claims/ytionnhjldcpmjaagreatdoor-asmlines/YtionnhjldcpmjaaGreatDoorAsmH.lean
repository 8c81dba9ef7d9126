/-
  read.
-/
import Derived.Test.YtionnhjldcpmjaaGreatDoorAsmG
set_option linter.unusedVariables false
set_option linter.unusedSimpArgs false
namespace Go.Proofs.YtionnhjldcpmjaaGreatDoor
open Go.RowKit

/-- All that was there is as it was, but perhaps block b. -/
structure Bb (b : Nat) (w w' : World) : Prop where
  os : w'.os = w.os
  tape : w'.tape = w.tape
  output : w'.output = w.output
  size : w.heap.size ≤ w'.heap.size
  block : ∀ k, k < w.heap.size → k ≠ b → w'.heap[k]? = w.heap[k]?
theorem Bl.bb {b : Nat} {w w' : World} (h : Bl w w') : Bb b w w' := ⟨h.os, h.tape, h.output, h.size, fun k hk _ => h.block k hk⟩
theorem Bb.trans {b : Nat} {x y z : World} (h : Bb b x y) (k : Bb b y z) : Bb b x z :=
  ⟨k.os.trans h.os, k.tape.trans h.tape, k.output.trans h.output, Nat.le_trans h.size k.size, fun i hi hn => (k.block i (Nat.lt_of_lt_of_le hi h.size) hn).trans (h.block i hi hn)⟩
theorem Bb.set (b : Nat) (w : World) {o : Nat} (u : Value) : Bb b w (w.setCell ⟨b, o, none⟩ u) :=
  ⟨rfl, rfl, rfl, by simp [World.setCell], fun k _ hn => Below.heap_setCell _ _ _ _ hn⟩
theorem Bb.on {b : Nat} {w0 w w' : World} (h : Bl w0 w) (k : Bb b w w') (hb : w0.heap.size ≤ b) : Bl w0 w' :=
  ⟨k.os.trans h.os, k.tape.trans h.tape, k.output.trans h.output, Nat.le_trans h.size k.size, fun i hi => (k.block i (Nat.lt_of_lt_of_le hi h.size) (by omega)).trans (h.block i hi)⟩
theorem Has.bb {b c : Nat} {w w' : World} {t : TypeId} {cs : Array Value} (h : Has w c t cs) (k : Bb b w w') (hn : c ≠ b) : Has w' c t cs := (k.block c h.lt hn).trans h
/-- An instruction with another part. -/
def setF (i : Ins) (p v : Int) : Ins :=
  if p = 0 then ⟨i.op, v, i.r1, i.r2, i.im, i.od, i.sz⟩ else if p = 1 then ⟨i.op, i.rd, v, i.r2, i.im, i.od, i.sz⟩ else if p = 2 then ⟨i.op, i.rd, i.r1, v, i.im, i.od, i.sz⟩ else ⟨i.op, i.rd, i.r1, i.r2, v, i.od, i.sz⟩
/-- What a part is read as. -/
def rdv (p : Int) (s : List UInt8) : Int := if p = 4 then low (num (Lib.trimPrefix s [120]) * 4096) 32 else num (Lib.trimPrefix s [120])
theorem trimPrefix_len (s p : List UInt8) : (Lib.trimPrefix s p).length ≤ s.length := by
  unfold Lib.trimPrefix
  split <;> simp
set_option maxHeartbeats 2000000 in
theorem read_any (i : Ins) (b : Nat) (p : Int) (s : List UInt8) (a : Addr) (w : World) (hE : Env a w) (hs : s.length < 4294967281) (hp : 0 ≤ p ∧ p ≤ 4) (hb : Has w b 28 i.cells) :
    Calls Tryz.prog 45 #[.pointer (some ⟨b, 0, none⟩), .int .i64 p, str s] w fun e w' => e = .returned (.tuple #[]) ∧ Has w' b 28 (setF i p (rdv p s)).cells ∧ Bb b w w' := by
  have h : p = 0 ∨ p = 1 ∨ p = 2 ∨ p = 3 ∨ p = 4 := by omega
  have hT := trimP_any s [120] w
  have hA := atoi_any (Lib.trimPrefix s [120]) a w hE (by have := trimPrefix_len s [120]; omega)
  obtain ⟨v, hv⟩ : ∃ v, num (Lib.trimPrefix s [120]) = v := ⟨_, rfl⟩
  rw [hv] at hA
  have hbd := num_bd (Lib.trimPrefix s [120])
  rw [hv] at hbd
  have HH := Lib.hid hb
  clear hp hb
  have HX : Hid (sx (IntKind.u64.wrap (IntKind.u64.wrap v * 4096)) 32 = sx (v * 4096) 32) := Lib.hid (by
    unfold sx
    rw [show low (IntKind.u64.wrap (IntKind.u64.wrap v * 4096)) 32 = low (v * 4096) 32 from by
      show (_ + 2147483648) % 4294967296 - 2147483648 = (_ + 2147483648) % 4294967296 - 2147483648
      rw [IntKind.wrap_u64, IntKind.wrap_u64]
      omega])
  have HW : Hid (wrap64 (sx (v * 4096) 32) = low (v * 4096) 32) := Lib.hid (by
    have h1 := low_lo (v * 4096) 32
    have h2 := low_hi (v * 4096) 32 (by omega)
    unfold wrap64 sx
    generalize low (v * 4096) 32 = L at *
    have e : (2 : Int) ^ (32 - 1) = 2147483648 := by decide
    rw [e] at h1 h2
    omega)
  rcases h with rfl | rfl | rfl | rfl | rfl
  · rw [show rdv 0 s = v by unfold rdv; rw [hv]; rfl, show setF i 0 (v) = ⟨i.op, v, i.r1, i.r2, i.im, i.od, i.sz⟩ from rfl]
    clear hv
    go_enter Tryz.func45, Tryz.ntmps45
    go_wp2_with fail
    refine hT.mono ?_
    rintro e w0 ⟨rfl, rfl⟩
    go_wp2_with fail
    refine hA.mono ?_
    rintro e w1 ⟨ev, rfl, k1⟩
    have hb1 := HH.out.bl k1
    obtain ⟨b0, b1, b2, b3, b4, b5, b6⟩ := hb1.seven
    have z := hb1.free
    have HB := Lib.hid hb1
    have KW := Lib.hid k1
    clear hb1 k1 hA hT HH
    have F := field_any b 0 w1 (by omega)
    simp only [show off 0 = 1 from rfl] at F
    go_wp2_with fail
    refine F.mono ?_
    rintro e w2 ⟨rfl, rfl⟩
    clear F
    go_wp2
    first | go_end0 | ((try simp only [Exit.inBlock, Exit.then]); refine bodyPost_ret (results_none rfl _ _ _) rfl ?_)
    exact ⟨rfl, HB.out.set 1 _, Bb.trans (Bl.bb KW.out) (Bb.set _ _ _)⟩
  · rw [show rdv 1 s = v by unfold rdv; rw [hv]; rfl, show setF i 1 (v) = ⟨i.op, i.rd, v, i.r2, i.im, i.od, i.sz⟩ from rfl]
    clear hv
    go_enter Tryz.func45, Tryz.ntmps45
    go_wp2_with fail
    refine hT.mono ?_
    rintro e w0 ⟨rfl, rfl⟩
    go_wp2_with fail
    refine hA.mono ?_
    rintro e w1 ⟨ev, rfl, k1⟩
    have hb1 := HH.out.bl k1
    obtain ⟨b0, b1, b2, b3, b4, b5, b6⟩ := hb1.seven
    have z := hb1.free
    have HB := Lib.hid hb1
    have KW := Lib.hid k1
    clear hb1 k1 hA hT HH
    have F := field_any b 1 w1 (by omega)
    simp only [show off 1 = 2 from rfl] at F
    go_wp2_with fail
    refine F.mono ?_
    rintro e w2 ⟨rfl, rfl⟩
    clear F
    go_wp2
    first | go_end0 | ((try simp only [Exit.inBlock, Exit.then]); refine bodyPost_ret (results_none rfl _ _ _) rfl ?_)
    exact ⟨rfl, HB.out.set 2 _, Bb.trans (Bl.bb KW.out) (Bb.set _ _ _)⟩
  · rw [show rdv 2 s = v by unfold rdv; rw [hv]; rfl, show setF i 2 (v) = ⟨i.op, i.rd, i.r1, v, i.im, i.od, i.sz⟩ from rfl]
    clear hv
    go_enter Tryz.func45, Tryz.ntmps45
    go_wp2_with fail
    refine hT.mono ?_
    rintro e w0 ⟨rfl, rfl⟩
    go_wp2_with fail
    refine hA.mono ?_
    rintro e w1 ⟨ev, rfl, k1⟩
    have hb1 := HH.out.bl k1
    obtain ⟨b0, b1, b2, b3, b4, b5, b6⟩ := hb1.seven
    have z := hb1.free
    have HB := Lib.hid hb1
    have KW := Lib.hid k1
    clear hb1 k1 hA hT HH
    have F := field_any b 2 w1 (by omega)
    simp only [show off 2 = 3 from rfl] at F
    go_wp2_with fail
    refine F.mono ?_
    rintro e w2 ⟨rfl, rfl⟩
    clear F
    go_wp2
    first | go_end0 | ((try simp only [Exit.inBlock, Exit.then]); refine bodyPost_ret (results_none rfl _ _ _) rfl ?_)
    exact ⟨rfl, HB.out.set 3 _, Bb.trans (Bl.bb KW.out) (Bb.set _ _ _)⟩
  · rw [show rdv 3 s = v by unfold rdv; rw [hv]; rfl, show setF i 3 (v) = ⟨i.op, i.rd, i.r1, i.r2, v, i.od, i.sz⟩ from rfl]
    clear hv
    go_enter Tryz.func45, Tryz.ntmps45
    go_wp2_with fail
    refine hT.mono ?_
    rintro e w0 ⟨rfl, rfl⟩
    go_wp2_with fail
    refine hA.mono ?_
    rintro e w1 ⟨ev, rfl, k1⟩
    have hb1 := HH.out.bl k1
    obtain ⟨b0, b1, b2, b3, b4, b5, b6⟩ := hb1.seven
    have z := hb1.free
    have HB := Lib.hid hb1
    have KW := Lib.hid k1
    clear hb1 k1 hA hT HH
    have F := field_any b 3 w1 (by omega)
    simp only [show off 3 = 4 from rfl] at F
    go_wp2_with fail
    refine F.mono ?_
    rintro e w2 ⟨rfl, rfl⟩
    clear F
    go_wp2
    first | go_end0 | ((try simp only [Exit.inBlock, Exit.then]); refine bodyPost_ret (results_none rfl _ _ _) rfl ?_)
    exact ⟨rfl, HB.out.set 4 _, Bb.trans (Bl.bb KW.out) (Bb.set _ _ _)⟩
  · rw [show rdv 4 s = low (v * 4096) 32 by unfold rdv; rw [hv]; rfl, show setF i 4 (low (v * 4096) 32) = ⟨i.op, i.rd, i.r1, i.r2, low (v * 4096) 32, i.od, i.sz⟩ from rfl]
    clear hv
    go_enter Tryz.func45, Tryz.ntmps45
    go_wp2_with fail
    refine hT.mono ?_
    rintro e w0 ⟨rfl, rfl⟩
    go_wp2_with fail
    refine hA.mono ?_
    rintro e w1 ⟨ev, rfl, k1⟩
    have hb1 := HH.out.bl k1
    obtain ⟨b0, b1, b2, b3, b4, b5, b6⟩ := hb1.seven
    have z := hb1.free
    have HB := Lib.hid hb1
    have KW := Lib.hid k1
    clear hb1 k1 hA hT HH
    have F := field_any b 4 w1 (by omega)
    simp only [show off 4 = 4 from rfl] at F
    go_wp2_with fail
    refine (sext_in _ 32 _ (by omega) (by omega)).mono ?_
    rintro e w2 ⟨rfl, rfl⟩
    rw [HX.out]
    go_wp2_with fail
    refine F.mono ?_
    rintro e w2 ⟨rfl, rfl⟩
    clear F
    go_wp2
    first | go_end0 | ((try simp only [Exit.inBlock, Exit.then]); refine bodyPost_ret (results_none rfl _ _ _) rfl ?_)
    exact ⟨rfl, by rw [HW.out]; exact HB.out.set 4 _, Bb.trans (Bl.bb KW.out) (Bb.set _ _ _)⟩

end Go.Proofs.YtionnhjldcpmjaaGreatDoor
