/-
  Parts of instructions as text.
-/
import Derived.Test.YtionnhjldcpmjaaGreatDoorAsmB
import Derived.Test.YtionnhjldcpmjaaGreatDoorEncodeD
import Derived.Test.YtionnhjldcpmjaaGreatDoorShelf
import Derived.Lib.ItoaLen
set_option linter.unusedVariables false
set_option linter.unusedSimpArgs false
namespace Go.Proofs.YtionnhjldcpmjaaGreatDoor
open Go.RowKit

/-- The number of a part of an instruction. -/
def fld (i : Ins) (p : Int) : Int := if p = 0 then i.rd else if p = 1 then i.r1 else if p = 2 then i.r2 else i.im
/-- Bits 12 to 31. -/
def up (n : Int) : Int := n / 4096 % 1048576
/-- A part as text. -/
def told (i : Ins) (p : Int) : List UInt8 := if p = 4 then Lib.itoa (up i.im) else if p = 3 then Lib.itoa i.im else 120 :: Lib.itoa (fld i p)
/-- All its numbers are ints. -/
structure In64 (i : Ins) : Prop where
  rd : -9223372036854775808 ≤ i.rd ∧ i.rd ≤ 9223372036854775807
  r1 : -9223372036854775808 ≤ i.r1 ∧ i.r1 ≤ 9223372036854775807
  r2 : -9223372036854775808 ≤ i.r2 ∧ i.r2 ≤ 9223372036854775807
  im : -9223372036854775808 ≤ i.im ∧ i.im ≤ 9223372036854775807
theorem and_mask (x : Int) : bits .and .i64 x 1048575 = x % 1048576 := by
  have h1 : (BitVec.ofInt 64 x).toNat = (x % 18446744073709551616).toNat := by rw [BitVec.toNat_ofInt]; rfl
  have h2 : (BitVec.ofInt 64 1048575).toNat = 2 ^ 20 - 1 := by decide
  show IntKind.i64.wrap ((BitVec.ofInt 64 x &&& BitVec.ofInt 64 1048575).toNat : Int) = _
  rw [BitVec.toNat_and, h1, h2, Nat.and_two_pow_sub_one_eq_mod]
  have e : ((((x % 18446744073709551616).toNat % 2 ^ 20 : Nat)) : Int) = x % 1048576 := by
    simp only [Nat.reducePow]
    omega
  rw [e, IntKind.wrap_i64]
  omega
/-- Texts, one behind the other. -/
theorem add_run (x y : List UInt8) (h : x.length ≤ 8388608 ∧ y.length ≤ 8388608) (w : World) : (Op.stringOp .add ⟨x.toArray⟩ ⟨y.toArray⟩).run Tryz.prog w = .ok (str (x ++ y)) w :=
  run_string_add_lists w x y (by omega) (by omega)
theorem itoa_len (n : Int) (h : -9223372036854775808 ≤ n ∧ n ≤ 9223372036854775807) : (Lib.itoa n).length ≤ 21 := Lib.itoa_length_le n h.1 h.2
theorem append_str (l m : List UInt8) : ((⟨l.toArray⟩ : ByteArray) ++ (⟨m.toArray⟩ : ByteArray)) = ⟨(l ++ m).toArray⟩ := by
  apply ByteArray.ext
  simp
theorem Bl.grow {a w : World} (h : Bl a w) (k : Nat) (os : Array Obj) : Bl a (Sort.grow (w.drewN k) os) :=
  ⟨h.os, h.tape, h.output, by have := h.size; simp [Sort.grow]; omega, fun i hi => by
    have hs := h.size
    show (w.heap ++ os)[i]? = _
    rw [Array.getElem?_append_left (by omega)]
    exact h.block i hi⟩
theorem itoa_any (n : Int) (a : Addr) (w : World) (hE : Env a w) (h : -9223372036854775808 ≤ n ∧ n ≤ 9223372036854775807) :
    Calls Tryz.prog 39 #[.int .i64 n] w fun e w' => e = .returned (str (Lib.itoa n)) ∧ Bl w w' := by
  refine (Tryz.strconv_Itoa n h.1 h.2 w hE.pow.here).mono ?_
  rintro e w' ⟨rfl, k, os, rfl⟩
  exact ⟨rfl, (Bl.refl w).grow k os⟩
set_option maxHeartbeats 1000000 in
theorem tell_any (i : Ins) (p : Int) (a : Addr) (w : World) (hE : Env a w) (hi : In64 i) (hp : 0 ≤ p ∧ p ≤ 4) :
    Calls Tryz.prog 24 #[.agg i.cells, .int .i64 p] w fun e w' => e = .returned (str (told i p)) ∧ Bl w w' := by
  have h : p = 0 ∨ p = 1 ∨ p = 2 ∨ p = 3 ∨ p = 4 := by omega
  clear hp
  have h0 := (Bl.refl w).alloc i.cells 28
  have F0 := field_any w.heap.size 0 (w.alloc (.cells i.cells 28)) (by omega)
  have F1 := field_any w.heap.size 1 (w.alloc (.cells i.cells 28)) (by omega)
  have F2 := field_any w.heap.size 2 (w.alloc (.cells i.cells 28)) (by omega)
  have F3 := field_any w.heap.size 3 (w.alloc (.cells i.cells 28)) (by omega)
  have F4 := field_any w.heap.size 4 (w.alloc (.cells i.cells 28)) (by omega)
  simp only [show off 0 = 1 from rfl, show off 1 = 2 from rfl, show off 2 = 3 from rfl, show off 3 = 4 from rfl, show off 4 = 4 from rfl] at F0 F1 F2 F3 F4
  have hI := Lib.hid fun n h => itoa_any n a (w.alloc (.cells i.cells 28)) (hE.bl h0) h
  obtain ⟨b0, b1, b2, b3, b4, b5, b6⟩ := (Has.new w i.cells 28).seven
  have H0 := Lib.hid h0
  have HI := Lib.hid hi
  clear h0 hi hE
  rcases h with rfl | rfl | rfl | rfl | rfl
  · go_enter Tryz.func24, Tryz.ntmps24
    go_wp2_with fail
    refine F0.mono ?_
    rintro e w1 ⟨rfl, rfl⟩
    clear F0 F1 F2 F3 F4
    go_wp2_with fail
    refine (hI.out _ HI.out.rd).mono ?_
    rintro e w2 ⟨rfl, k2⟩
    have ha := add_run [120] (Lib.itoa i.rd) ⟨by decide, by have := itoa_len _ HI.out.rd; omega⟩
    have K2 := Lib.hid k2
    clear k2
    go_wp2
    go_ret
    exact ⟨rfl, H0.out.trans K2.out⟩
  · go_enter Tryz.func24, Tryz.ntmps24
    go_wp2_with fail
    refine F1.mono ?_
    rintro e w1 ⟨rfl, rfl⟩
    clear F0 F1 F2 F3 F4
    go_wp2_with fail
    refine (hI.out _ HI.out.r1).mono ?_
    rintro e w2 ⟨rfl, k2⟩
    have ha := add_run [120] (Lib.itoa i.r1) ⟨by decide, by have := itoa_len _ HI.out.r1; omega⟩
    have K2 := Lib.hid k2
    clear k2
    go_wp2
    go_ret
    exact ⟨rfl, H0.out.trans K2.out⟩
  · go_enter Tryz.func24, Tryz.ntmps24
    go_wp2_with fail
    refine F2.mono ?_
    rintro e w1 ⟨rfl, rfl⟩
    clear F0 F1 F2 F3 F4
    go_wp2_with fail
    refine (hI.out _ HI.out.r2).mono ?_
    rintro e w2 ⟨rfl, k2⟩
    have ha := add_run [120] (Lib.itoa i.r2) ⟨by decide, by have := itoa_len _ HI.out.r2; omega⟩
    have K2 := Lib.hid k2
    clear k2
    go_wp2
    go_ret
    exact ⟨rfl, H0.out.trans K2.out⟩
  · go_enter Tryz.func24, Tryz.ntmps24
    go_wp2_with fail
    refine F3.mono ?_
    rintro e w1 ⟨rfl, rfl⟩
    clear F0 F1 F2 F3 F4
    go_wp2_with fail
    refine (hI.out _ HI.out.im).mono ?_
    rintro e w2 ⟨rfl, k2⟩
    have K2 := Lib.hid k2
    clear k2
    go_wp2
    go_ret
    exact ⟨rfl, H0.out.trans K2.out⟩
  · have hu : -9223372036854775808 ≤ up i.im ∧ up i.im ≤ 9223372036854775807 := by unfold up; omega
    have he : bits .and .i64 (i.im / 4096) 1048575 = up i.im := by
      rw [and_mask]; rfl
    go_enter Tryz.func24, Tryz.ntmps24
    go_wp2_with fail
    refine F4.mono ?_
    rintro e w1 ⟨rfl, rfl⟩
    clear F0 F1 F2 F3 F4
    go_wp2_with fail
    refine (hI.out _ hu).mono ?_
    rintro e w2 ⟨rfl, k2⟩
    have K2 := Lib.hid k2
    clear k2
    go_wp2
    go_ret
    exact ⟨rfl, H0.out.trans K2.out⟩

end Go.Proofs.YtionnhjldcpmjaaGreatDoor
