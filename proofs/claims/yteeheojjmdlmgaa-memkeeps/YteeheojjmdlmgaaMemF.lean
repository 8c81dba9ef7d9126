/-
  Pages of a space; what a program that does nothing does not answer.
-/
import Derived.Test.YteeheojjmdlmgaaMemE
set_option linter.unusedVariables false
set_option linter.unusedSimpArgs false
namespace Go.Proofs.Yteeheojjmdlmgaa
open Go.RowKit
set_option maxRecDepth 100000
set_option maxHeartbeats 1000000 in
theorem mpages_any {T : Nat → Prop} {w : World} {sb n : Nat} {L : List Rg} {M st : Nat → Int} {mo ba en : Int} (h : MS T w sb n L M st mo ba en) : Calls Try.prog 20 #[addr0 sb] w (IntPost w (tot L / 4096)) := by
  obtain ⟨X, hX⟩ := h.list
  have cp := pages_any hX h.so (by have := h.few; omega)
  have CP := Lib.hid cp; clear cp hX h
  unfold addr0 at *
  go_enter Try.func20, Try.ntmps20
  go_wp2_with fail
  refine CP.out.mono ?_
  rintro e w' ⟨rfl, k⟩
  have K := Lib.hid k; clear k
  go_wp2_with fail
  go_ret
  exact ⟨rfl, K.out⟩
def from_ (lo : Nat) : Nat → Prop := fun b => lo ≤ b
theorem Fr.from_bl {w w1 w2 : World} (k : Bl w w1) (f : Fr (from_ w.heap.size) w1 w2) : Bl w w2 := ⟨f.os.trans k.os, f.tape.trans k.tape, f.output.trans k.output, Nat.le_trans k.size f.size, fun b hb => (f.block b (Nat.lt_of_lt_of_le hb k.size) (fun e => by have : w.heap.size ≤ b := e; omega)).trans (k.block b hb)⟩
theorem kind_run (k x : Int) (w : World) : (Instr.field 36 (.agg #[.int .i64 k, .int .u64 x]) 0).run Try.prog w = .ok (.int .i64 k) w := by kernel_rfl
/-- A new space with one span mapped, at a fixed place. -/
theorem mmap_new {T : Nat → Prop} {w : World} {sb n : Nat} {M st : Nat → Int} {mo ba en : Int} (h : MS T w sb n [] M st mo ba en) (a b : Nat) (size p : Int) (h1 : 0 < size) (h2 : size ≤ 274877906944) (hp0 : 0 ≤ p) (hp1 : p ≤ 7) (hb : (b : Int) = a + (size + 4095) / 4096 * 4096) (hs : Span (a : Int) (b : Int)) (hm : (b : Int) - a ≤ mo * 4096) (hn : n < 80000000) (hT : ∀ b, w.heap.size ≤ b → T b) :
    Calls Try.prog 9 #[addr0 sb, .int .u64 (a : Int), .int .u64 size, .int .i64 p, .bool true] w fun e w' => e = .returned (.tuple #[.int .u64 (a : Int), .int .i64 0]) ∧ ClearPost T w sb n [⟨a, b, p⟩] M st mo ba en a b w' := by
  have hs4 := hs.2.2.2
  refine (mmap_fixed h a size p (by have := hs.2.2.1; omega) (by omega) ⟨hs.1, by omega, h2, hp0, hp1⟩ hn hT b (by rw [IntWalk.u64_in _ (by omega)]; exact hb)).mono ?_
  rintro e w' ⟨r, rfl, hl⟩
  rw [LayAny, layL_new] at hl
  rcases hl with ⟨rfl, _, _, _, _, _, hc⟩ | ⟨_, hx, _⟩ | ⟨_, _, hx, _⟩
  · exact ⟨by rw [if_pos rfl], hc⟩
  · exact absurd ⟨hs, hp0, hp1⟩ hx
  · rcases hx with hx | hx
    · simp at hx
    · simp only [tot] at hx; omega
set_option maxHeartbeats 2000000 in
theorem manswers_any (w : World) : Calls Try.prog 8 #[] w (BoolPost w true) := by
  have hT : ∀ b, w.heap.size ≤ b → from_ w.heap.size b := fun b hb => hb
  have cn := mnew_any (from_ w.heap.size) 5 w (Nat.le_refl _) (by omega) (by omega)
  have CN := Lib.hid cn; clear cn
  have HT := Lib.hid hT; clear hT
  go_enter Try.func8, Try.ntmps8
  go_wp2_with fail
  refine CN.out.mono ?_
  rintro e w1 ⟨rfl, h1, k1, hs1⟩
  have cm := mmap_new h1 4096 8192 1 3 (by omega) (by omega) (by omega) (by omega) (by omega) ⟨by omega, by omega, by omega, by omega⟩ (by omega) (by omega) (fun b hb => HT.out b (by omega))
  have CM := Lib.hid cm; clear cm
  have K1 := Lib.hid k1; clear k1 h1 CN
  unfold addr0 at *
  go_wp2_with fail
  refine CM.out.mono ?_
  rintro e w2 ⟨rfl, st2, h2, r2, f2⟩
  have H2 := Lib.hid h2; clear h2 CM
  have K2 := Lib.hid (Fr.from_bl K1.out f2); clear f2 r2
  have cs := mstore_any H2.out 4096 8 77 (by omega) (by omega) (by omega) (fun b hb => HT.out b (Nat.le_trans K2.out.size hb))
  have CS := Lib.hid cs; clear cs
  unfold addr0 at *
  go_wp2_with fail
  refine CS.out.mono ?_
  rintro e w3 ⟨k, y, rfl, hh⟩
  rcases hh with ⟨_, hy1, hy2, hno, _⟩ | ⟨rfl, rfl, _, st3, h3, _, f3⟩
  · exact absurd ⟨3, ⟨⟨4096, 8192, 3⟩, by simp, by simp at hy1; simp; omega, by simp at hy2; simp; omega, rfl⟩, by decide⟩ hno
  · have K3 := Lib.hid (Fr.from_bl K2.out f3); clear f3
    have cp := mpages_any h3
    have CP := Lib.hid cp; clear cp h3 CS
    unfold faultV
    unfold addr0 at *
    have hfk := fun W => kind_run 0 0 W
    go_wp2_with fail
    refine CP.out.mono ?_
    rintro e w4 ⟨rfl, k4⟩
    have K4 := Lib.hid (K3.out.trans k4); clear k4
    have ht : tot [⟨((4096 : Nat) : Int), ((8192 : Nat) : Int), 3⟩] / 4096 = 1 := by decide
    rw [ht]
    go_wp2_with fail
    go_ret
    exact ⟨rfl, K4.out⟩
end Go.Proofs.Yteeheojjmdlmgaa
