/-
  Pages of a space; what a program that does nothing does not answer.
-/
import Derived.Test.YtpalhkfipnbcnaaMemE
set_option linter.unusedVariables false
set_option linter.unusedSimpArgs false
namespace Go.Proofs.Ytpalhkfipnbcnaa
open Go.RowKit
set_option maxRecDepth 100000
def from_ (lo : Nat) : Nat → Prop := fun b => lo ≤ b
theorem Fr.from_bl {w w1 w2 : World} (k : Bl w w1) (f : Fr (from_ w.heap.size) w1 w2) : Bl w w2 := ⟨f.os.trans k.os, f.tape.trans k.tape, f.output.trans k.output, Nat.le_trans k.size f.size, fun b hb => (f.block b (Nat.lt_of_lt_of_le hb k.size) (fun e => by have : w.heap.size ≤ b := e; omega)).trans (k.block b hb)⟩
theorem kind_run (k x : Int) (w : World) : (Instr.field 41 (.agg #[.int .i64 k, .int .u64 x]) 0).run Try.prog w = .ok (.int .i64 k) w := by kernel_rfl
/-- A new space with one span mapped, at a fixed place. -/
theorem mmap_new {T : Nat → Prop} {w : World} {sb n : Nat} {M st : Nat → Int} {mo ba en : Int} (h : MS T w sb n [] M st mo ba en) (a b : Nat) (size p : Int) (h1 : 0 < size) (h2 : size ≤ 274877906944) (hp0 : 0 ≤ p) (hp1 : p ≤ 7) (hb : (b : Int) = a + (size + 4095) / 4096 * 4096) (hs : Span (a : Int) (b : Int)) (hm : (b : Int) - a ≤ mo * 4096) (hn : n < 80000000) (hT : ∀ b, w.heap.size ≤ b → T b) :
    Calls Try.prog 29 #[addr0 sb, .int .u64 (a : Int), .int .u64 size, .int .i64 p, .bool true] w fun e w' => e = .returned (.tuple #[.int .u64 (a : Int), .int .i64 0]) ∧ ClearPost T w sb n [⟨a, b, p⟩] M st mo ba en a b w' := by
  have hs4 := hs.2.2.2
  refine (mmap_fixed h a size p (by have := hs.2.2.1; omega) (by omega) ⟨hs.1, by omega, h2, hp0, hp1⟩ hn hT b (by rw [IntWalk.u64_in _ (by omega)]; exact hb)).mono ?_
  rintro e w' ⟨r, rfl, hl⟩
  rw [LayAny, layL_new] at hl
  rcases hl with ⟨rfl, _, _, _, _, _, hc⟩ | ⟨_, hx, _⟩ | ⟨_, _, hx, _⟩
  · exact ⟨by rw [if_pos rfl], hc⟩
  · exact absurd ⟨hs, hp0, hp1⟩ hx
  · rcases hx with hx | hx
    · simp at hx
    · simp only [tot] at hx; omega
end Go.Proofs.Ytpalhkfipnbcnaa
