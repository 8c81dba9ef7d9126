/-
  Two spaces side by side; the walk of CacheSpaces.
-/
import Derived.Test.YtbngjbmfkekdnaaGreatDoorPCaI
import Derived.Test.YtbngjbmfkekdnaaGreatDoorPActZ
set_option linter.unusedVariables false
set_option linter.unusedSimpArgs false
namespace Go.Proofs.YtbngjbmfkekdnaaGreatDoor
open Go.RowKit
set_option maxRecDepth 100000
/-- A space stays where its blocks that are there stay. -/
theorem MS.kept' {T U : Nat → Prop} {w w' : World} {sb n : Nat} {L : List Rg} {M st : Nat → Int} {mo ba en : Int} (h : MS T w sb n L M st mo ba en) (hf : Fr U w w') (hd : ∀ b, b < w.heap.size → T b → ¬ U b) : MS T w' sb n L M st mo ba en := by
  have g := h.among (U := fun b => T b ∧ b < w.heap.size) fun b hb hT => ⟨hT, hb⟩
  exact (g.kept hf (fun b e e2 => hd b e.2 e.1 e2)).among fun b hb e => e.1
/-- Two spaces: their blocks are apart, those of K are neither's. -/
structure Duo (K : Nat → Prop) (w : World) (s n : Nat) (L : List Rg) (M st : Nat → Int) (mo : Int) (t n2 : Nat) (L2 : List Rg) (M2 st2 : Nat → Int) (mo2 : Int) : Prop where
  ex : ∃ T1 T2, MS T1 w s n L M st mo 0 0 ∧ MS T2 w t n2 L2 M2 st2 mo2 0 0 ∧ (∀ b, b < w.heap.size → T1 b → ¬ T2 b) ∧ (∀ b, K b → ¬ T1 b ∧ ¬ T2 b) ∧ ∀ b, w.heap.size ≤ b → T1 b ∧ T2 b
section
variable {K : Nat → Prop} {w w' : World} {s t n n2 : Nat} {L L2 : List Rg} {M st M2 st2 : Nat → Int} {mo mo2 : Int}
theorem Duo.swap (h : Duo K w s n L M st mo t n2 L2 M2 st2 mo2) : Duo K w t n2 L2 M2 st2 mo2 s n L M st mo := by
  obtain ⟨T1, T2, h1, h2, h3, h4, h5⟩ := h.ex
  exact ⟨T2, T1, h2, h1, fun b hb e2 e1 => h3 b hb e1 e2, fun b hb => ⟨(h4 b hb).2, (h4 b hb).1⟩, fun b hb => ⟨(h5 b hb).2, (h5 b hb).1⟩⟩
/-- New memory is kept from now on. -/
theorem Duo.bl (h : Duo K w s n L M st mo t n2 L2 M2 st2 mo2) (k : Bl w w') : Duo (fun b => K b ∨ (w.heap.size ≤ b ∧ b < w'.heap.size)) w' s n L M st mo t n2 L2 M2 st2 mo2 := by
  obtain ⟨T1, T2, h1, h2, h3, h4, h5⟩ := h.ex
  have hs := k.size
  refine ⟨fun b => T1 b ∧ (b < w.heap.size ∨ w'.heap.size ≤ b), fun b => T2 b ∧ (b < w.heap.size ∨ w'.heap.size ≤ b), (h1.among fun b hb hT => ⟨hT, .inl hb⟩).bl k, (h2.among fun b hb hT => ⟨hT, .inl hb⟩).bl k, fun b hb e1 e2 => ?_, fun b hb => ?_, fun b hb => ?_⟩
  · rcases e1.2 with h7 | h7
    · exact h3 b h7 e1.1 e2.1
    · omega
  · rcases hb with hb | hb
    · exact ⟨fun e => (h4 b hb).1 e.1, fun e => (h4 b hb).2 e.1⟩
    · exact ⟨fun e => by rcases e.2 with h7 | h7 <;> omega, fun e => by rcases e.2 with h7 | h7 <;> omega⟩
  · exact ⟨⟨(h5 b (by omega)).1, .inr hb⟩, ⟨(h5 b (by omega)).2, .inr hb⟩⟩
/-- What a call of the first leaves of both. -/
theorem Duo.call1 (h : Duo K w s n L M st mo t n2 L2 M2 st2 mo2) : ∃ T1, MS T1 w s n L M st mo 0 0 ∧ (∀ b, w.heap.size ≤ b → T1 b) ∧ (∀ b, K b → ¬ T1 b) ∧ ∀ w' n' L' M' st', MS T1 w' s n' L' M' st' mo 0 0 → Fr T1 w w' → Duo K w' s n' L' M' st' mo t n2 L2 M2 st2 mo2 ∧ Fr (fun b => ¬ K b) w w' := by
  obtain ⟨T1, T2, h1, h2, h3, h4, h5⟩ := h.ex
  refine ⟨T1, h1, fun b hb => (h5 b hb).1, fun b hb => (h4 b hb).1, fun w' n' L' M' st' hm hf => ⟨?_, hf.mono fun b _ hT e => (h4 b e).1 hT⟩⟩
  have hs := hf.size
  refine ⟨T1, fun b => T2 b ∧ (b < w.heap.size ∨ w'.heap.size ≤ b), hm, (h2.among fun b hb hT => ⟨hT, .inl hb⟩).kept' hf (fun b hb e e2 => h3 b hb e2 e.1), fun b hb e1 e2 => ?_, fun b hb => ⟨(h4 b hb).1, fun e => (h4 b hb).2 e.1⟩, fun b hb => ⟨(h5 b (by omega)).1, ⟨(h5 b (by omega)).2, .inr hb⟩⟩⟩
  rcases e2.2 with h7 | h7
  · exact h3 b h7 e1 e2.1
  · omega
end
/-- Two spaces and no other. -/
def twoR (s : Nat) (L : List Rg) (M st : Nat → Int) (t : Nat) (L2 : List Rg) (M2 st2 : Nat → Int) : Sps := fun b L' M' st' => (b = s ∧ L' = L ∧ M' = M ∧ st' = st) ∨ (b = t ∧ L' = L2 ∧ M' = M2 ∧ st' = st2)
theorem twoR_first {s t : Nat} (hne : s ≠ t) (L : List Rg) (M st : Nat → Int) (L2 : List Rg) (M2 st2 : Nat → Int) : Sole (twoR s L M st t L2 M2 st2) s L M st :=
  ⟨.inl ⟨rfl, rfl, rfl, rfl⟩, fun _ _ _ h => by rcases h with h | h; exact h.2; exact absurd h.1 hne⟩
theorem twoR_second {s t : Nat} (hne : s ≠ t) (L : List Rg) (M st : Nat → Int) (L2 : List Rg) (M2 st2 : Nat → Int) : Sole (twoR s L M st t L2 M2 st2) t L2 M2 st2 :=
  ⟨.inr ⟨rfl, rfl, rfl, rfl⟩, fun _ _ _ h => by rcases h with h | h; exact absurd h.1.symm hne; exact h.2⟩
theorem twoR_blocks {T1 T2 : Nat → Prop} {w : World} {s t n n2 : Nat} {L L2 : List Rg} {M st M2 st2 : Nat → Int} {mo ba en mo2 ba2 en2 : Int} (h : MS T1 w s n L M st mo ba en) (h2 : MS T2 w t n2 L2 M2 st2 mo2 ba2 en2) : Blocks (twoR s L M st t L2 M2 st2) w := fun b L' M' st' hr => by
  rcases hr with hr | hr
  · rw [hr.1]; exact h.block_
  · rw [hr.1]; exact h2.block_
/-- A page of all, as a law maps it. -/
theorem map7 {T : Nat → Prop} {w : World} {sb n : Nat} {M st : Nat → Int} {mo : Int} (h : MS T w sb n [] M st mo 0 0) (hmo : 1 ≤ mo) (hn : n < 80000000) (hT : ∀ b, w.heap.size ≤ b → T b) :
    Calls Tryz.prog 9 #[addr0 sb, .int .u64 4096, .int .u64 4096, .int .i64 7, .bool true] w fun e w' => e = .returned (.tuple #[.int .u64 4096, .int .i64 0]) ∧ (∃ M' st', MS T w' sb (n + 8192) [⟨4096, 8192, 7⟩] M' st' mo 0 0) ∧ Fr T w w' := by
  have cm := mmap_new h 4096 8192 4096 7 (by omega) (by omega) (by omega) (by omega) (by omega) ⟨by omega, by omega, by omega, by omega⟩ (by omega) hn hT
  refine cm.mono ?_
  rintro e w' ⟨rfl, st', h1, _, h2⟩
  exact ⟨rfl, ⟨_, _, h1⟩, h2⟩
theorem duo_new {w0 w w' : World} {K : Nat → Prop} (k : Bl w0 w) (f : Fr (fun b => ¬ K b) w w') (hK : ∀ b, b < w0.heap.size → K b) : Bl w0 w' := bl_new k f fun x hx => by
  rcases Nat.lt_or_ge x w0.heap.size with h | h
  · exact absurd (hK x h) hx
  · exact h
end Go.Proofs.YtbngjbmfkekdnaaGreatDoor
