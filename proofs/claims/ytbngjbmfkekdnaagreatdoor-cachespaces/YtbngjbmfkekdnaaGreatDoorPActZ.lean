/-
  Acts that came in: where their cells stand, and what their bytes read as.
-/
import Derived.Test.YtbngjbmfkekdnaaGreatDoorQ5
import Derived.Test.YtbngjbmfkekdnaaGreatDoorPInts
import Derived.Deep.Slices
import Derived.ChangeSame
set_option linter.unusedVariables false
set_option linter.unusedSimpArgs false
namespace Go.Proofs.YtbngjbmfkekdnaaGreatDoor
open Go.RowKit Go.ChangeShapes Go.WideShapes Go.Deep
set_option maxRecDepth 100000
/-- Bytes that came in: a slice of them. -/
structure BytesIn (w : World) (A : Option Addr) (l c : Nat) (xs : List Int) : Prop where
  rd : Rd w A xs
  len : xs.length = l
  cap : l ≤ c
  nil : A = none → c = 0
  bd : ∀ k, 0 ≤ xs.getD k 0 ∧ xs.getD k 0 ≤ 255
  lt : 0 < l → ∀ ad, A = some ad → ad.block < w.heap.size
  le : l ≤ 9223372036854775807
/-- An act's cells. -/
def ActAt (w : World) (b o : Nat) : Prop := ∃ (d m p ad sz : Int) (fx : Bool) (A : Option Addr) (l c : Nat) (xs : List Int),
  w.cell? ⟨b, o, none⟩ = some (.int .i64 d) ∧ w.cell? ⟨b, o + 1, none⟩ = some (.int .i64 m) ∧ w.cell? ⟨b, o + 2, none⟩ = some (.int .i64 p) ∧ w.cell? ⟨b, o + 3, none⟩ = some (.int .u64 ad) ∧ w.cell? ⟨b, o + 4, none⟩ = some (.int .u64 sz) ∧ w.cell? ⟨b, o + 5, none⟩ = some (.bool fx) ∧ w.cell? ⟨b, o + 6, none⟩ = some (.slice A l c) ∧
  (0 ≤ ad ∧ ad ≤ 18446744073709551615) ∧ (0 ≤ sz ∧ sz ≤ 18446744073709551615) ∧ BytesIn w A l c xs
def ActsZ (w : World) (a : Option Addr) (len : Nat) : Prop := 0 < len → ∃ b off, a = some ⟨b, off, none⟩ ∧ ∀ k, k < len → ActAt w b (off + k * 7)
theorem BytesIn.bl {w w' : World} {A : Option Addr} {l c : Nat} {xs : List Int} (h : BytesIn w A l c xs) (k : Bl w w') : BytesIn w' A l c xs :=
  ⟨h.rd.below k, h.len, h.cap, h.nil, h.bd, fun h0 ad e => Nat.lt_of_lt_of_le (h.lt h0 ad e) k.size, h.le⟩
theorem open_bytesIn {H : Type} {enc : TypeId × Value → H} {w : World} {base : Nat} {spare : Nat → Bool} {held : Bool} {fuel : Nat} {v : Value} {x : DataW H × List MemPlace} (h : DataW.trod enc Tryz.prog w base spare held fuel 22 [v] = some x) :
    ∃ A l c xs, v = .slice A l c ∧ BytesIn w A l c xs := by
  rcases open_slice Tryz.underlying22 h with ⟨h1, _⟩ | ⟨ad, l, c, m, n, D, Pl, h1, h2, h3, h4, h5, h6, h7⟩
  · injection h1 with h1
    subst h1
    exact ⟨none, 0, 0, [], rfl, Rd.nil_, rfl, Nat.le_refl _, fun _ => rfl, fun k => by simp, fun h => absurd h (by omega), by omega⟩
  · injection h1 with h1
    subst h1
    have hc5 : Tryz.prog.cellsOf 5 = 1 := by kernel_rfl
    have hm : l ≤ m := by rw [h5]; split <;> omega
    have key : ∀ k, k < l → ∃ y : Int, w.cell? (ad.add k) = some (.int .u8 y) ∧ 0 ≤ y ∧ y ≤ 255 := fun k hk => by
      obtain ⟨cs, hcs, hts⟩ := h7 k (by omega)
      rw [hc5, Nat.mul_one] at hcs
      obtain ⟨hlen, _, hat⟩ := World.cells?_some hcs
      match cs, hlen with
      | [u], _ =>
        obtain ⟨y, e0, hw⟩ := DataW.trod_int Tryz.underlying5 hts
        cases e0
        have h8 := hat 0 (by omega)
        refine ⟨y, by simpa [show (ad.add k).add 0 = ad.add k from rfl] using h8, ?_⟩
        exact u8_in (hw.2)
    have hch : ∃ f : Nat → Int, ∀ k, k < l → w.cell? (ad.add k) = some (.int .u8 (f k)) ∧ 0 ≤ f k ∧ f k ≤ 255 := by
      refine ⟨fun k => if hk : k < l then Classical.choose (key k hk) else 0, fun k hk => ?_⟩
      simp only [dif_pos hk]
      exact Classical.choose_spec (key k hk)
    obtain ⟨f, hf⟩ := hch
    refine ⟨some ad, l, c, (List.range l).map f, rfl, fun _ => ⟨ad, rfl, fun i hi => ?_⟩, by simp, h3, (fun e => by cases e), fun k => ?_, fun h0 ad' e => ?_, by simp only [maxLen] at h4; omega⟩
    · have hi2 : i < l := by simpa using hi
      rw [(hf i hi2).1]
      simp [List.getD, hi2]
    · by_cases hk : k < l
      · have := hf k hk
        simp [List.getD, hk, this.2]
      · simp [List.getD, hk]
    · cases e
      have h1 := block_lt_of_cell (hf 0 h0).1
      rwa [add_block] at h1
end Go.Proofs.YtbngjbmfkekdnaaGreatDoor
