/-
  The greatest room below a place: plain mathematics.
-/
import Derived.Test.YtpalhkfipnbcnaaRegI
set_option linter.unusedVariables false
set_option linter.unusedSimpArgs false
namespace Go.Proofs.Ytpalhkfipnbcnaa
/-- No room begins so that it ends behind en. -/
def NoRoom (L : List Rg) (sz bel en : Int) : Prop := ∀ y, y % 4096 = 0 → en < y + sz → y + sz ≤ bel → ¬ FreeIn L y (y + sz)
def RoomIs (L : List Rg) (sz bel x : Int) (ok : Bool) : Prop :=
  (ok = true ∧ x % 4096 = 0 ∧ 4096 ≤ x ∧ x + sz ≤ bel ∧ FreeIn L x (x + sz) ∧ NoRoom L sz bel (x + sz)) ∨ (ok = false ∧ x = 0 ∧ ∀ y, y % 4096 = 0 → 4096 ≤ y → y + sz ≤ bel → ¬ FreeIn L y (y + sz))
theorem room_unique {L : List Rg} {sz bel x x' : Int} {ok ok' : Bool} (h : RoomIs L sz bel x ok) (k : RoomIs L sz bel x' ok') : x = x' ∧ ok = ok' := by
  rcases h with ⟨rfl, a1, a2, a3, a4, a5⟩ | ⟨rfl, rfl, a1⟩ <;> rcases k with ⟨rfl, b1, b2, b3, b4, b5⟩ | ⟨rfl, rfl, b1⟩
  · refine ⟨?_, rfl⟩
    rcases Int.lt_trichotomy x x' with h | h | h
    · exact absurd b4 (a5 x' b1 (by omega) b3)
    · exact h
    · exact absurd a4 (b5 x a1 (by omega) a3)
  · exact absurd a4 (b1 x a1 a2 a3)
  · exact absurd b4 (a1 x' b1 b2 b3)
  · exact ⟨rfl, rfl⟩
theorem NoRoom.start (L : List Rg) (sz bel : Int) : NoRoom L sz bel bel := fun y _ h1 h2 => by omega
theorem room_yes {L : List Rg} {sz bel en : Int} (h : NoRoom L sz bel en) (he : en % 4096 = 0) (hs : sz % 4096 = 0) (hb : en ≤ bel) (h1 : 4096 + sz ≤ en) (hf : FreeIn L (en - sz) en) : RoomIs L sz bel (en - sz) true :=
  .inl ⟨rfl, by omega, by omega, by omega, by rw [show en - sz + sz = en by omega]; exact hf, by rw [show en - sz + sz = en by omega]; exact h⟩
theorem room_no {L : List Rg} {sz bel en : Int} (h : NoRoom L sz bel en) (h1 : en < 4096 + sz) : RoomIs L sz bel 0 false :=
  .inr ⟨rfl, rfl, fun y y1 y2 y3 => h y y1 (by omega) y3⟩
/-- A region that is in the way. -/
theorem NoRoom.down {L : List Rg} {sz bel en : Int} (h : NoRoom L sz bel en) (hsz : 0 < sz) {r : Rg} (hr : r ∈ L) (h1 : r.s < r.e) (h2 : en - sz < r.e) : NoRoom L sz bel r.s := fun y y1 y2 y3 => by
  by_cases hy : en < y + sz
  · exact h y y1 hy y3
  · intro hf
    exact hf (max y r.s) r.p (by omega) (by omega) ⟨r, hr, by omega, by omega, rfl⟩
theorem free_first {lo hi en sz : Int} {L : List Rg} (h : So lo hi L) (hall : ∀ r, r ∈ L → en ≤ r.s) : FreeIn L (en - sz) en := by
  rintro x p h1 h2 ⟨r, hr, a1, a2, a3⟩
  have := hall r hr
  omega
theorem free_room {lo hi en sz : Int} {L : List Rg} {k : Nat} (h : So lo hi L) (h1 : 0 < k → ∀ r, L[k - 1]? = some r → r.s < en) (h2 : ∀ r, L[k]? = some r → en ≤ r.s) (hk : k ≤ L.length) (he : 0 < k → ∀ r, L[k - 1]? = some r → r.e ≤ en - sz) : FreeIn L (en - sz) en := by
  rintro x p x1 x2 ⟨r, hr, a1, a2, a3⟩
  rcases seek_start h h1 h2 hk hr with b | ⟨b0, b1⟩ | ⟨b0, q, b1, b2, b3⟩
  · omega
  · have := he b0 r b1; omega
  · have h5 := he b0 q b1
    have h6 := h.2 q (List.mem_of_getElem? b1)
    omega
end Go.Proofs.Ytpalhkfipnbcnaa
