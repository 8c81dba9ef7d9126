/-
  What the laws call beside the store: the first answer, places, the same bytes.
-/
import Derived.Test.YtdfjgfioocdogaaPageH
import Derived.Test.YtdfjgfioocdogaaPageK
set_option linter.unusedVariables false
set_option linter.unusedSimpArgs false
namespace Go.Proofs.Ytdfjgfioocdogaa
open Go.RowKit
set_option maxRecDepth 100000
/-- Blocks from a number on. -/
def from_ (lo : Nat) : Nat → Prop := fun b => lo ≤ b
theorem Rd.lit (w : World) (xs : List Int) : Rd (w.alloc (.cells (asBytes xs).toArray 5)) (some ⟨w.heap.size, 0, none⟩) xs := by
  intro _
  refine ⟨_, rfl, fun i hi => ?_⟩
  have e1 : (⟨w.heap.size, 0, none⟩ : Addr).add i = ⟨w.heap.size, i, none⟩ := by unfold Addr.add; split <;> simp_all
  rw [e1, cell_of_row _ _ _ _ _ _ (heap_alloc_new w _)]
  simp only [List.getElem?_toArray]
  exact asBytes_at xs i hi
theorem row_cell {w : World} {g : Nat} {xs : List Int} (h : w.heap[g]? = some (.cells (asBytes xs).toArray 5 (0, 0))) (i : Nat) (hi : i < xs.length) : w.cell? ⟨g, i, none⟩ = some (.int .u8 (xs.getD i 0)) := by
  rw [cell_of_row _ _ _ _ _ _ h]
  simp only [List.getElem?_toArray]
  exact asBytes_at xs i hi
theorem bytesAt_getD (M : Nat → Int) (addr m i : Nat) (h : i < m) : (bytesAt M addr m).getD i 0 = M (addr + i) := by
  rw [List.getD_eq_getElem?_getD, bytesAt_get _ _ _ _ h]; rfl
set_option maxHeartbeats 2000000 in
theorem answers_any (w : World) : Calls Try.prog 7 #[] w fun e w' => e = .returned (.bool true) ∧ Bl w w' := by
  go_enter Try.func7, Try.ntmps7
  go_wp2_with fail
  refine (new_any (from_ w.heap.size) w (Nat.le_refl _)).mono ?_
  rintro e w1 ⟨rfl, h1, bl1, hs1⟩
  have hS1 : ∀ b, w1.heap.size ≤ b → from_ w.heap.size b := fun b hb => Nat.le_trans bl1.size hb
  have H1 := Lib.hid h1; clear h1
  have HS1 := Lib.hid hs1; clear hs1
  have HSS := Lib.hid hS1; clear hS1
  have BL1 := Lib.hid bl1; clear bl1
  unfold addr0
  go_wp2_with fail
  have hst := H1.out.less (.cells #[.int .u8 7] 5)
  refine (write_any hst 5 (some ⟨w1.heap.size, 0, none⟩) 1 1 [7] (Rd.lit w1 [7]) rfl (Nat.le_refl _) (fun _ ad had hs => by cases had; exact hs.2 rfl) (by decide) (by decide) (by decide) (less_new HSS.out (Nat.le_refl _))).mono ?_
  rintro e w2 ⟨rfl, f2, k2, h2, fr2, held2⟩
  have hroom : room 5 1 = 1 := by decide
  rw [hroom] at h2 held2
  have h2' := h2.among (T := from_ w.heap.size) (fun _ _ e => e.1)
  have fr2' : Fr (from_ w.heap.size) w1 w2 := fr2.unless
  have hk2 : k2 = 1 := by rw [held2.count]; decide
  subst hk2
  clear h2 hst fr2 held2 hroom
  have H2 := Lib.hid h2'; clear h2'
  have FR2 := Lib.hid fr2'; clear fr2'
  go_wp2_with fail
  refine (read_any H2.out 4 3 (by decide) (by decide) (by decide)).mono ?_
  rintro e w3 ⟨rfl, hg3, bl3⟩
  have hc := row_cell hg3 1 (by rw [bytesAt_length]; decide)
  rw [bytesAt_getD _ _ _ _ (by decide), show 4 + 1 = 5 + 0 from rfl, lay_at _ _ _ _ (by decide)] at hc
  have hc' : w3.cell? ⟨w2.heap.size, 1, none⟩ = some (.int .u8 7) := hc
  clear hg3 hc
  have BL3 := Lib.hid bl3; clear bl3
  go_wp2_with fail
  refine (held_any (H2.out.bl BL3.out)).mono ?_
  rintro e w4 ⟨rfl, rfl⟩
  go_wp2_with fail
  go_ret
  exact ⟨rfl, (((Fr.of_bl BL1.out).trans FR2.out).trans (Fr.of_bl BL3.out)).bl (fun k hk hs => Nat.not_le_of_lt hk hs)⟩
theorem near_i (x : Int) (w : World) (h0 : 0 ≤ x) (h1 : x ≤ 18446744073709551615) : Calls Try.prog 13 #[.int .u64 x] w fun e w' => e = .returned (.int .u64 (if x % 5 = 4 then 274877906924 + x / 5 % 40 else x / 5 % 9000)) ∧ w = w' := by
  by_cases h : x % 5 = 4
  · rw [if_pos h]
    have hb : (x % 5 == 4) = true := by simp [h]
    have hq0 : 0 ≤ x / 5 % 40 := by omega
    have hq1 : x / 5 % 40 < 40 := by omega
    clear h
    go_enter Try.func13, Try.ntmps13
    go_wp2
    go_ret
    exact ⟨rfl, rfl⟩
  · rw [if_neg h]
    have hb : (x % 5 == 4) = false := by simp [h]
    clear h
    go_enter Try.func13, Try.ntmps13
    go_wp2
    go_ret
    exact ⟨rfl, rfl⟩
theorem near_any (x : Int) (w : World) (h0 : 0 ≤ x) (h1 : x ≤ 18446744073709551615) : Calls Try.prog 13 #[.int .u64 x] w fun e w' => ∃ y : Nat, e = .returned (.int .u64 (y : Int)) ∧ y < 274877906984 ∧ w = w' := by
  refine (near_i x w h0 h1).mono ?_
  rintro e w' ⟨rfl, rfl⟩
  refine ⟨(if x % 5 = 4 then 274877906924 + x / 5 % 40 else x / 5 % 9000).toNat, ?_, ?_, rfl⟩
  · congr 2; split <;> omega
  · split <;> omega
set_option maxHeartbeats 1000000 in
theorem same_any (A B : Option Addr) (len cap cap' : Nat) (xs : List Int) (w : World) (hr : Rd w A xs) (hr' : Rd w B xs) (hl : xs.length = len) (hm : len ≤ 5100) :
    Calls Try.prog 15 #[.slice A len cap, .slice B len cap'] w fun e w' => e = .returned (.bool true) ∧ Bl w w' := by
  have HR := Lib.hid hr; clear hr
  have HR' := Lib.hid hr'; clear hr'
  have HL := Lib.hid hl; clear hl
  go_enter Try.func15, Try.ntmps15
  go_wp2
  go_loopw [5] (fun i wr => ∃ k m : Nat, k ≤ len ∧ i = .int .i64 k ∧ wr = w.drewN m) (fun i _ => len - (intOf i).toNat)
  case atStart => exact ⟨0, 0, by omega, rfl, rfl⟩
  case round =>
    obtain ⟨k, m, hk, rfl, rfl⟩ := hrel
    by_cases hlt : k < len
    · obtain ⟨b, off, hA, hcell⟩ := HR.out.at_ k (by rw [HL.out]; omega)
      subst hA
      obtain ⟨b', off', hA, hcell'⟩ := HR'.out.at_ k (by rw [HL.out]; omega)
      subst hA
      generalize xs.getD k 0 = x at *
      have hin : (k : Int) < (len : Int) := by omega
      go_wp2
      go_quiet (fail)
      go_wp2
      go_roundw
      case rel => exact ⟨k + 1, m + nq, by omega, by go_num, rfl⟩
      case measure => simp [intOf]; omega
    · obtain rfl : k = len := by omega
      go_wp2
      go_ret
      exact ⟨rfl, (Bl.refl w).drewN _⟩
/-- What is told of a slice of numbers that came in. -/
def IsRow' (k : IntKind) (w : World) (a : Option Addr) (len cap : Nat) (zs : List Int) : Prop :=
  (a = none ∧ len = 0 ∧ cap = 0 ∧ zs = []) ∨
  ∃ x, a = some x ∧ len ≤ cap ∧ cap ≤ maxLen ∧ zs.length = cap ∧ (∀ i, i < zs.length → w.cell? (x.add i) = some (.int k (zs.getD i 0))) ∧ ∀ n ∈ zs, (Lit.int k n).wf = true
theorem isRow_rd {w : World} {a : Option Addr} {len cap : Nat} {z : List Int} (h : IsRow' .u8 w a len cap z) :
    Rd w a (z.take len) ∧ (z.take len).length = len ∧ (a = none → cap = 0) ∧ len ≤ cap ∧ ∀ ad, a = some ad → 0 < cap → ad.block < w.heap.size := by
  rcases h with ⟨rfl, rfl, rfl, rfl⟩ | ⟨x, rfl, hl, hm, hz, hcell, hwz⟩
  · exact ⟨Rd.nil_, rfl, fun _ => rfl, Nat.le_refl _, fun ad h => (by cases h)⟩
  · refine ⟨fun _ => ⟨x, rfl, fun i hi => ?_⟩, by rw [List.length_take]; omega, fun h => (by cases h), hl, fun ad had hc => ?_⟩
    · rw [List.length_take] at hi
      rw [hcell i (by omega), List.getD_eq_getElem?_getD, List.getD_eq_getElem?_getD, List.getElem?_take_of_lt (by omega)]
    · cases had
      have := block_lt_of_cell (hcell 0 (by omega))
      rwa [add_block] at this
end Go.Proofs.Ytdfjgfioocdogaa
