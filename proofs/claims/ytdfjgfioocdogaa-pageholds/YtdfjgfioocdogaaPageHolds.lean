/-
  For every list of places and every number: no more pages are held than were written, and all are given back when all is cleared; as many noughts are read then as were asked for: the law PageHolds returns true. No condition.
-/
import Derived.Test.YtdfjgfioocdogaaRows
import Derived.Test.YtdfjgfioocdogaaPageL
import Derived.WalkKit
import Derived.ProofKit
import Derived.OpenShut
import Derived.ShutString
import Derived.ChangeOld
import Derived.Below
namespace Go.Proofs.Ytdfjgfioocdogaa.pageHolds
open Go.ChangeShapes Go.WideShapes Go.ChangeAt Go.RowKit
open Go.ChangeMaps (open_string shut_string)
set_option linter.unusedVariables false

theorem own : ownKnob Try.prog.godebug = none := by kernel_rfl
theorem laidOut : laidOutB Try.prog = true := by kernel_rfl

/-- WHAT THE WALK IS TOLD OF A SLICE OF INTEGERS THAT CAME IN: it is nil; or it leads to a row of 'cap' cells, the numbers 'zs' (the first 'len' are its elements, the rest its spare room), each fitting its kind. -/
def IsRow (k : IntKind) (w : World) (a : Option Addr) (len cap : Nat) (zs : List Int) : Prop :=
  (a = none ∧ len = 0 ∧ cap = 0 ∧ zs = []) ∨
  ∃ x, a = some x ∧ len ≤ cap ∧ cap ≤ maxLen ∧ zs.length = cap ∧ (∀ i, i < zs.length → w.cell? (x.add i) = some (.int k (zs.getD i 0))) ∧ ∀ n ∈ zs, (Lit.int k n).wf = true

theorem lessBl {S : Nat → Prop} {w w' : World} {sb n k : Nat} {f : Nat → Option Nat} {M : Nat → Int} (h : StoreAt S w sb n f k M) (bl : Bl w w') : StoreAt (less S w.heap.size) w' sb n f k M :=
  (h.among (T := less S w.heap.size) (fun b hb hS => ⟨hS, by omega⟩)).bl bl
theorem cnt_le (f : Nat → Option Nat) (a m : Nat) : cnt f a m ≤ m := by
  induction m with
  | zero => exact Nat.le_refl _
  | succ m ih => simp only [cnt]; split <;> omega
theorem topped_le (b : Int) : topped b ≤ 274877906944 := by unfold topped; split <;> omega
theorem held_zero {f f' : Nat → Option Nat} {k k' a : Nat} (h : Held f f' k k' a 0) : k' = k ∧ ∀ p, (f' p).isSome = (f p).isSome :=
  ⟨h.count, fun p => by rw [h.some_ p, decide_eq_false (by omega)]; simp⟩
theorem cell_add (g i : Nat) : (⟨g, 0, none⟩ : Addr).add i = ⟨g, i, none⟩ := by unfold Addr.add; split <;> simp_all
theorem last3 (xs : List Int) (len i : Nat) (hl : xs.length = len) (h : i < len) : lay (fun _ => 0) 274877906941 (xs.take (room 274877906941 len)) (274877906941 + i) = if i < 3 then xs.getD i 0 else 0 := by
  have hr : room 274877906941 len = min len 3 := rfl
  rw [hr]
  by_cases h3 : i < 3
  · rw [if_pos h3, lay_at _ _ _ _ (by rw [List.length_take]; omega), List.getD_eq_getElem?_getD, List.getD_eq_getElem?_getD, List.getElem?_take_of_lt (by omega)]
  · rw [if_neg h3, lay_out _ _ _ _ (by right; rw [List.length_take]; omega)]
theorem info3 : (Try.prog.info? 3).map (fun i => (i.zero, i.size, i.bytes)) = some (some (.int .i64 0), 1, 8) := by kernel_rfl
theorem made26 (W : World) : (Instr.makeSlice 26 (.int .i64 4) (.int .i64 4)).run Try.prog W = .ok (.slice (some ⟨W.heap.size, 0, none⟩) 4 4) (W.alloc (.cells #[.int .i64 0, .int .i64 0, .int .i64 0, .int .i64 0] 3)) := by
  obtain ⟨i0, hi0, hz0, hz1, hz2⟩ := info_parts info3
  have h := run_make (P := Try.prog) W 26 3 i0 (.int .i64 0) Try.underlying26 hi0 hz0 .i64 .i64 4 4 (by omega) (by omega) (by rw [hz2]; omega) (by omega)
  rw [hz1] at h
  have e : madeCells (Value.int .i64 0).cells (Int.toNat 4 * 1) = #[.int .i64 0, .int .i64 0, .int .i64 0, .int .i64 0] := by kernel_rfl
  rw [e] at h
  exact h
def one (f : Nat → Option Nat) (i : Nat) : Int := if (f i).isSome then 1 else 0
theorem one_bd (f : Nat → Option Nat) (i : Nat) : 0 ≤ one f i ∧ one f i ≤ 1 := by unfold one; split <;> omega
def seenOf (f : Nat → Option Nat) : Array Value := #[.int .i64 (one f 0), .int .i64 (one f 1), .int .i64 (one f 2), .int .i64 (one f 3)]
theorem one_held {f f' : Nat → Option Nat} {k k' q : Nat} (h : Held f f' k k' q 1) (i : Nat) : one f' i = if i = q then 1 else one f i := by
  unfold one
  rw [h.some_ i]
  by_cases e : i = q
  · rw [if_pos e, decide_eq_true (by omega)]; simp
  · rw [if_neg e, decide_eq_false (by omega)]; simp
theorem seen_step {f f' : Nat → Option Nat} {k k' q : Nat} (h : Held f f' k k' q 1) (hq : q < 4) : (seenOf f).setIfInBounds q (.int .i64 1) = seenOf f' := by
  unfold seenOf
  rw [one_held h 0, one_held h 1, one_held h 2, one_held h 3]
  obtain rfl | rfl | rfl | rfl : q = 0 ∨ q = 1 ∨ q = 2 ∨ q = 3 := by omega
  all_goals rfl
theorem sum_step {f f' : Nat → Option Nat} {k k' q : Nat} (h : Held f f' k k' q 1) (hq : q < 4) (hk : (k : Int) = one f 0 + one f 1 + one f 2 + one f 3) : (k' : Int) = one f' 0 + one f' 1 + one f' 2 + one f' 3 := by
  have hc := h.count
  simp only [cnt, Nat.add_zero] at hc
  have hk' : (k' : Int) = (k : Int) + (1 - one f q) := by
    unfold one
    by_cases hs : (f q).isSome = true
    · rw [if_pos hs] at hc ⊢; omega
    · rw [if_neg hs] at hc ⊢; omega
  rw [one_held h 0, one_held h 1, one_held h 2, one_held h 3]
  obtain rfl | rfl | rfl | rfl : q = 0 ∨ q = 1 ∨ q = 2 ∨ q = 3 := by omega
  all_goals (simp; omega)
theorem far_step {f f' : Nat → Option Nat} {k k' q : Nat} (h : Held f f' k k' q 1) (hq : q < 4) (hf : ∀ p, 4 ≤ p → f p = none) : ∀ p, 4 ≤ p → f' p = none := fun p hp => by
  have h1 := h.some_ p
  rw [hf p hp, decide_eq_false (by omega)] at h1
  rcases e : f' p with _ | b
  · rfl
  · rw [e] at h1; cases h1
theorem hcnt4 {f : Nat → Option Nat} {k k' : Nat} (hk : (k : Int) = one f 0 + one f 1 + one f 2 + one f 3) (h : k' + hcnt f 0 4 = k) : k' = 0 := by
  have e : (hcnt f 0 4 : Int) = one f 0 + one f 1 + one f 2 + one f 3 := by
    simp only [hcnt, one, Nat.zero_add]
    split <;> split <;> split <;> split <;> rfl
  omega
theorem places0_any (A : Option Addr) (len cap : Nat) (z : List Int) (w : World) (h : IsRow' .u64 w A len cap z) : Calls Try.prog 12 #[.slice A len cap] w fun e w' => ∃ y : Int, e = .returned (.int .u64 y) ∧ 0 ≤ y ∧ y ≤ 18446744073709551615 ∧ w = w' := by
  by_cases h0 : len = 0
  · subst h0
    clear h
    go_enter Try.func12, Try.ntmps12
    go_wp2
    go_ret
    exact ⟨0, rfl, by omega, by omega, rfl⟩
  · rcases h with ⟨_, h1, _⟩ | ⟨x, rfl, hl, hm, hz, hcell, hwz⟩
    · exact absurd h1 h0
    · have hc := hcell 0 (by omega)
      obtain ⟨b, off, spot⟩ := x
      have hspot : spot = none := by simpa [Addr.add] using World.cell?_spot hc
      subst hspot
      have hc' : w.cell? ⟨b, off, none⟩ = some (.int .u64 (z.getD 0 0)) := by simpa [Addr.add] using hc
      have hw0 : (Lit.int .u64 (z.getD 0 0)).wf = true := hwz _ (by
        rw [List.getD_eq_getElem?_getD, List.getElem?_eq_getElem (by omega)]
        exact List.getElem_mem _)
      obtain ⟨y0, y1⟩ := u64_bounds hw0
      have hp : (0 : Int) < (len : Int) := by omega
      have hne : ((len : Int) == 0) = false := by simp; omega
      clear hc hcell hwz hw0 h0
      generalize z.getD 0 0 = y at *
      go_enter Try.func12, Try.ntmps12
      go_wp2
      go_ret
      exact ⟨y, rfl, y0, y1, rfl⟩
theorem row_bl {k : IntKind} {w w' : World} {A : Option Addr} {len cap : Nat} {z : List Int} (h : IsRow' k w A len cap z) (hb : Bl w w') : IsRow' k w' A len cap z := by
  rcases h with h | ⟨x, rfl, hl, hm, hz, hcell, hwz⟩
  · exact .inl h
  · exact .inr ⟨x, rfl, hl, hm, hz, fun i hi => by rw [hb.cell (block_lt_of_cell (hcell i hi))]; exact hcell i hi, hwz⟩
theorem row64_at {w w' : World} {A : Option Addr} {len cap : Nat} {z : List Int} (h : IsRow' .u64 w A len cap z) (hb : Bl w w') (k : Nat) (hk : k < len) : ∃ b off y, A = some ⟨b, off, none⟩ ∧ w'.cell? ⟨b, off + k, none⟩ = some (.int .u64 y) ∧ 0 ≤ y ∧ y ≤ 18446744073709551615 := by
  rcases h with ⟨_, h1, _⟩ | ⟨x, rfl, hl, hm, hz, hcell, hwz⟩
  · omega
  · have h0 := hcell 0 (by omega)
    have hc := hcell k (by omega)
    obtain ⟨b, off, spot⟩ := x
    have hspot : spot = none := by simpa [Addr.add] using World.cell?_spot h0
    subst hspot
    have e1 : (⟨b, off, none⟩ : Addr).add k = ⟨b, off + k, none⟩ := by unfold Addr.add; split <;> simp_all
    rw [e1] at hc
    have hw0 : (Lit.int .u64 (z.getD k 0)).wf = true := hwz _ (by
      rw [List.getD_eq_getElem?_getD, List.getElem?_eq_getElem (by omega)]
      exact List.getElem_mem _)
    obtain ⟨y0, y1⟩ := u64_bounds hw0
    exact ⟨b, off, _, rfl, by rw [hb.cell (block_lt_of_cell hc)]; exact hc, y0, y1⟩

/-! ### The walk: the Go text returns true -/
set_option maxHeartbeats 4000000 in
theorem walk (a0 : Option Addr) (len0 cap0 : Nat) (z0 : List Int) (a1 : Int) (w : World) (w0 : IsRow .u64 w a0 len0 cap0 z0) (w1 : (Lit.int .i64 a1).wf = true) :
    Calls Try.prog 3 #[.slice a0 len0 cap0, .int .i64 a1] w fun e w' => e = .returned (.bool true) ∧ Below w.heap.size w w' := by
  have hrow : IsRow' .u64 w a0 len0 cap0 z0 := w0
  clear w0
  have hn1 := w1
  clear w1
  by_cases hbig : 200 < len0
  · have hbI : (200 : Int) < (len0 : Int) := by omega
    clear hrow hn1 hbig
    go_enter Try.func3, Try.ntmps3
    go_wp2_with fail
    refine (new_any (from_ w.heap.size) w (Nat.le_refl _)).mono ?_
    rintro e u1 ⟨rfl, _, bl1, _⟩
    unfold addr0
    have BL1 := Lib.hid bl1; clear bl1
    go_wp2_with fail
    refine (answers_any _).mono ?_
    rintro e u2 ⟨rfl, bl2⟩
    have BL2 := Lib.hid bl2; clear bl2
    go_wp2_with fail
    refine (answers_any _).mono ?_
    rintro e u3 ⟨rfl, bl3⟩
    go_wp2_with fail
    go_ret
    exact ⟨rfl, (BL1.out.trans BL2.out).trans bl3⟩
  · have hsm : (len0 : Int) ≤ 200 := by omega
    have hsmN : len0 ≤ 200 := by omega
    clear hbig
    have HROW := Lib.hid hrow; clear hrow
    have HN1 := Lib.hid hn1; clear hn1
    have hmk := fun W => made26 W
    go_enter Try.func3, Try.ntmps3
    go_wp2_with fail
    refine (new_any (from_ w.heap.size) w (Nat.le_refl _)).mono ?_
    rintro e u1 ⟨rfl, h1, bl1, _⟩
    unfold addr0
    have BL1 := Lib.hid bl1; clear bl1
    have H1 := Lib.hid h1; clear h1
    go_wp2_with fail
    refine (answers_any _).mono ?_
    rintro e u2 ⟨rfl, bl2⟩
    have BL2 := Lib.hid bl2; clear bl2
    go_wp2_with fail
    have st2 := (H1.out.bl BL2.out).less (.cells #[.int .i64 0, .int .i64 0, .int .i64 0, .int .i64 0] 3)
    have bl3 := (BL1.out.trans BL2.out).alloc (.cells #[.int .i64 0, .int .i64 0, .int .i64 0, .int .i64 0] 3)
    have hg3 : (u2.alloc (.cells #[.int .i64 0, .int .i64 0, .int .i64 0, .int .i64 0] 3)).heap[u2.heap.size]? = some (.cells (seenOf (fun _ => none)) 3 (0, 0)) := heap_alloc_new u2 _
    have hgs : w.heap.size ≤ u2.heap.size := (BL1.out.trans BL2.out).size
    have hsz3 : (u2.alloc (.cells #[.int .i64 0, .int .i64 0, .int .i64 0, .int .i64 0] 3)).heap.size = u2.heap.size + 1 := by simp
    clear hmk
    generalize u2.alloc (.cells #[.int .i64 0, .int .i64 0, .int .i64 0, .int .i64 0] 3) = W at *
    generalize u2.heap.size = g at *
    have ST2 := Lib.hid st2; clear st2
    have BL3 := Lib.hid bl3; clear bl3
    have HG3 := Lib.hid hg3; clear hg3
    have HGS := Lib.hid hgs; clear hgs
    have HSZ3 := Lib.hid hsz3; clear hsz3
    clear H1 BL1 BL2
    go_loopw [7, 8] (fun i _ wr => ∃ (j k : Nat) (f : Nat → Option Nat) (M : Nat → Int), j ≤ len0 ∧ i = .int .i64 j ∧ StoreAt (less (from_ w.heap.size) g) wr w.heap.size (2 * j) f k M ∧ Fr (from_ w.heap.size) w wr ∧ W.heap.size ≤ wr.heap.size ∧ wr.heap[g]? = some (.cells (seenOf f) 3 (0, 0)) ∧ (k : Int) = one f 0 + one f 1 + one f 2 + one f 3 ∧ ∀ p, 4 ≤ p → f p = none) (fun i _ _ => len0 - (intOf i).toNat)
    case atStart => exact ⟨0, 0, _, _, by omega, rfl, ST2.out, Fr.of_bl BL3.out, Nat.le_refl _, HG3.out, by simp [one], fun _ _ => rfl⟩
    case round =>
      obtain ⟨j, k, f, M, hj, rfl, hst, hfr, hsz, hg, hk, hfar⟩ := hrel
      clear ST2 HG3
      have HST := Lib.hid hst; clear hst
      have HFR := Lib.hid hfr; clear hfr
      have HSZ := Lib.hid hsz; clear hsz
      have HG := Lib.hid hg; clear hg
      have HK := Lib.hid hk; clear hk
      have HFAR := Lib.hid hfar; clear hfar
      by_cases hlt : j < len0
      · obtain ⟨b, off, y, hA, hcell, hy0, hy1⟩ := row64_at HROW.out (HFR.out.bl (fun k hk hs => Nat.not_le_of_lt hk hs)) j hlt
        subst hA
        have hjI : (j : Int) < (len0 : Int) := by omega
        obtain ⟨at_, hat⟩ : ∃ a : Nat, y % 16384 = (a : Int) := ⟨(y % 16384).toNat, by omega⟩
        have hatb : at_ < 16384 := by omega
        obtain ⟨q, hq⟩ : ∃ q : Nat, q = at_ / 4096 := ⟨_, rfl⟩
        have hq4 : q < 4 := by omega
        have hqI : (at_ : Int) / 4096 = (q : Int) := by omega
        have hq4I : (q : Int) < 4 := by omega
        have haI : (at_ : Int) < 16384 := by omega
        have HQ := Lib.hid hq; clear hq
        have HATB := Lib.hid hatb; clear hatb
        go_wp2_with fail
        have st4 := HST.out.less (.cells #[.int .u8 1] 5)
        have hgl : g < wr.heap.size := lt_at HG.out
        have hS4 : ∀ b, wr.heap.size ≤ b → less (from_ w.heap.size) g b := fun b hb => ⟨Nat.le_trans HFR.out.size hb, by omega⟩
        refine (write_any st4 at_ (some ⟨wr.heap.size, 0, none⟩) 1 1 [1] (Rd.lit wr [1]) rfl (Nat.le_refl _) (fun _ ad had hs => by cases had; exact hs.2 rfl) (by have := HATB.out; omega) (by decide) (by omega) (less_new hS4 (Nat.le_refl _))).mono ?_
        rintro e u4 ⟨rfl, f4, k4, h4, fr4, held4⟩
        have hroom : room at_ 1 = 1 := by have := HATB.out; unfold room; omega
        have hpg : pagesOf at_ 1 = 1 := by unfold pagesOf; rw [if_neg (by decide)]; omega
        rw [hroom, show List.take 1 [(1 : Int)] = [1] from rfl, show [(1 : Int)].length = 1 from rfl, hpg] at h4 held4
        rw [← HQ.out] at held4
        have h4' := h4.among (T := less (from_ w.heap.size) g) (fun _ _ e => e.1)
        have fr4' : Fr (less (from_ w.heap.size) g) wr u4 := fr4.unless
        have hg4 := fr4'.at_ HG.out (fun e => e.2 rfl)
        have hcg := cell_of_row u4 g q _ _ _ hg4
        have hcq : ∃ v, u4.cell? ⟨g, q, none⟩ = some v := by
          rw [hcg]
          exact ⟨_, Array.getElem?_eq_getElem (by simpa [seenOf] using hq4)⟩
        obtain ⟨vq, hvq⟩ := hcq
        have hfz : u4.frozen? ⟨g, q, none⟩ = false := frozen_of_row u4 g q _ 3 hg4
        have hg5 := heap_setCell_same u4 g q _ 3 (.int .i64 1) hg4
        rw [seen_step held4 hq4] at hg5
        have frs : Fr (fun b => b = g) u4 (u4.setCell ⟨g, q, none⟩ (.int .i64 1)) := Fr.set (S := fun b => b = g) (p := ⟨g, q, none⟩) rfl _
        have h5 := h4'.kept frs (fun b hb e => hb.2 e)
        have fr5 : Fr (from_ w.heap.size) w (u4.setCell ⟨g, q, none⟩ (.int .i64 1)) := (HFR.out.trans (fr4'.mono fun _ _ e => e.1)).trans (frs.mono fun b _ e => by rw [e]; exact HGS.out)
        have hsz5 : W.heap.size ≤ (u4.setCell ⟨g, q, none⟩ (.int .i64 1)).heap.size := Nat.le_trans HSZ.out (Nat.le_trans fr4'.size frs.size)
        have hk5 := sum_step held4 hq4 HK.out
        have hfar5 := far_step held4 hq4 HFAR.out
        clear hcg h4 h4' fr4 fr4' hg4 hroom hpg st4 frs hS4 held4
        have HG5 := Lib.hid hg5; clear hg5
        have H5 := Lib.hid h5; clear h5
        have FR5 := Lib.hid fr5; clear fr5
        have HSZ5 := Lib.hid hsz5; clear hsz5
        have HK5 := Lib.hid hk5; clear hk5
        have HFAR5 := Lib.hid hfar5; clear hfar5
        go_wp2_with fail
        refine ⟨⟨j + 1, k4, f4, _, by omega, by go_num, H5.out, FR5.out, HSZ5.out, HG5.out, HK5.out, HFAR5.out⟩, ?_⟩
        simp only [intOf]; omega
      · obtain rfl : j = len0 := by omega
        clear hlt
        have b0 := one_bd f 0
        have b1 := one_bd f 1
        have b2 := one_bd f 2
        have b3 := one_bd f 3
        have hc0 : wr.cell? ⟨g, 0, none⟩ = some (.int .i64 (one f 0)) := by rw [cell_of_row _ _ _ _ _ _ HG.out]; rfl
        have hc1 : wr.cell? ⟨g, 1, none⟩ = some (.int .i64 (one f 1)) := by rw [cell_of_row _ _ _ _ _ _ HG.out]; rfl
        have hc2 : wr.cell? ⟨g, 2, none⟩ = some (.int .i64 (one f 2)) := by rw [cell_of_row _ _ _ _ _ _ HG.out]; rfl
        have hc3 : wr.cell? ⟨g, 3, none⟩ = some (.int .i64 (one f 3)) := by rw [cell_of_row _ _ _ _ _ _ HG.out]; rfl
        have hle : (k : Int) ≤ one f 0 + one f 1 + one f 2 + one f 3 := by rw [HK.out]; exact Int.le_refl _
        have hk0 : ∀ k', k' + hcnt f 0 4 = k → k' = 0 := fun k' h => hcnt4 HK.out h
        have hM0 : ∀ x, wiped M (0 * 4096) ((3 + 1) * 4096) x = 0 := fun x => by
          obtain ⟨pm, sm, c, l, h⟩ := HST.out
          simp only [wiped]
          split
          · rfl
          · have h1 := h.zero (x / 4096) (x % 4096) (HFAR.out _ (by omega)) (by omega)
            rwa [show x / 4096 * 4096 + x % 4096 = x by omega] at h1
        have HK0 := Lib.hid hk0; clear hk0
        have HM0 := Lib.hid hM0; clear hM0
        generalize one f 0 = o0 at *
        generalize one f 1 = o1 at *
        generalize one f 2 = o2 at *
        generalize one f 3 = o3 at *
        obtain ⟨p0, p0'⟩ := b0
        obtain ⟨p1, p1'⟩ := b1
        obtain ⟨p2, p2'⟩ := b2
        obtain ⟨p3, p3'⟩ := b3
        go_wp2_with fail
        refine (held_any HST.out).mono ?_
        rintro e u4 ⟨rfl, rfl⟩
        go_wp2_with fail
        go_quiet (fail)
        go_wp2_with fail
        clear hc0 hc1 hc2 hc3 p0 p0' p1 p1' p2 p2' p3 p3' hle
        have st5 := HST.out.bl ((Bl.refl wr).drewN nq)
        have hgl : g < wr.heap.size := lt_at HG.out
        have hS5 : ∀ b, (wr.drewN nq).heap.size ≤ b → less (from_ w.heap.size) g b := fun b hb => ⟨Nat.le_trans HFR.out.size hb, by have : wr.heap.size ≤ b := hb; omega⟩
        refine (clear_narrow st5 0 3 (by decide) (by decide) (by decide) (by omega) hS5).mono ?_
        rintro e u5 ⟨rfl, ⟨k5, h5, hk5⟩, fr5⟩
        obtain rfl := HK0.out k5 hk5
        rw [show wiped M (0 * 4096) ((3 + 1) * 4096) = fun _ => 0 from funext HM0.out] at h5
        have fr6 := HFR.out.trans ((Fr.of_bl ((Bl.refl wr).drewN nq)).trans (fr5.mono fun _ _ e => e.1))
        have bl6 := fr6.bl (fun k hk hs => Nat.not_le_of_lt hk hs)
        have row6 := row_bl HROW.out bl6
        have H5 := Lib.hid h5; clear h5 st5 hS5 hk5 fr5 fr6
        have BL6 := Lib.hid bl6; clear bl6
        have ROW6 := Lib.hid row6; clear row6
        go_wp2_with fail
        refine (places0_any _ _ _ _ _ ROW6.out).mono ?_
        rintro e u6 ⟨y, rfl, hy0, hy1, rfl⟩
        obtain ⟨pl, hpl⟩ : ∃ p : Nat, y % 16384 = (p : Int) := ⟨(y % 16384).toNat, by omega⟩
        have hplb : pl < 16384 := by omega
        have HPLB := Lib.hid hplb; clear hplb
        by_cases hv : 1 ≤ a1 ∧ a1 ≤ 4194304
        · obtain ⟨m, rfl⟩ := Int.eq_ofNat_of_zero_le (show 0 ≤ a1 by omega)
          obtain ⟨hv1, hv2⟩ := hv
          go_wp2_with fail
          refine (read_any H5.out pl m (by have := HPLB.out; omega) (by omega) (by omega)).mono ?_
          rintro e u7 ⟨rfl, hg7, bl7⟩
          rw [bytesAt_zero _ _ _ (fun _ _ => rfl)] at hg7
          have h7 := H5.out.bl bl7
          have bl8 := BL6.out.trans bl7
          have H7 := Lib.hid h7; clear h7 bl7
          have BL8 := Lib.hid bl8; clear bl8
          have HG7 := Lib.hid hg7; clear hg7
          obtain ⟨U, hU⟩ : ∃ U, U = u7 := ⟨_, rfl⟩
          subst hU
          go_wp2_with fail
          go_loopw [11] (fun i wr => ∃ k : Nat, k ≤ m ∧ i = .int .i64 k ∧ U = wr) (fun i _ => m - (intOf i).toNat)
          case atStart => exact ⟨0, by omega, rfl, rfl⟩
          case round =>
            obtain ⟨i, hi, rfl, rfl⟩ := hrel
            by_cases hlt : i < m
            · have hcx := row_cell HG7.out i (by simpa using hlt)
              rw [List.getD_eq_getElem?_getD, List.getElem?_replicate, if_pos hlt] at hcx
              simp only [Option.getD_some] at hcx
              have hiI : (i : Int) < (m : Int) := by omega
              go_wp2_with fail
              refine ⟨⟨i + 1, by omega, by go_num, by first | trivial | rfl⟩, ?_⟩
              simp only [intOf]; omega
            · obtain rfl : i = m := by omega
              go_wp2_with fail
              refine (held_any H7.out).mono ?_
              rintro e u9 ⟨rfl, rfl⟩
              go_wp2_with fail
              go_ret
              exact ⟨rfl, BL8.out⟩
        · have hv' : a1 < 1 ∨ 4194304 < a1 := by omega
          clear hv
          go_wp2_with fail
          refine (read_none _ _ hv').mono ?_
          rintro e u7 ⟨rfl, rfl⟩
          rcases hv' with hv | hv
          · go_wp2_with fail
            refine wp_loop_rounds 1 ?_
            rw [rounds_succ]
            go_wp2_with fail
            refine (held_any H5.out).mono ?_
            rintro e u9 ⟨rfl, rfl⟩
            go_wp2_with fail
            go_ret
            exact ⟨rfl, BL6.out⟩
          · have hv1 : 1 ≤ a1 := by omega
            go_wp2_with fail
            refine wp_loop_rounds 1 ?_
            rw [rounds_succ]
            go_wp2_with fail
            refine (held_any H5.out).mono ?_
            rintro e u9 ⟨rfl, rfl⟩
            go_wp2_with fail
            go_ret
            exact ⟨rfl, BL6.out⟩

/-! ### The row's step -/
set_option maxRecDepth 100000 in
theorem lifted (os : Os) (started : os.Started) (H : Type) (enc : TypeId × Value → H) :
    ReturnsInHanded {} Try.checked os 3 .any (Rows.pageHoldsSpec.pre6 enc Try.prog Try.f3 Rows.pageHoldsRow.domain false) (Rows.pageHoldsSpec.post enc Try.prog Try.f3 false true false false) := by
  refine returnsInHanded_of_change (C := Try.checked) own started (by kernel_rfl) Try.func3
    (ChangeSpec.witness6 (enc := enc) (C := Try.checked) false ⟨#[], #[.slice none 0 0, .int .i64 0], []⟩ 8 (by kernel_rfl) (by kernel_rfl) (by kernel_rfl) (by kernel_rfl)) ?_
  intro W base args ds gs before hval0 hW hcnd _
  have hval : ∀ (j : Nat) t v, Try.f3.params[j]? = some t → args[j]? = some v → Value.okWide Try.prog W .any base t v := hval0
  have hW' := hW
  obtain ⟨p, q, hA0, hV, rfl, hfz, hnd⟩ := hW
  have hA : DataW.TrodAll enc Try.prog W 0 (fun _ => true) true Try.f3.params.toList args.toList ds p := hA0
  rw [Try.params3] at hA hval
  obtain ⟨v0, vs0, d0, ds0, p0, q0, hargs, rfl, rfl, h0, r0⟩ := trodAll_cons hA
  obtain ⟨v1, vs1, d1, ds1, p1, q1, rfl, rfl, rfl, h1, r1⟩ := trodAll_cons r0
  obtain ⟨rfl, rfl, rfl⟩ := trodAll_nil r1
  obtain rfl : args = #[v0, v1] := by cases args; simp_all
  obtain ⟨rfl, rfl⟩ := trodVars_none hV
  obtain ⟨a0, len0, cap0, rfl⟩ := okWide_slice Try.underlying22 (hval 0 22 v0 rfl rfl)
  have k0 := h0
  have lt0 : ∀ x ∈ p0, x.block < W.heap.size := by obtain ⟨m, hm⟩ := k0; exact DataW.trod_lt m _ _ _ hm
  obtain ⟨z0, w0⟩ : ∃ zs, IsRow .u64 W a0 len0 cap0 zs := by
    obtain ⟨fuel, hf⟩ := h0
    rcases open_ints Try.underlying22 Try.underlying27 (by kernel_rfl) hf with ⟨hcs, _⟩ | ⟨x, l, c, zs, hcs, _, hl, hm, hz, _, hcell, hwz⟩
    · simp [Value.cells] at hcs
      obtain ⟨rfl, rfl, rfl⟩ := hcs
      exact ⟨[], .inl ⟨rfl, rfl, rfl, rfl⟩⟩
    · simp [Value.cells] at hcs
      obtain ⟨rfl, rfl, rfl⟩ := hcs
      exact ⟨zs, .inr ⟨_, rfl, hl, hm, by simpa using hz, hcell, hwz⟩⟩
  obtain ⟨a1, rfl, rfl, rfl, w1⟩ := open_int Try.underlying3 (hval 1 3 v1 rfl rfl) h1
  clear hA0 hval0
  refine (walk a0 len0 cap0 z0 a1 W w0 w1).mono fun e W' ⟨he, bel⟩ => ?_
  subst he
  exact ⟨_, rfl, _, _, _, [], _, [], hW', trodAll_mk1 (shut_bool Try.underlying4 _), (trodAll_cons_mk (Below.trod laidOut (by kernel_rfl) (of_decide_eq_true (by kernel_rfl)) k0 bel lt0) (trodAll_cons_mk (shut_int Try.underlying3 w1) trodAll_mk0)), rfl, bel.frame _, fun h => by cases h⟩

theorem over : Rows.pageHoldsRow.holds Try.pinned (OpenSpec.ofChange Rows.pageHoldsSpec) :=
  OpenClaim.holds_of_wide 3 Try.f3 rfl rfl rfl rfl rfl rfl rfl ⟨rfl, rfl, rfl, rfl, rfl⟩ rfl rfl rfl rfl rfl (by kernel_rfl) Try.func3 (by kernel_rfl)
    (of_decide_eq_true (by kernel_rfl)) (by unfold Func.isWrapper; first | (rw [if_pos (by decide +kernel)]; kernel_rfl) | (rw [if_neg (by decide +kernel)]; exact ⟨rfl, rfl⟩))
    (fun os started H enc _ => lifted os started H enc)

/-- The statement. -/
theorem proved : Rows.PageHoldsSaid := over
end Go.Proofs.Ytdfjgfioocdogaa.pageHolds

namespace Go.Proofs.Ytdfjgfioocdogaa
/-- The statement, proved. -/
theorem pageHolds_holds : Rows.PageHoldsSaid := pageHolds.proved
#print axioms pageHolds_holds
end Go.Proofs.Ytdfjgfioocdogaa
