/-
  Contracts of the functions that lay words behind bytes, of the program and of the reference.
-/
import Derived.Test.YtpalhkfipnbcnaaWordA
import Derived.Test.YtpalhkfipnbcnaaPageT
namespace Go.Proofs.Ytpalhkfipnbcnaa
open Go.RowKit
set_option maxRecDepth 100000
/-- A word's lowest k bytes, the lowest first. -/
def putB (x : Int) (k : Nat) : List Int := (List.range k).map fun i => x / 2 ^ (8 * i) % 256
theorem putB_length (x : Int) (k : Nat) : (putB x k).length = k := by simp [putB]
theorem putB_succ (x : Int) (k : Nat) : putB x (k + 1) = putB x k ++ [x / 2 ^ (8 * k) % 256] := by simp [putB, List.range_succ]
theorem own_empty (w : World) : (w.alloc (.cells #[] 5)).ownsRow w.heap.size 5 1 (.slice (some ⟨w.heap.size, 0, none⟩) 0 0) 0 (asBytes []) :=
  World.ownsRow_lit w #[] 0 (Nat.le_refl _) (by simp [maxLen]) (by simp)
theorem Rd.alloc {w : World} {A : Option Addr} {xs : List Int} (h : Rd w A xs) (o : Obj) : Rd (w.alloc o) A xs := h.below ((Below.refl _ _).alloc (Nat.le_refl _) o)
/-- What the call owns lies behind what was there. -/
theorem own_block_ge {w : World} {base e n : Nat} {v : Value} {xs : List Value} (h : w.ownsRow base e 1 v n xs) : ∀ k, v.ownBlock = some k → base ≤ k := fun k hk => (h.lt k hk).1
/-- One byte behind it. -/
theorem one_cell (w : World) (y : Int) : Rd (w.alloc (.cells #[.int .u8 y] 5)) (some ⟨w.heap.size, 0, none⟩) [y] := by
  intro _
  refine ⟨_, rfl, fun i hi => ?_⟩
  obtain rfl : i = 0 := by simpa using hi
  simp [Addr.add]

set_option maxHeartbeats 1000000 in
theorem refPut_in (A : Option Addr) (len cap : Nat) (xs : List Int) (x : Int) (n : Nat) (w : World) (hr : Rd w A xs) (hl : xs.length = len) (hc : A = none → cap = 0) (hm : len ≤ 5100) (h1 : 1 ≤ n) (h8 : n ≤ 8) :
    Calls Try.prog 25 #[.slice A len cap, .int .u64 x, .int .i64 n] w fun e w' => ∃ B c, e = .returned (.slice B (len + n) c) ∧ Rd w' B (xs ++ putB x n) ∧ Below w.heap.size w w' := by
  obtain ⟨i0, hi0, hz0, hz1, hz2⟩ := info_parts infoByte
  have HR := Lib.hid hr; clear hr
  have HL := Lib.hid hl; clear hl
  have HC := Lib.hid hc; clear hc
  have J0 := Lib.hid hi0; clear hi0
  have J1 := Lib.hid hz0; clear hz0
  have J2 := Lib.hid hz1; clear hz1
  have J3 := Lib.hid hz2; clear hz2
  go_enter Try.func25, Try.ntmps25
  go_wp2_with (at_builtin; refine wpl_append rfl (.tmp 9) (.tmp 10) 30 rfl w.heap.size 5 i0 Try.underlying30 J0.out J1.out J2.out J3.out _ 0 [] rfl (own_empty w) A len cap xs rfl (HR.out.alloc _) HL.out HC.out (by omega) (by simp) ?_; intro v1 w1 hown1 hg1; have HO1 := Lib.hid hown1; clear hown1)
  have hbel : Below w.heap.size w w1 := ((Below.refl _ _).alloc (Nat.le_refl _) _).grown hg1 (by simp) (own_block_ge (own_empty w))
  clear hg1
  go_loopw [7, 8] (fun v i wr => ∃ k : Nat, k ≤ n ∧ i = .int .i64 k ∧ wr.ownsRow w.heap.size 5 1 v (len + k) (asBytes (xs ++ putB x k)) ∧ Below w.heap.size w wr) (fun _ i _ => n - (intOf i).toNat)
  case atStart => exact ⟨0, by omega, rfl, by simpa [putB] using HO1.out, hbel⟩
  case round =>
    obtain ⟨k, hk, rfl, hown, hbr⟩ := hrel
    clear hbel HO1
    have HO := Lib.hid hown; clear hown
    by_cases hlt : k < n
    · go_wp2_with (at_builtin; refine wpl_append rfl (.tmp 24) (.tmp 31) 30 rfl w.heap.size 5 i0 Try.underlying30 J0.out J1.out J2.out J3.out _ (len + k) (xs ++ putB x k) rfl (HO.out.alloc _) (some ⟨wr.heap.size, 0, none⟩) 1 1 [x / 2 ^ (8 * k) % 256] rfl (one_cell wr _) rfl (fun h => by cases h) (by omega) (by have := hbr.size; simp; omega) ?_; intro v2 w2 hown2 hg2)
      have hsz := hbr.size
      have hb2 : Below w.heap.size w w2 := (hbr.alloc hsz _).grown hg2 (by simp; omega) (own_block_ge HO.out)
      go_roundw
      case rel => exact ⟨k + 1, by omega, by go_num, by rw [putB_succ, ← List.append_assoc]; exact hown2, hb2⟩
      case measure => simp [intOf]; omega
    · obtain rfl : k = n := by omega
      go_wp2
      go_ret
      obtain ⟨B, c, rfl, hrd, _, _⟩ := Rd.of_own HO.out
      exact ⟨B, c, rfl, hrd, hbr⟩

set_option maxHeartbeats 1000000 in
theorem refPut_out (A : Option Addr) (len cap : Nat) (xs : List Int) (x n : Int) (w : World) (hr : Rd w A xs) (hl : xs.length = len) (hc : A = none → cap = 0) (hm : len ≤ 5100) (hn : ¬ (1 ≤ n ∧ n ≤ 8)) :
    Calls Try.prog 25 #[.slice A len cap, .int .u64 x, .int .i64 n] w fun e w' => ∃ B c, e = .returned (.slice B len c) ∧ Rd w' B xs ∧ Below w.heap.size w w' := by
  obtain ⟨i0, hi0, hz0, hz1, hz2⟩ := info_parts infoByte
  have HR := Lib.hid hr; clear hr
  have HL := Lib.hid hl; clear hl
  have HC := Lib.hid hc; clear hc
  have J0 := Lib.hid hi0; clear hi0
  have J1 := Lib.hid hz0; clear hz0
  have J2 := Lib.hid hz1; clear hz1
  have J3 := Lib.hid hz2; clear hz2
  have hn2 : n < 1 ∨ 8 < n := by omega
  clear hn
  rcases hn2 with hn | hn
  all_goals
    go_enter Try.func25, Try.ntmps25
    go_wp2_with (at_builtin; refine wpl_append rfl (.tmp 9) (.tmp 10) 30 rfl w.heap.size 5 i0 Try.underlying30 J0.out J1.out J2.out J3.out _ 0 [] rfl (own_empty w) A len cap xs rfl (HR.out.alloc _) HL.out HC.out (by omega) (by simp) ?_; intro v1 w1 hown1 hg1; have HO1 := Lib.hid hown1; clear hown1)
    have hbel : Below w.heap.size w w1 := ((Below.refl _ _).alloc (Nat.le_refl _) _).grown hg1 (by simp) (own_block_ge (own_empty w))
    clear hg1
    go_ret
    obtain ⟨B, c, rfl, hrd, _, _⟩ := Rd.of_own HO1.out
    exact ⟨B, c, by simp, hrd, hbel⟩

/-- made, with spare room. -/
theorem run_made (len c : Nat) (i : TypeInfo) (hi : Try.prog.info? 5 = some i) (hz : i.zero = some (.int .u8 0)) (hs : i.size = 1) (hb : i.bytes = 1) (hlc : len ≤ c) (hc : c ≤ 1000000) (w : World) :
    (Instr.makeSlice 30 (.int .i64 (len : Int)) (.int .i64 (c : Int))).run Try.prog w = .ok (.slice (some ⟨w.heap.size, 0, none⟩) len c) (w.alloc (.cells (madeCells #[.int .u8 0] c) 5)) := by
  have h := run_make (P := Try.prog) w 30 5 i (.int .u8 0) Try.underlying30 hi hz .i64 .i64 len c (by omega) (by omega) (by rw [hb]; omega) (by omega)
  simpa [hs, Value.cells] using h
set_option maxHeartbeats 1000000 in
theorem put_in (A : Option Addr) (len cap : Nat) (xs : List Int) (x : Int) (n : Nat) (w : World) (hr : Rd w A xs) (hl : xs.length = len) (hm : len ≤ 5100) (h1 : 1 ≤ n) (h8 : n ≤ 8) :
    Calls Try.prog 41 #[.slice A len cap, .int .u64 x, .int .i64 n] w fun e w' => ∃ B c, e = .returned (.slice B (len + n) c) ∧ Rd w' B (xs ++ putB x n) ∧ Below w.heap.size w w' ∧ len + n ≤ c ∧ ∀ ad, B = some ad → w.heap.size ≤ ad.block := by
  obtain ⟨i0, hi0, hz0, hz1, hz2⟩ := info_parts infoByte
  have hmk := fun W => run_made len (len + n) i0 hi0 hz0 hz1 hz2 (by omega) (by omega) W
  have HR := Lib.hid hr; clear hr
  have HL := Lib.hid hl; clear hl
  have J0 := Lib.hid hi0; clear hi0
  have J1 := Lib.hid hz0; clear hz0
  have J2 := Lib.hid hz1; clear hz1
  have J3 := Lib.hid hz2; clear hz2
  have e1 : decide (1 ≤ (n : Int) ∧ (n : Int) ≤ 8) = true := by simp; omega
  have E1 := Lib.hid e1; clear e1
  have ec : ((len + n : Nat) : Int) = (len : Int) + (n : Int) := by omega
  rw [ec] at hmk; clear ec
  obtain ⟨w2, hcp, hown, hgr⟩ := run_copied (P := Try.prog) (w.alloc (.cells (madeCells #[.int .u8 0] (len + n)) 5)) 30 5 3 Try.underlying30 sizeByte w.heap.size w.heap.size len (len + n) _ (heap_alloc_new w _) (size_madeCells _ _) (by omega) (by simp only [maxLen]; omega) (Nat.le_refl _) A cap xs (HR.out.alloc _) HL.out
  have hbel : Below w.heap.size w w2 := ((Below.refl _ _).alloc (Nat.le_refl _) _).grown hgr (by simp) (fun k hk => by injection hk with hk; omega)
  clear hgr
  have HO1 := Lib.hid hown; clear hown
  have HBL := Lib.hid hbel; clear hbel
  go_enter Try.func41, Try.ntmps41
  go_wp2_with fail
  refine (count_any _ _).mono ?_
  rintro e w' ⟨rfl, rfl⟩
  rw [E1.out]
  go_wp2_with fail
  clear hcp hmk
  go_loopw [7, 23] (fun v i wr => ∃ k : Nat, k ≤ n ∧ i = .int .i64 k ∧ wr.ownsRow w.heap.size 5 1 v (len + k) (asBytes (xs ++ putB x k)) ∧ Below w.heap.size w wr) (fun _ i _ => n - (intOf i).toNat)
  case atStart => exact ⟨0, by omega, rfl, by simpa [putB] using HO1.out, HBL.out⟩
  case round =>
    obtain ⟨k, hk, rfl, hown, hbr⟩ := hrel
    clear HBL HO1
    have HO := Lib.hid hown; clear hown
    by_cases hlt : k < n
    · go_wp2_with (at_builtin; refine wpl_append rfl (.tmp 26) (.tmp 32) 30 rfl w.heap.size 5 i0 Try.underlying30 J0.out J1.out J2.out J3.out _ (len + k) (xs ++ putB x k) rfl (HO.out.alloc _) (some ⟨wr.heap.size, 0, none⟩) 1 1 [x / 2 ^ (8 * k) % 256] rfl (one_cell wr _) rfl (fun h => by cases h) (by omega) (by have := hbr.size; simp; omega) ?_; intro v2 w3 hown2 hg2)
      have hsz := hbr.size
      have hb2 : Below w.heap.size w w3 := (hbr.alloc hsz _).grown hg2 (by simp; omega) (own_block_ge HO.out)
      go_roundw
      case rel => exact ⟨k + 1, by omega, by go_num, by rw [putB_succ, ← List.append_assoc]; exact hown2, hb2⟩
      case measure => simp [intOf]; omega
    · obtain rfl : k = n := by omega
      go_wp2
      go_ret
      obtain ⟨B, c, rfl, hrd, _, _, hcc⟩ := Rd.of_own HO.out
      exact ⟨B, c, rfl, hrd, hbr, hcc, fun ad hB => own_block_ge HO.out ad.block (by rw [hB]; rfl)⟩

set_option maxHeartbeats 1000000 in
theorem put_out (A : Option Addr) (len cap : Nat) (xs : List Int) (x n : Int) (w : World) (hr : Rd w A xs) (hl : xs.length = len) (hm : len ≤ 5100) (hn : ¬ (1 ≤ n ∧ n ≤ 8)) :
    Calls Try.prog 41 #[.slice A len cap, .int .u64 x, .int .i64 n] w fun e w' => ∃ B c, e = .returned (.slice B len c) ∧ Rd w' B xs ∧ Below w.heap.size w w' := by
  obtain ⟨i0, hi0, hz0, hz1, hz2⟩ := info_parts infoByte
  have hmk := fun W => run_made len len i0 hi0 hz0 hz1 hz2 (by omega) (by omega) W
  have HR := Lib.hid hr; clear hr
  have HL := Lib.hid hl; clear hl
  clear hi0 hz0 hz1 hz2
  have e1 : decide (1 ≤ n ∧ n ≤ 8) = false := by simp only [decide_eq_false_iff_not]; exact hn
  have E1 := Lib.hid e1; clear e1 hn
  obtain ⟨w2, hcp, hown, hgr⟩ := run_copied (P := Try.prog) (w.alloc (.cells (madeCells #[.int .u8 0] len) 5)) 30 5 3 Try.underlying30 sizeByte w.heap.size w.heap.size len len _ (heap_alloc_new w _) (size_madeCells _ _) (by omega) (by simp only [maxLen]; omega) (Nat.le_refl _) A cap xs (HR.out.alloc _) HL.out
  have hbel : Below w.heap.size w w2 := ((Below.refl _ _).alloc (Nat.le_refl _) _).grown hgr (by simp) (fun k hk => by injection hk with hk; omega)
  clear hgr
  have HO1 := Lib.hid hown; clear hown
  have HBL := Lib.hid hbel; clear hbel
  go_enter Try.func41, Try.ntmps41
  go_wp2_with fail
  refine (count_any _ _).mono ?_
  rintro e w' ⟨rfl, rfl⟩
  rw [E1.out]
  go_wp2_with fail
  clear hcp hmk
  refine wp_loop_rounds 1 ?_
  rw [rounds_succ]
  go_wp2
  go_ret
  obtain ⟨B, c, hv, hrd, _, _⟩ := Rd.of_own HO1.out
  injection hv with h1 h2 h3
  subst h1 h3
  exact ⟨_, _, rfl, hrd, HBL.out⟩

/-- A new copy of a slice: what 'append' to an empty slice makes. -/
theorem clone_run (W : World) (A : Option Addr) (len cap : Nat) (xs : List Int) (hr : Rd W A xs) (hl : xs.length = len) (hc : A = none → cap = 0) (hm : len ≤ 5100) :
    ∃ B c w1, (Builtin.append_ #[30, 30] 30 #[.slice (some ⟨W.heap.size, 0, none⟩) 0 0, .slice A len cap]).run Try.prog (W.alloc (.cells #[] 5)) = .ok (.slice B len c) w1 ∧ Rd w1 B xs ∧ Below W.heap.size W w1 := by
  obtain ⟨i0, hi0, hz0, hz1, hz2⟩ := info_parts infoByte
  obtain ⟨v', w', h1, h2, h3⟩ := run_appended (P := Try.prog) (W.alloc (.cells #[] 5)) 30 5 30 W.heap.size i0 Try.underlying30 hi0 hz0 hz1 hz2 _ 0 [] (own_empty W) A len cap xs (hr.alloc _) hl hc (by omega) (by simp)
  obtain ⟨B, c, rfl, hrd, _, _⟩ := Rd.of_own h2
  refine ⟨B, c, w', by simpa using h1, by simpa using hrd, ((Below.refl _ _).alloc (Nat.le_refl _) _).grown h3 (by simp) (own_block_ge (own_empty W))⟩

theorem putB_get (x : Int) (n k : Nat) (h : k < n) : (putB x n).getD k 0 = x / 2 ^ (8 * k) % 256 := by
  simp [putB, List.getElem?_range h]
theorem putB_bd (x : Int) (n k : Nat) : 0 ≤ (putB x n).getD k 0 ∧ (putB x n).getD k 0 ≤ 255 := by
  by_cases h : k < n
  · rw [putB_get x n k h]; omega
  · rw [List.getD_eq_getElem?_getD, List.getElem?_eq_none (by rw [putB_length]; omega)]; simp
theorem getS_putB (x : Int) (n k : Nat) (h : k ≤ n) : getS (putB x n) k = x % 2 ^ (8 * k) := by
  induction k with
  | zero => simp [getS, Int.emod_one]
  | succ k ih =>
    unfold getS
    rw [ih (by omega), putB_get x n k (by omega)]
    have e : (2 : Int) ^ (8 * (k + 1)) = 2 ^ (8 * k) * 256 := by rw [show 8 * (k + 1) = 8 * k + 8 by omega, Int.pow_add]; rfl
    have hp := pow_pos' (8 * k)
    have e1 := Int.emod_add_mul_ediv x (2 ^ (8 * k))
    have e2 := Int.emod_add_mul_ediv (x / 2 ^ (8 * k)) 256
    have r0 := Int.emod_nonneg x (Int.ne_of_gt hp)
    have r1 := Int.emod_lt_of_pos x hp
    have q0 : 0 ≤ x / 2 ^ (8 * k) % 256 ∧ x / 2 ^ (8 * k) % 256 ≤ 255 := by omega
    have m0 := Int.mul_nonneg q0.1 (Int.le_of_lt hp)
    have m1 := Int.mul_le_mul_of_nonneg_right q0.2 (Int.le_of_lt hp)
    have hx : x = (x % 2 ^ (8 * k) + x / 2 ^ (8 * k) % 256 * 2 ^ (8 * k)) + 2 ^ (8 * k) * 256 * (x / 2 ^ (8 * k) / 256) := by
      rw [Int.mul_assoc, Int.add_assoc, Int.mul_comm (x / 2 ^ (8 * k) % 256), ← Int.mul_add, e2, e1]
    rw [e]
    generalize hT : x % 2 ^ (8 * k) + x / 2 ^ (8 * k) % 256 * 2 ^ (8 * k) = T at *
    rw [hx, Int.add_mul_emod_self_left, Int.emod_eq_of_lt (by omega) (by omega)]
/-- To the left and back leaves the lowest bits. -/
theorem shl_shr (x : Int) (s : Nat) (h : s ≤ 64) : IntKind.u64.wrap (x * 2 ^ s) / 2 ^ s = x % 2 ^ (64 - s) := by
  have e := pow64 (64 - s) (by omega)
  rw [show 64 - (64 - s) = s by omega] at e
  rw [IntKind.wrap_u64, ← e, Int.mul_comm x, Int.mul_emod_mul_of_pos _ _ (pow_pos' s), Int.mul_ediv_cancel_left _ (Int.ne_of_gt (pow_pos' s))]
end Go.Proofs.Ytpalhkfipnbcnaa
