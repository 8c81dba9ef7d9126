/-
  Contracts of the functions that lay words behind bytes, of the program and of the reference.
  Regions as a list: in order, apart, joined; which places they have; what is laid over a span. Plain mathematics.
-/
import Derived.Test.YtpalhkfipnbcnaaQ1
namespace Go.Proofs.Ytpalhkfipnbcnaa
open Go.RowKit
set_option maxRecDepth 100000
/-- A word's lowest k bytes, the lowest first. -/
def putB (x : Int) (k : Nat) : List Int := (List.range k).map fun i => x / 2 ^ (8 * i) % 256
theorem putB_length (x : Int) (k : Nat) : (putB x k).length = k := by simp [putB]
theorem putB_succ (x : Int) (k : Nat) : putB x (k + 1) = putB x k ++ [x / 2 ^ (8 * k) % 256] := by simp [putB, List.range_succ]
theorem own_empty (w : World) : (w.alloc (.cells #[] 5)).ownsRow w.heap.size 5 1 (.slice (some ⟨w.heap.size, 0, none⟩) 0 0) 0 (asBytes []) :=
  World.ownsRow_lit w #[] 0 (Nat.le_refl _) (by simp [maxLen]) (by simp)
theorem Rd.alloc {w : World} {A : Option Addr} {xs : List Int} (h : Rd w A xs) (o : Obj) : Rd (w.alloc o) A xs := h.below ((Below.refl _ _).alloc (Nat.le_refl _) o)
/-- What the call owns lies behind what was there. -/
theorem own_block_ge {w : World} {base e n : Nat} {v : Value} {xs : List Value} (h : w.ownsRow base e 1 v n xs) : ∀ k, v.ownBlock = some k → base ≤ k := fun k hk => (h.lt k hk).1
/-- One byte behind it. -/
theorem one_cell (w : World) (y : Int) : Rd (w.alloc (.cells #[.int .u8 y] 5)) (some ⟨w.heap.size, 0, none⟩) [y] := by
  intro _
  refine ⟨_, rfl, fun i hi => ?_⟩
  obtain rfl : i = 0 := by simpa using hi
  simp [Addr.add]

set_option maxHeartbeats 1000000 in
theorem refPut_in (A : Option Addr) (len cap : Nat) (xs : List Int) (x : Int) (n : Nat) (w : World) (hr : Rd w A xs) (hl : xs.length = len) (hc : A = none → cap = 0) (hm : len ≤ 5100) (h1 : 1 ≤ n) (h8 : n ≤ 8) :
    Calls Try.prog 25 #[.slice A len cap, .int .u64 x, .int .i64 n] w fun e w' => ∃ B c, e = .returned (.slice B (len + n) c) ∧ Rd w' B (xs ++ putB x n) ∧ Below w.heap.size w w' := by
  obtain ⟨i0, hi0, hz0, hz1, hz2⟩ := info_parts infoByte
  have HR := Lib.hid hr; clear hr
  have HL := Lib.hid hl; clear hl
  have HC := Lib.hid hc; clear hc
  have J0 := Lib.hid hi0; clear hi0
  have J1 := Lib.hid hz0; clear hz0
  have J2 := Lib.hid hz1; clear hz1
  have J3 := Lib.hid hz2; clear hz2
  go_enter Try.func25, Try.ntmps25
  go_wp2_with (at_builtin; refine wpl_append rfl (.tmp 9) (.tmp 10) 30 rfl w.heap.size 5 i0 Try.underlying30 J0.out J1.out J2.out J3.out _ 0 [] rfl (own_empty w) A len cap xs rfl (HR.out.alloc _) HL.out HC.out (by omega) (by simp) ?_; intro v1 w1 hown1 hg1; have HO1 := Lib.hid hown1; clear hown1)
  have hbel : Below w.heap.size w w1 := ((Below.refl _ _).alloc (Nat.le_refl _) _).grown hg1 (by simp) (own_block_ge (own_empty w))
  clear hg1
  go_loopw [7, 8] (fun v i wr => ∃ k : Nat, k ≤ n ∧ i = .int .i64 k ∧ wr.ownsRow w.heap.size 5 1 v (len + k) (asBytes (xs ++ putB x k)) ∧ Below w.heap.size w wr) (fun _ i _ => n - (intOf i).toNat)
  case atStart => exact ⟨0, by omega, rfl, by simpa [putB] using HO1.out, hbel⟩
  case round =>
    obtain ⟨k, hk, rfl, hown, hbr⟩ := hrel
    clear hbel HO1
    have HO := Lib.hid hown; clear hown
    by_cases hlt : k < n
    · go_wp2_with (at_builtin; refine wpl_append rfl (.tmp 24) (.tmp 31) 30 rfl w.heap.size 5 i0 Try.underlying30 J0.out J1.out J2.out J3.out _ (len + k) (xs ++ putB x k) rfl (HO.out.alloc _) (some ⟨wr.heap.size, 0, none⟩) 1 1 [x / 2 ^ (8 * k) % 256] rfl (one_cell wr _) rfl (fun h => by cases h) (by omega) (by have := hbr.size; simp; omega) ?_; intro v2 w2 hown2 hg2)
      have hsz := hbr.size
      have hb2 : Below w.heap.size w w2 := (hbr.alloc hsz _).grown hg2 (by simp; omega) (own_block_ge HO.out)
      go_roundw
      case rel => exact ⟨k + 1, by omega, by go_num, by rw [putB_succ, ← List.append_assoc]; exact hown2, hb2⟩
      case measure => simp [intOf]; omega
    · obtain rfl : k = n := by omega
      go_wp2
      go_ret
      obtain ⟨B, c, rfl, hrd, _, _⟩ := Rd.of_own HO.out
      exact ⟨B, c, rfl, hrd, hbr⟩

set_option maxHeartbeats 1000000 in
theorem refPut_out (A : Option Addr) (len cap : Nat) (xs : List Int) (x n : Int) (w : World) (hr : Rd w A xs) (hl : xs.length = len) (hc : A = none → cap = 0) (hm : len ≤ 5100) (hn : ¬ (1 ≤ n ∧ n ≤ 8)) :
    Calls Try.prog 25 #[.slice A len cap, .int .u64 x, .int .i64 n] w fun e w' => ∃ B c, e = .returned (.slice B len c) ∧ Rd w' B xs ∧ Below w.heap.size w w' := by
  obtain ⟨i0, hi0, hz0, hz1, hz2⟩ := info_parts infoByte
  have HR := Lib.hid hr; clear hr
  have HL := Lib.hid hl; clear hl
  have HC := Lib.hid hc; clear hc
  have J0 := Lib.hid hi0; clear hi0
  have J1 := Lib.hid hz0; clear hz0
  have J2 := Lib.hid hz1; clear hz1
  have J3 := Lib.hid hz2; clear hz2
  have hn2 : n < 1 ∨ 8 < n := by omega
  clear hn
  rcases hn2 with hn | hn
  all_goals
    go_enter Try.func25, Try.ntmps25
    go_wp2_with (at_builtin; refine wpl_append rfl (.tmp 9) (.tmp 10) 30 rfl w.heap.size 5 i0 Try.underlying30 J0.out J1.out J2.out J3.out _ 0 [] rfl (own_empty w) A len cap xs rfl (HR.out.alloc _) HL.out HC.out (by omega) (by simp) ?_; intro v1 w1 hown1 hg1; have HO1 := Lib.hid hown1; clear hown1)
    have hbel : Below w.heap.size w w1 := ((Below.refl _ _).alloc (Nat.le_refl _) _).grown hg1 (by simp) (own_block_ge (own_empty w))
    clear hg1
    go_ret
    obtain ⟨B, c, rfl, hrd, _, _⟩ := Rd.of_own HO1.out
    exact ⟨B, c, by simp, hrd, hbel⟩

/-- made, with spare room. -/
theorem run_made (len c : Nat) (i : TypeInfo) (hi : Try.prog.info? 5 = some i) (hz : i.zero = some (.int .u8 0)) (hs : i.size = 1) (hb : i.bytes = 1) (hlc : len ≤ c) (hc : c ≤ 1000000) (w : World) :
    (Instr.makeSlice 30 (.int .i64 (len : Int)) (.int .i64 (c : Int))).run Try.prog w = .ok (.slice (some ⟨w.heap.size, 0, none⟩) len c) (w.alloc (.cells (madeCells #[.int .u8 0] c) 5)) := by
  have h := run_make (P := Try.prog) w 30 5 i (.int .u8 0) Try.underlying30 hi hz .i64 .i64 len c (by omega) (by omega) (by rw [hb]; omega) (by omega)
  simpa [hs, Value.cells] using h
set_option maxHeartbeats 1000000 in
theorem put_in (A : Option Addr) (len cap : Nat) (xs : List Int) (x : Int) (n : Nat) (w : World) (hr : Rd w A xs) (hl : xs.length = len) (hm : len ≤ 5100) (h1 : 1 ≤ n) (h8 : n ≤ 8) :
    Calls Try.prog 41 #[.slice A len cap, .int .u64 x, .int .i64 n] w fun e w' => ∃ B c, e = .returned (.slice B (len + n) c) ∧ Rd w' B (xs ++ putB x n) ∧ Below w.heap.size w w' ∧ len + n ≤ c ∧ ∀ ad, B = some ad → w.heap.size ≤ ad.block := by
  obtain ⟨i0, hi0, hz0, hz1, hz2⟩ := info_parts infoByte
  have hmk := fun W => run_made len (len + n) i0 hi0 hz0 hz1 hz2 (by omega) (by omega) W
  have HR := Lib.hid hr; clear hr
  have HL := Lib.hid hl; clear hl
  have J0 := Lib.hid hi0; clear hi0
  have J1 := Lib.hid hz0; clear hz0
  have J2 := Lib.hid hz1; clear hz1
  have J3 := Lib.hid hz2; clear hz2
  have e1 : decide (1 ≤ (n : Int) ∧ (n : Int) ≤ 8) = true := by simp; omega
  have E1 := Lib.hid e1; clear e1
  have ec : ((len + n : Nat) : Int) = (len : Int) + (n : Int) := by omega
  rw [ec] at hmk; clear ec
  obtain ⟨w2, hcp, hown, hgr⟩ := run_copied (P := Try.prog) (w.alloc (.cells (madeCells #[.int .u8 0] (len + n)) 5)) 30 5 3 Try.underlying30 sizeByte w.heap.size w.heap.size len (len + n) _ (heap_alloc_new w _) (size_madeCells _ _) (by omega) (by simp only [maxLen]; omega) (Nat.le_refl _) A cap xs (HR.out.alloc _) HL.out
  have hbel : Below w.heap.size w w2 := ((Below.refl _ _).alloc (Nat.le_refl _) _).grown hgr (by simp) (fun k hk => by injection hk with hk; omega)
  clear hgr
  have HO1 := Lib.hid hown; clear hown
  have HBL := Lib.hid hbel; clear hbel
  go_enter Try.func41, Try.ntmps41
  go_wp2_with fail
  refine (count_any _ _).mono ?_
  rintro e w' ⟨rfl, rfl⟩
  rw [E1.out]
  go_wp2_with fail
  clear hcp hmk
  go_loopw [7, 23] (fun v i wr => ∃ k : Nat, k ≤ n ∧ i = .int .i64 k ∧ wr.ownsRow w.heap.size 5 1 v (len + k) (asBytes (xs ++ putB x k)) ∧ Below w.heap.size w wr) (fun _ i _ => n - (intOf i).toNat)
  case atStart => exact ⟨0, by omega, rfl, by simpa [putB] using HO1.out, HBL.out⟩
  case round =>
    obtain ⟨k, hk, rfl, hown, hbr⟩ := hrel
    clear HBL HO1
    have HO := Lib.hid hown; clear hown
    by_cases hlt : k < n
    · go_wp2_with (at_builtin; refine wpl_append rfl (.tmp 26) (.tmp 32) 30 rfl w.heap.size 5 i0 Try.underlying30 J0.out J1.out J2.out J3.out _ (len + k) (xs ++ putB x k) rfl (HO.out.alloc _) (some ⟨wr.heap.size, 0, none⟩) 1 1 [x / 2 ^ (8 * k) % 256] rfl (one_cell wr _) rfl (fun h => by cases h) (by omega) (by have := hbr.size; simp; omega) ?_; intro v2 w3 hown2 hg2)
      have hsz := hbr.size
      have hb2 : Below w.heap.size w w3 := (hbr.alloc hsz _).grown hg2 (by simp; omega) (own_block_ge HO.out)
      go_roundw
      case rel => exact ⟨k + 1, by omega, by go_num, by rw [putB_succ, ← List.append_assoc]; exact hown2, hb2⟩
      case measure => simp [intOf]; omega
    · obtain rfl : k = n := by omega
      go_wp2
      go_ret
      obtain ⟨B, c, rfl, hrd, _, _, hcc⟩ := Rd.of_own HO.out
      exact ⟨B, c, rfl, hrd, hbr, hcc, fun ad hB => own_block_ge HO.out ad.block (by rw [hB]; rfl)⟩

set_option maxHeartbeats 1000000 in
theorem put_out (A : Option Addr) (len cap : Nat) (xs : List Int) (x n : Int) (w : World) (hr : Rd w A xs) (hl : xs.length = len) (hm : len ≤ 5100) (hn : ¬ (1 ≤ n ∧ n ≤ 8)) :
    Calls Try.prog 41 #[.slice A len cap, .int .u64 x, .int .i64 n] w fun e w' => ∃ B c, e = .returned (.slice B len c) ∧ Rd w' B xs ∧ Below w.heap.size w w' := by
  obtain ⟨i0, hi0, hz0, hz1, hz2⟩ := info_parts infoByte
  have hmk := fun W => run_made len len i0 hi0 hz0 hz1 hz2 (by omega) (by omega) W
  have HR := Lib.hid hr; clear hr
  have HL := Lib.hid hl; clear hl
  clear hi0 hz0 hz1 hz2
  have e1 : decide (1 ≤ n ∧ n ≤ 8) = false := by simp only [decide_eq_false_iff_not]; exact hn
  have E1 := Lib.hid e1; clear e1 hn
  obtain ⟨w2, hcp, hown, hgr⟩ := run_copied (P := Try.prog) (w.alloc (.cells (madeCells #[.int .u8 0] len) 5)) 30 5 3 Try.underlying30 sizeByte w.heap.size w.heap.size len len _ (heap_alloc_new w _) (size_madeCells _ _) (by omega) (by simp only [maxLen]; omega) (Nat.le_refl _) A cap xs (HR.out.alloc _) HL.out
  have hbel : Below w.heap.size w w2 := ((Below.refl _ _).alloc (Nat.le_refl _) _).grown hgr (by simp) (fun k hk => by injection hk with hk; omega)
  clear hgr
  have HO1 := Lib.hid hown; clear hown
  have HBL := Lib.hid hbel; clear hbel
  go_enter Try.func41, Try.ntmps41
  go_wp2_with fail
  refine (count_any _ _).mono ?_
  rintro e w' ⟨rfl, rfl⟩
  rw [E1.out]
  go_wp2_with fail
  clear hcp hmk
  refine wp_loop_rounds 1 ?_
  rw [rounds_succ]
  go_wp2
  go_ret
  obtain ⟨B, c, hv, hrd, _, _⟩ := Rd.of_own HO1.out
  injection hv with h1 h2 h3
  subst h1 h3
  exact ⟨_, _, rfl, hrd, HBL.out⟩

/-- A new copy of a slice: what 'append' to an empty slice makes. -/
theorem clone_run (W : World) (A : Option Addr) (len cap : Nat) (xs : List Int) (hr : Rd W A xs) (hl : xs.length = len) (hc : A = none → cap = 0) (hm : len ≤ 5100) :
    ∃ B c w1, (Builtin.append_ #[30, 30] 30 #[.slice (some ⟨W.heap.size, 0, none⟩) 0 0, .slice A len cap]).run Try.prog (W.alloc (.cells #[] 5)) = .ok (.slice B len c) w1 ∧ Rd w1 B xs ∧ Below W.heap.size W w1 := by
  obtain ⟨i0, hi0, hz0, hz1, hz2⟩ := info_parts infoByte
  obtain ⟨v', w', h1, h2, h3⟩ := run_appended (P := Try.prog) (W.alloc (.cells #[] 5)) 30 5 30 W.heap.size i0 Try.underlying30 hi0 hz0 hz1 hz2 _ 0 [] (own_empty W) A len cap xs (hr.alloc _) hl hc (by omega) (by simp)
  obtain ⟨B, c, rfl, hrd, _, _⟩ := Rd.of_own h2
  refine ⟨B, c, w', by simpa using h1, by simpa using hrd, ((Below.refl _ _).alloc (Nat.le_refl _) _).grown h3 (by simp) (own_block_ge (own_empty W))⟩

theorem putB_get (x : Int) (n k : Nat) (h : k < n) : (putB x n).getD k 0 = x / 2 ^ (8 * k) % 256 := by
  simp [putB, List.getElem?_range h]
theorem putB_bd (x : Int) (n k : Nat) : 0 ≤ (putB x n).getD k 0 ∧ (putB x n).getD k 0 ≤ 255 := by
  by_cases h : k < n
  · rw [putB_get x n k h]; omega
  · rw [List.getD_eq_getElem?_getD, List.getElem?_eq_none (by rw [putB_length]; omega)]; simp
theorem getS_putB (x : Int) (n k : Nat) (h : k ≤ n) : getS (putB x n) k = x % 2 ^ (8 * k) := by
  induction k with
  | zero => simp [getS, Int.emod_one]
  | succ k ih =>
    unfold getS
    rw [ih (by omega), putB_get x n k (by omega)]
    have e : (2 : Int) ^ (8 * (k + 1)) = 2 ^ (8 * k) * 256 := by rw [show 8 * (k + 1) = 8 * k + 8 by omega, Int.pow_add]; rfl
    have hp := pow_pos' (8 * k)
    have e1 := Int.emod_add_mul_ediv x (2 ^ (8 * k))
    have e2 := Int.emod_add_mul_ediv (x / 2 ^ (8 * k)) 256
    have r0 := Int.emod_nonneg x (Int.ne_of_gt hp)
    have r1 := Int.emod_lt_of_pos x hp
    have q0 : 0 ≤ x / 2 ^ (8 * k) % 256 ∧ x / 2 ^ (8 * k) % 256 ≤ 255 := by omega
    have m0 := Int.mul_nonneg q0.1 (Int.le_of_lt hp)
    have m1 := Int.mul_le_mul_of_nonneg_right q0.2 (Int.le_of_lt hp)
    have hx : x = (x % 2 ^ (8 * k) + x / 2 ^ (8 * k) % 256 * 2 ^ (8 * k)) + 2 ^ (8 * k) * 256 * (x / 2 ^ (8 * k) / 256) := by
      rw [Int.mul_assoc, Int.add_assoc, Int.mul_comm (x / 2 ^ (8 * k) % 256), ← Int.mul_add, e2, e1]
    rw [e]
    generalize hT : x % 2 ^ (8 * k) + x / 2 ^ (8 * k) % 256 * 2 ^ (8 * k) = T at *
    rw [hx, Int.add_mul_emod_self_left, Int.emod_eq_of_lt (by omega) (by omega)]
/-- To the left and back leaves the lowest bits. -/
theorem shl_shr (x : Int) (s : Nat) (h : s ≤ 64) : IntKind.u64.wrap (x * 2 ^ s) / 2 ^ s = x % 2 ^ (64 - s) := by
  have e := pow64 (64 - s) (by omega)
  rw [show 64 - (64 - s) = s by omega] at e
  rw [IntKind.wrap_u64, ← e, Int.mul_comm x, Int.mul_emod_mul_of_pos _ _ (pow_pos' s), Int.mul_ediv_cancel_left _ (Int.ne_of_gt (pow_pos' s))]
end Go.Proofs.Ytpalhkfipnbcnaa

set_option linter.unusedVariables false
namespace Go.Proofs.Ytpalhkfipnbcnaa

structure Rg where
  s : Int
  e : Int
  p : Int

theorem Rg.eq {a b : Rg} (h1 : a.s = b.s) (h2 : a.e = b.e) (h3 : a.p = b.p) : a = b := by
  cases a; cases b; simp_all

/-- A place is in a region of the list, with this prot. -/
def In (L : List Rg) (a p : Int) : Prop := ∃ r, r ∈ L ∧ r.s ≤ a ∧ a < r.e ∧ r.p = p

/-- In order, none empty, none touching one that is alike. -/
def Nm (lo hi : Int) (L : List Rg) : Prop :=
  L.Pairwise (fun r q => r.e ≤ q.s ∧ (r.e = q.s → r.p ≠ q.p)) ∧ ∀ r, r ∈ L → lo ≤ r.s ∧ r.s < r.e ∧ r.e ≤ hi
/-- In order, none empty. -/
def So (lo hi : Int) (L : List Rg) : Prop :=
  L.Pairwise (fun r q => r.e ≤ q.s) ∧ ∀ r, r ∈ L → lo ≤ r.s ∧ r.s < r.e ∧ r.e ≤ hi
/-- Whole pages. -/
def Al (L : List Rg) : Prop := ∀ r, r ∈ L → r.s % 4096 = 0 ∧ r.e % 4096 = 0

theorem Nm.so {lo hi : Int} {L : List Rg} (h : Nm lo hi L) : So lo hi L := ⟨h.1.imp fun h => h.1, h.2⟩
theorem Nm.nil (lo hi : Int) : Nm lo hi [] := ⟨List.Pairwise.nil, fun r h => by cases h⟩
theorem So.nil (lo hi : Int) : So lo hi [] := ⟨List.Pairwise.nil, fun r h => by cases h⟩
theorem Al.nil : Al [] := fun r h => by cases h
theorem In_nil (a p : Int) : ¬ In [] a p := fun ⟨_, h, _⟩ => by cases h
theorem In_append {A B : List Rg} {a p : Int} : In (A ++ B) a p ↔ In A a p ∨ In B a p := by
  constructor
  · rintro ⟨r, hr, h⟩
    rcases List.mem_append.1 hr with h1 | h1
    · exact .inl ⟨r, h1, h⟩
    · exact .inr ⟨r, h1, h⟩
  · rintro (⟨r, hr, h⟩ | ⟨r, hr, h⟩)
    · exact ⟨r, List.mem_append_left _ hr, h⟩
    · exact ⟨r, List.mem_append_right _ hr, h⟩
theorem In_one {r : Rg} {a p : Int} : In [r] a p ↔ r.s ≤ a ∧ a < r.e ∧ r.p = p := by
  constructor
  · rintro ⟨q, hq, h⟩; rw [List.mem_singleton] at hq; subst hq; exact h
  · intro h; exact ⟨r, List.mem_singleton_self _, h⟩
theorem In_cons {r : Rg} {L : List Rg} {a p : Int} : In (r :: L) a p ↔ (r.s ≤ a ∧ a < r.e ∧ r.p = p) ∨ In L a p := by
  rw [show r :: L = [r] ++ L from rfl, In_append, In_one]
theorem Nm.mono {lo hi lo' hi' : Int} {L : List Rg} (h : Nm lo hi L) (h1 : lo' ≤ lo) (h2 : hi ≤ hi') : Nm lo' hi' L :=
  ⟨h.1, fun r hr => by have := h.2 r hr; omega⟩
theorem So.mono {lo hi lo' hi' : Int} {L : List Rg} (h : So lo hi L) (h1 : lo' ≤ lo) (h2 : hi ≤ hi') : So lo' hi' L :=
  ⟨h.1, fun r hr => by have := h.2 r hr; omega⟩
theorem Nm.tail {lo hi : Int} {r : Rg} {L : List Rg} (h : Nm lo hi (r :: L)) : Nm r.e hi L := by
  obtain ⟨h1, h2⟩ := h
  rw [List.pairwise_cons] at h1
  refine ⟨h1.2, fun q hq => ?_⟩
  have := h1.1 q hq
  have h3 := h2 q (List.mem_cons_of_mem _ hq)
  omega
theorem So.tail {lo hi : Int} {r : Rg} {L : List Rg} (h : So lo hi (r :: L)) : So r.e hi L := by
  obtain ⟨h1, h2⟩ := h
  rw [List.pairwise_cons] at h1
  refine ⟨h1.2, fun q hq => ?_⟩
  have := h1.1 q hq
  have h3 := h2 q (List.mem_cons_of_mem _ hq)
  omega
theorem So.range {lo hi : Int} {L : List Rg} (h : So lo hi L) {a p : Int} (hi' : In L a p) : lo ≤ a ∧ a < hi := by
  obtain ⟨r, hr, h1, h2, h3⟩ := hi'
  have := h.2 r hr
  omega
/-- At one place there is one prot. -/
theorem So.one {lo hi : Int} {L : List Rg} (h : So lo hi L) {a p q : Int} (h1 : In L a p) (h2 : In L a q) : p = q := by
  induction L generalizing lo with
  | nil => exact absurd h1 (In_nil _ _)
  | cons r L ih =>
    have ht := h.tail
    rcases In_cons.1 h1 with a1 | a1 <;> rcases In_cons.1 h2 with a2 | a2
    · omega
    · have := ht.range a2; omega
    · have := ht.range a1; omega
    · exact ih ht a1 a2

/-- The regions are told by their places. -/
theorem unique {lo hi lo' hi' : Int} {L M : List Rg} (h : Nm lo hi L) (k : Nm lo' hi' M) (e : ∀ a p, In L a p ↔ In M a p) : L = M := by
  induction L generalizing lo lo' M with
  | nil =>
    cases M with
    | nil => rfl
    | cons q M =>
      have h1 := k.2 q (List.mem_cons_self ..)
      exact absurd ((e q.s q.p).2 (In_cons.2 (.inl ⟨by omega, by omega, rfl⟩))) (In_nil _ _)
  | cons r L ih =>
    cases M with
    | nil =>
      have h1 := h.2 r (List.mem_cons_self ..)
      exact absurd ((e r.s r.p).1 (In_cons.2 (.inl ⟨by omega, by omega, rfl⟩))) (In_nil _ _)
    | cons q M =>
      have hr := h.2 r (List.mem_cons_self ..)
      have hq := k.2 q (List.mem_cons_self ..)
      have htl := h.tail
      have htm := k.tail
      have s1 : q.s ≤ r.s := by
        rcases In_cons.1 ((e r.s r.p).1 (In_cons.2 (.inl ⟨by omega, by omega, rfl⟩))) with a1 | a1
        · omega
        · have := htm.so.range a1; omega
      have s2 : r.s ≤ q.s := by
        rcases In_cons.1 ((e q.s q.p).2 (In_cons.2 (.inl ⟨by omega, by omega, rfl⟩))) with a1 | a1
        · omega
        · have := htl.so.range a1; omega
      have hs : r.s = q.s := by omega
      have hp : r.p = q.p := by
        rcases In_cons.1 ((e r.s r.p).1 (In_cons.2 (.inl ⟨by omega, by omega, rfl⟩))) with a1 | a1
        · omega
        · have := htm.so.range a1; omega
      have e1 : q.e ≤ r.e := by
        rcases Int.lt_or_le r.e q.e with h1 | h1
        · exfalso
          rcases In_cons.1 ((e r.e q.p).2 (In_cons.2 (.inl ⟨by omega, by omega, rfl⟩))) with a1 | ⟨x, hx, b1, b2, b3⟩
          · omega
          · have := (List.pairwise_cons.1 h.1).1 x hx
            exact this.2 (by omega) (by omega)
        · exact h1
      have e2 : r.e ≤ q.e := by
        rcases Int.lt_or_le q.e r.e with h1 | h1
        · exfalso
          rcases In_cons.1 ((e q.e r.p).1 (In_cons.2 (.inl ⟨by omega, by omega, rfl⟩))) with a1 | ⟨x, hx, b1, b2, b3⟩
          · omega
          · have := (List.pairwise_cons.1 k.1).1 x hx
            exact this.2 (by omega) (by omega)
        · exact h1
      have hh : r = q := Rg.eq hs (by omega) hp
      subst hh
      congr 1
      refine ih htl htm fun a p => ⟨fun hin => ?_, fun hin => ?_⟩
      · have := htl.so.range hin
        rcases In_cons.1 ((e a p).1 (In_cons.2 (.inr hin))) with a1 | a1
        · omega
        · exact a1
      · have := htm.so.range hin
        rcases In_cons.1 ((e a p).2 (In_cons.2 (.inr hin))) with a1 | a1
        · omega
        · exact a1

/-! ### how many -/
def tot : List Rg → Int
  | [] => 0
  | r :: L => (r.e - r.s) + tot L
theorem tot_append (A B : List Rg) : tot (A ++ B) = tot A + tot B := by
  induction A with
  | nil => simp [tot]
  | cons r A ih => simp only [List.cons_append, tot, ih]; omega
theorem So.tot_le {lo hi : Int} {L : List Rg} (h : So lo hi L) (hl : lo ≤ hi) : 0 ≤ tot L ∧ tot L ≤ hi - lo := by
  induction L generalizing lo with
  | nil => simp only [tot]; omega
  | cons r L ih =>
    have hr := h.2 r (List.mem_cons_self ..)
    have := ih h.tail (by omega)
    simp only [tot]; omega
theorem Al.tail {r : Rg} {L : List Rg} (h : Al (r :: L)) : Al L := fun q hq => h q (List.mem_cons_of_mem _ hq)
theorem len_tot {lo hi : Int} {L : List Rg} (h : So lo hi L) (ha : Al L) : (L.length : Int) * 4096 ≤ tot L := by
  induction L generalizing lo with
  | nil => simp [tot]
  | cons r L ih =>
    have hr := h.2 r (List.mem_cons_self ..)
    have hra := ha r (List.mem_cons_self ..)
    have := ih h.tail ha.tail
    simp only [tot, List.length_cons]; omega
theorem Al.tot {L : List Rg} (ha : Al L) : tot L % 4096 = 0 := by
  induction L with
  | nil => rfl
  | cons r L ih =>
    have hra := ha r (List.mem_cons_self ..)
    have := ih ha.tail
    simp only [Ytpalhkfipnbcnaa.tot]; omega
theorem len_le {lo hi : Int} {L : List Rg} (h : So lo hi L) (ha : Al L) (hl : lo ≤ hi) : (L.length : Int) * 4096 ≤ hi - lo := by
  have h1 := len_tot h ha
  have h2 := h.tot_le hl
  omega

/-! ### join -/
open Classical in
noncomputable def joinOne (L : List Rg) (r : Rg) : List Rg :=
  match L.getLast? with
  | some q => if q.e = r.s ∧ q.p = r.p then L.dropLast ++ [⟨q.s, r.e, q.p⟩] else L ++ [r]
  | none => [r]
noncomputable def join (L M : List Rg) : List Rg := M.foldl joinOne L
theorem joinOne_nil (r : Rg) : joinOne [] r = [r] := rfl
theorem joinOne_yes (L : List Rg) (q r : Rg) (h1 : q.e = r.s) (h2 : q.p = r.p) : joinOne (L ++ [q]) r = L ++ [⟨q.s, r.e, q.p⟩] := by
  simp [joinOne, h1, h2]
theorem joinOne_no (L : List Rg) (q r : Rg) (h : ¬ (q.e = r.s ∧ q.p = r.p)) : joinOne (L ++ [q]) r = L ++ [q] ++ [r] := by
  simp only [joinOne, List.getLast?_concat]
  rw [if_neg h]
theorem last_cases (L : List Rg) : L = [] ∨ ∃ A q, L = A ++ [q] := by
  rcases List.eq_nil_or_concat L with h | ⟨A, q, h⟩
  · exact .inl h
  · exact .inr ⟨A, q, by simpa using h⟩
/-- What one more makes of a list in order. -/
theorem joinOne_all {lo hi : Int} {L : List Rg} {r : Rg} (h : Nm lo hi L) (h1 : lo ≤ r.s) (h2 : r.s < r.e) (h3 : ∀ q, q ∈ L → q.e ≤ r.s) (h4 : r.e ≤ hi) :
    Nm lo hi (joinOne L r) ∧ (∀ q, q ∈ joinOne L r → q.e ≤ r.e) ∧ (∀ a p, In (joinOne L r) a p ↔ In L a p ∨ In [r] a p) ∧ tot (joinOne L r) = tot L + (r.e - r.s) ∧ (Al L → r.s % 4096 = 0 → r.e % 4096 = 0 → Al (joinOne L r)) ∧ (joinOne L r).length ≤ L.length + 1 ∧ joinOne L r ≠ [] := by
  rcases last_cases L with rfl | ⟨A, q, rfl⟩
  · rw [joinOne_nil]
    refine ⟨⟨List.pairwise_singleton _ _, fun q hq => ?_⟩, fun q hq => ?_, fun a p => ?_, by simp [tot], fun _ a1 a2 q hq => ?_, by simp, by simp⟩
    · rw [List.mem_singleton] at hq; subst hq; omega
    · rw [List.mem_singleton] at hq; subst hq; omega
    · simp [In_nil]
    · rw [List.mem_singleton] at hq; subst hq; exact ⟨a1, a2⟩
  · have hq := h.2 q (by simp)
    have hqr := h3 q (by simp)
    obtain ⟨p1, p2, p3⟩ := List.pairwise_append.1 h.1
    have hA : ∀ x, x ∈ A → x.e ≤ q.s ∧ (x.e = q.s → x.p ≠ q.p) := fun x hx => p3 x hx q (by simp)
    by_cases hc : q.e = r.s ∧ q.p = r.p
    · rw [joinOne_yes A q r hc.1 hc.2]
      refine ⟨⟨List.pairwise_append.2 ⟨p1, List.pairwise_singleton _ _, fun x hx y hy => ?_⟩, fun x hx => ?_⟩, fun x hx => ?_, fun a p => ?_, ?_, fun ha a1 a2 x hx => ?_, by simp, by simp⟩
      · rw [List.mem_singleton] at hy; subst hy; exact hA x hx
      · rcases List.mem_append.1 hx with hx | hx
        · have := h.2 x (List.mem_append_left _ hx); omega
        · rw [List.mem_singleton] at hx; subst hx; simp only; omega
      · rcases List.mem_append.1 hx with hx | hx
        · have := hA x hx; omega
        · rw [List.mem_singleton] at hx; subst hx; simp only; omega
      · rw [In_append, In_append, In_one, In_one, In_one]
        obtain ⟨c1, c2⟩ := hc
        simp only
        constructor
        · rintro (h1 | ⟨b1, b2, b3⟩)
          · exact .inl (.inl h1)
          · by_cases h5 : a < q.e
            · exact .inl (.inr ⟨b1, h5, b3⟩)
            · exact .inr ⟨by omega, b2, by omega⟩
        · rintro ((h1 | ⟨b1, b2, b3⟩) | ⟨b1, b2, b3⟩)
          · exact .inl h1
          · exact .inr ⟨b1, by omega, b3⟩
          · exact .inr ⟨by omega, b2, by omega⟩
      · rw [tot_append, tot_append]; simp only [tot]; omega
      · rcases List.mem_append.1 hx with hx | hx
        · exact ha x (List.mem_append_left _ hx)
        · rw [List.mem_singleton] at hx; subst hx; exact ⟨(ha q (by simp)).1, a2⟩
    · rw [joinOne_no A q r hc]
      refine ⟨⟨List.pairwise_append.2 ⟨h.1, List.pairwise_singleton _ _, fun x hx y hy => ?_⟩, fun x hx => ?_⟩, fun x hx => ?_, fun a p => by rw [In_append], ?_, fun ha a1 a2 x hx => ?_, by simp, by simp⟩
      · rw [List.mem_singleton] at hy; subst hy
        refine ⟨h3 x hx, fun he hp => ?_⟩
        rcases List.mem_append.1 hx with hx | hx
        · have := hA x hx; omega
        · rw [List.mem_singleton] at hx; subst hx; exact hc ⟨he, hp⟩
      · rcases List.mem_append.1 hx with hx | hx
        · have := h.2 x hx; omega
        · rw [List.mem_singleton] at hx; subst hx; omega
      · rcases List.mem_append.1 hx with hx | hx
        · have := h3 x hx; omega
        · rw [List.mem_singleton] at hx; subst hx; omega
      · rw [tot_append]; simp only [tot]; omega
      · rcases List.mem_append.1 hx with hx | hx
        · exact ha x hx
        · rw [List.mem_singleton] at hx; subst hx; exact ⟨a1, a2⟩
theorem join_all {lo hi : Int} {L M : List Rg} (h : Nm lo hi L) (k : So lo hi M) (hb : ∀ q r, q ∈ L → r ∈ M → q.e ≤ r.s) :
    Nm lo hi (join L M) ∧ (∀ a p, In (join L M) a p ↔ In L a p ∨ In M a p) ∧ tot (join L M) = tot L + tot M ∧ (Al L → Al M → Al (join L M)) ∧ (join L M).length ≤ L.length + M.length ∧ (L ≠ [] ∨ M ≠ [] → join L M ≠ []) ∧ (∀ b, (∀ q, q ∈ L → q.e ≤ b) → (∀ q, q ∈ M → q.e ≤ b) → ∀ q, q ∈ join L M → q.e ≤ b) := by
  induction M generalizing L with
  | nil => exact ⟨h, fun a p => by simp [join, In_nil], by simp [join, tot], fun a _ => a, by simp [join], fun h => by simpa [join] using h, fun b h1 _ => h1⟩
  | cons r M ih =>
    have hr := k.2 r (List.mem_cons_self ..)
    obtain ⟨a1, a2, a3, a4, a5, a6, a7⟩ := joinOne_all h hr.1 hr.2.1 (fun q hq => hb q r hq (List.mem_cons_self ..)) hr.2.2
    have kt := k.tail
    obtain ⟨b1, b2, b3, b4, b5, b6, b7⟩ := ih a1 ⟨kt.1, fun q hq => k.2 q (List.mem_cons_of_mem _ hq)⟩ (fun q x hq hx => by
      have := a2 q hq
      have := kt.2 x hx
      omega)
    refine ⟨b1, fun a p => ?_, ?_, fun c1 c2 => ?_, ?_, fun _ => b6 (.inl a7), fun b c1 c2 => ?_⟩
    · show In (join (joinOne L r) M) a p ↔ _
      rw [b2, a3, In_one, In_cons, or_assoc]
    · show tot (join (joinOne L r) M) = _
      rw [b3, a4]; simp only [tot]; omega
    · have := c2 r (List.mem_cons_self ..)
      exact b4 (a5 c1 this.1 this.2) c2.tail
    · show (join (joinOne L r) M).length ≤ _
      simp only [List.length_cons]; omega
    · refine b7 b (fun q hq => ?_) (fun q hq => c2 q (List.mem_cons_of_mem _ hq))
      have := a2 q hq
      have := c2 r (List.mem_cons_self ..)
      omega

/-! ### within -/
open Classical in
noncomputable def clip (a b : Int) (r : Rg) : Option Rg := if max r.s a < min r.e b then some ⟨max r.s a, min r.e b, r.p⟩ else none
noncomputable def within (L : List Rg) (a b : Int) : List Rg := L.filterMap (clip a b)
theorem clip_some {a b : Int} {r q : Rg} (h : clip a b r = some q) : q.s = max r.s a ∧ q.e = min r.e b ∧ q.p = r.p ∧ q.s < q.e := by
  unfold clip at h
  split at h
  · cases h; exact ⟨rfl, rfl, rfl, by assumption⟩
  · cases h
theorem within_mem {L : List Rg} {a b : Int} {q : Rg} : q ∈ within L a b ↔ ∃ r, r ∈ L ∧ clip a b r = some q := by
  simp [within, List.mem_filterMap]
theorem within_so {lo hi a b : Int} {L : List Rg} (h : So lo hi L) : So a b (within L a b) := by
  refine ⟨?_, fun q hq => ?_⟩
  · refine List.Pairwise.filterMap (R := fun r q => r.e ≤ q.s) (clip a b) (fun r q hrq r' hr' q' hq' => ?_) h.1
    obtain ⟨a1, a2, a3, a4⟩ := clip_some hr'
    obtain ⟨b1, b2, b3, b4⟩ := clip_some hq'
    omega
  · obtain ⟨r, hr, hc⟩ := within_mem.1 hq
    obtain ⟨a1, a2, a3, a4⟩ := clip_some hc
    omega
theorem within_in {a b : Int} {L : List Rg} (x p : Int) : In (within L a b) x p ↔ a ≤ x ∧ x < b ∧ In L x p := by
  constructor
  · rintro ⟨q, hq, h1, h2, h3⟩
    obtain ⟨r, hr, hc⟩ := within_mem.1 hq
    obtain ⟨a1, a2, a3, a4⟩ := clip_some hc
    exact ⟨by omega, by omega, r, hr, by omega, by omega, by omega⟩
  · rintro ⟨h1, h2, r, hr, h3, h4, h5⟩
    have hlt : max r.s a < min r.e b := by omega
    exact ⟨⟨max r.s a, min r.e b, r.p⟩, within_mem.2 ⟨r, hr, by unfold clip; rw [if_pos hlt]⟩, by simp only; omega, by simp only; omega, h5⟩
theorem within_al {a b : Int} {L : List Rg} (h : Al L) (ha : a % 4096 = 0) (hb : b % 4096 = 0) : Al (within L a b) := fun q hq => by
  obtain ⟨r, hr, hc⟩ := within_mem.1 hq
  obtain ⟨a1, a2, a3, a4⟩ := clip_some hc
  have := h r hr
  omega
theorem within_len (L : List Rg) (a b : Int) : (within L a b).length ≤ L.length := List.length_filterMap_le _ _

/-! ### lay -/
noncomputable def layL (L : List Rg) (s e : Int) (M : List Rg) : List Rg := join (join (join [] (within L 0 s)) M) (within L e 274877906944)
theorem layL_all {L M : List Rg} {s e : Int} (h : So 0 274877906944 L) (hs : 0 ≤ s) (hse : s < e) (he : e ≤ 274877906944) (hM : So s e M) :
    Nm 0 274877906944 (layL L s e M) ∧ (∀ a p, In (layL L s e M) a p ↔ In M a p ∨ ((a < s ∨ e ≤ a) ∧ In L a p)) ∧ (Al L → s % 4096 = 0 → e % 4096 = 0 → Al M → Al (layL L s e M)) ∧ (layL L s e M).length ≤ L.length + M.length + L.length ∧
    (∀ b, e ≤ b → (∀ q, q ∈ L → q.e ≤ b) → ∀ q, q ∈ layL L s e M → q.e ≤ b) := by
  have w1 := within_so (a := 0) (b := s) h
  have w2 := within_so (a := e) (b := 274877906944) h
  obtain ⟨a1, a2, a3, a4, a5, a6, a7⟩ := join_all (Nm.nil 0 274877906944) (w1.mono (by omega) (by omega)) (fun q r hq _ => by cases hq)
  have ab := a7 s (fun q hq => by cases hq) (fun q hq => (w1.2 q hq).2.2)
  obtain ⟨b1, b2, b3, b4, b5, b6, b7⟩ := join_all a1 (hM.mono (by omega) (by omega)) (fun q r hq hr => by
    have := ab q hq
    have := hM.2 r hr
    omega)
  have bb := b7 e (fun q hq => by have := ab q hq; omega) (fun q hq => (hM.2 q hq).2.2)
  obtain ⟨c1, c2, c3, c4, c5, c6, c7⟩ := join_all b1 (w2.mono (by omega) (by omega)) (fun q r hq hr => by
    have := bb q hq
    have := w2.2 r hr
    omega)
  refine ⟨c1, fun a p => ?_, fun ha hs0 he0 hMa => ?_, ?_, fun b hb hL => ?_⟩
  · show In (join _ _) a p ↔ _
    rw [c2, b2, a2, within_in, within_in]
    constructor
    · rintro (((h1 | ⟨h1, h2, h3⟩) | h1) | ⟨h1, h2, h3⟩)
      · exact absurd h1 (In_nil _ _)
      · exact .inr ⟨.inl h2, h3⟩
      · exact .inl h1
      · exact .inr ⟨.inr h1, h3⟩
    · rintro (h1 | ⟨h1 | h1, h2⟩)
      · exact .inl (.inr h1)
      · exact .inl (.inl (.inr ⟨(h.range h2).1, h1, h2⟩))
      · exact .inr ⟨h1, (h.range h2).2, h2⟩
  · exact c4 (b4 (a4 Al.nil (within_al ha (by omega) hs0)) hMa) (within_al ha he0 (by omega))
  · show (join _ _).length ≤ _
    have := within_len L 0 s
    have := within_len L e 274877906944
    simp only [List.length_nil] at a5
    omega
  · refine c7 b (fun q hq => by have := bb q hq; omega) (fun q hq => ?_)
    obtain ⟨r, hr, hc⟩ := within_mem.1 hq
    obtain ⟨d1, d2, d3, d4⟩ := clip_some hc
    have := hL r hr
    omega
theorem one_so {s e p : Int} (h : s < e) : So s e [⟨s, e, p⟩] := ⟨List.pairwise_singleton _ _, fun r hr => by rw [List.mem_singleton] at hr; subst hr; simp only; omega⟩
theorem one_nm {s e p : Int} (h : s < e) : Nm s e [⟨s, e, p⟩] := ⟨List.pairwise_singleton _ _, fun r hr => by rw [List.mem_singleton] at hr; subst hr; simp only; omega⟩
theorem one_al {s e p : Int} (h1 : s % 4096 = 0) (h2 : e % 4096 = 0) : Al [⟨s, e, p⟩] := fun r hr => by rw [List.mem_singleton] at hr; subst hr; exact ⟨h1, h2⟩
end Go.Proofs.Ytpalhkfipnbcnaa
