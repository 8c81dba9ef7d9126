/-
  Faults, loads, stores and fetches of any width.
-/
import Derived.Test.YtepffglljmekiaaGreatQ32
set_option linter.unusedVariables false
set_option linter.unusedSimpArgs false
namespace Go.Proofs.YtepffglljmekiaaGreat
open Go.RowKit
set_option maxRecDepth 100000
set_option maxHeartbeats 1000000 in
theorem fault_bad {w : World} (sb : Nat) (kind a n p : Int) (hn : ¬ (n = 1 ∨ n = 2 ∨ n = 4 ∨ n = 8)) :
    Calls Tryz.prog 57 #[addr0 sb, .int .i64 kind, .int .u64 a, .int .i64 n, .int .i64 p] w fun e w' => e = .returned (faultV kind a) ∧ Bl w w' := by
  have cw := fun W => width_no n W hn
  have CW := Lib.hid cw; clear cw hn
  unfold addr0 at *
  go_enter Tryz.func57, Tryz.ntmps57
  go_wp2_with fail
  refine (CW.out _).mono ?_
  rintro e w' ⟨rfl, rfl⟩
  go_wp2_with fail
  (try simp only [Exit.inBlock, Exit.then])
  refine bodyPost_ret (results_cell_row rfl _ _ w.heap.size 50 _ (0, 0) _ rfl (heap_alloc_new w _) Tryz.underlying50 rfl (by kernel_rfl)) rfl ?_
  exact ⟨rfl, Bl.new _ _⟩
/-- A word. -/
def Wd (x : Int) : Prop := 0 ≤ x ∧ x ≤ 18446744073709551615
theorem Wd.zero : Wd 0 := ⟨by omega, by omega⟩
theorem Wd.nat {a : Nat} (h : a < 2 ^ 64) : Wd (a : Int) := ⟨by omega, by omega⟩
theorem can_under {L : List Rg} {p y : Int} (h : So 0 274877906944 L) (hc : Can L p y) : y < 274877906944 := by
  obtain ⟨q, ⟨r, hr, _, h2, _⟩, _⟩ := hc
  have := h.2 r hr
  omega
/-- A fault's place is a word. -/
theorem Wd.fault {L : List Rg} {p a x : Int} {n : Nat} (h : So 0 274877906944 L) (ha : Wd a) (h1 : a ≤ x) (h2 : x < a + n) (hn : n ≤ 8) (hc : ∀ y, a ≤ y → y < x → Can L p y) : Wd x := by
  rcases Int.lt_or_le a x with h3 | h3
  · have := can_under h (hc a (Int.le_refl _) h3)
    exact ⟨by have := ha.1; omega, by omega⟩
  · have := ha.1; have := ha.2
    exact ⟨by omega, by omega⟩
/-- Some fault, or none; the memory that was there stays. -/
def SomeFault (w : World) (e : Ending) (w' : World) : Prop := ∃ k x, e = .returned (faultV k x) ∧ Wd x ∧ Bl w w'
theorem fault_some {T : Nat → Prop} {w : World} {sb n0 : Nat} {L : List Rg} {M st : Nat → Int} {mo ba en : Int} (h : MS T w sb n0 L M st mo ba en) (kind a n p : Int) (h0 : 0 ≤ a) (h1 : a ≤ 18446744073709551615) :
    Calls Tryz.prog 57 #[addr0 sb, .int .i64 kind, .int .u64 a, .int .i64 n, .int .i64 p] w (SomeFault w) := by
  by_cases hn : n = 1 ∨ n = 2 ∨ n = 4 ∨ n = 8
  · obtain ⟨m, rfl⟩ := Int.eq_ofNat_of_zero_le (show 0 ≤ n by omega)
    refine (fault_any h kind a m p h0 h1 (by omega)).mono ?_
    rintro e w' ⟨k, x, rfl, hh, kk⟩
    refine ⟨k, x, rfl, ?_, kk⟩
    rcases hh with ⟨_, h2, h3, _, h5⟩ | ⟨_, rfl, _⟩
    · exact Wd.fault h.so ⟨h0, h1⟩ h2 h3 (by omega) h5
    · exact Wd.zero
  · refine (fault_bad sb kind a n p hn).mono ?_
    rintro e w' ⟨rfl, kk⟩
    exact ⟨kind, a, rfl, ⟨h0, h1⟩, kk⟩
set_option maxHeartbeats 1000000 in
theorem probe_some {T : Nat → Prop} {w : World} {sb n0 : Nat} {L : List Rg} {M st : Nat → Int} {mo ba en : Int} (h : MS T w sb n0 L M st mo ba en) (a n : Int) (h0 : 0 ≤ a) (h1 : a ≤ 18446744073709551615) :
    Calls Tryz.prog 47 #[addr0 sb, .int .u64 a, .int .i64 n] w (SomeFault w) := by
  have cf := fault_some (h.bl (Bl.new w (.cells #[.int .i64 0, .int .u64 0] 50))) 2 a n 2 h0 h1
  have CF := Lib.hid cf; clear cf h
  unfold addr0 at *
  go_enter Tryz.func47, Tryz.ntmps47
  go_wp2_with fail
  refine CF.out.mono ?_
  rintro e w1 ⟨k, x, rfl, wd, kk⟩
  have WD := Lib.hid wd; clear wd
  have hb := new2 w w1 _ _ _ kk
  obtain ⟨d0, d1⟩ := two_cells hb
  have k1 := (Bl.new w (.cells #[.int .i64 0, .int .u64 0] 50)).trans kk
  have f0 : ∀ i, w1.frozen? ⟨w.heap.size, i, none⟩ = false := fun i => by simp [World.frozen?, hb]
  have f00 := f0 0
  have f01 := f0 1
  have HB := Lib.hid hb; clear hb
  have K1 := Lib.hid k1; clear k1 kk f0
  unfold faultV
  go_wp2_with fail
  (try simp only [Exit.inBlock, Exit.then])
  refine bodyPost_ret (results_cell_row rfl _ _ w.heap.size 50 _ (0, 0) _ rfl (set2 _ _ HB.out) Tryz.underlying50 rfl (by kernel_rfl)) rfl ?_
  exact ⟨k, x, rfl, WD.out, (K1.out.set (Nat.le_refl _) _).set (Nat.le_refl _) _⟩
/-- A number, and a fault or none. -/
def SomeLoad (q : IntKind) (w : World) (e : Ending) (w' : World) : Prop := ∃ y k x, e = .returned (.tuple #[.int q y, faultV k x]) ∧ (q = .u64 → Wd y) ∧ Wd x ∧ Bl w w'
set_option maxHeartbeats 1000000 in
theorem load_bad {w : World} (sb : Nat) (a n : Int) (hn : ¬ (n = 1 ∨ n = 2 ∨ n = 4 ∨ n = 8)) (ha : Wd a) :
    Calls Tryz.prog 17 #[addr0 sb, .int .u64 a, .int .i64 n] w (SomeLoad .u64 w) := by
  have cf := fun W => fault_bad (w := W) sb 1 a n 1 hn
  have CF := Lib.hid cf; clear cf hn
  unfold addr0 at *
  go_enter Tryz.func17, Tryz.ntmps17
  go_wp2_with fail
  refine (CF.out _).mono ?_
  rintro e w1 ⟨rfl, kk⟩
  have hb := new2 w w1 _ _ _ kk
  have k1 := (Bl.new w (.cells #[.int .i64 0, .int .u64 0] 50)).trans kk
  clear CF kk
  unfold faultV
  have hb2 := (Bl.new w1 (.cells #[.int .i64 1, .int .u64 a] 50)).at_ hb
  obtain ⟨d0, d1⟩ := two_cells hb2
  obtain ⟨d2, d3⟩ := two_cells (heap_alloc_new w1 (.cells #[.int .i64 1, .int .u64 a] 50))
  have f0 : ∀ i, (w1.alloc (.cells #[.int .i64 1, .int .u64 a] 50)).frozen? ⟨w.heap.size, i, none⟩ = false := fun i => by simp [World.frozen?, hb2]
  have f00 := f0 0
  have f01 := f0 1
  have HB2 := Lib.hid hb2; clear hb2
  have K2 := Lib.hid (k1.alloc (.cells #[.int .i64 1, .int .u64 a] 50))
  clear hb k1 f0
  go_wp2_with fail
  generalize w1.alloc (.cells #[.int .i64 1, .int .u64 a] 50) = W at *
  go_region
  all_goals (
    (try go_wp2_with fail)
    (try simp only [Exit.inBlock, Exit.then])
    refine bodyPost_ret (results_tmp_row rfl _ _ w.heap.size 50 _ (0, 0) _ rfl (set2 _ _ HB2.out) Tryz.underlying50 rfl (by kernel_rfl)) rfl ?_
    exact ⟨0, 1, a, rfl, fun _ => Wd.zero, ha, (K2.out.drew.set (Nat.le_refl _) _).set (Nat.le_refl _) _⟩)
theorem load_some {T : Nat → Prop} {w : World} {sb n0 : Nat} {L : List Rg} {M st : Nat → Int} {mo ba en : Int} (h : MS T w sb n0 L M st mo ba en) (a : Nat) (n : Int) (ha : a < 2 ^ 64) :
    Calls Tryz.prog 17 #[addr0 sb, .int .u64 (a : Int), .int .i64 n] w (SomeLoad .u64 w) := by
  by_cases hn : n = 1 ∨ n = 2 ∨ n = 4 ∨ n = 8
  · obtain ⟨m, rfl⟩ := Int.eq_ofNat_of_zero_le (show 0 ≤ n by omega)
    refine (load_any h a m ha (by omega)).mono ?_
    rintro e w' ⟨y, k, x, rfl, hh, kk⟩
    rcases hh with ⟨_, rfl, h2, h3, _, h5⟩ | ⟨_, rfl, rfl, _⟩
    · exact ⟨0, k, x, rfl, fun _ => Wd.zero, Wd.fault h.so (Wd.nat ha) h2 h3 (by omega) h5, kk⟩
    · refine ⟨_, k, 0, rfl, fun _ => ?_, Wd.zero, kk⟩
      have hb := getS_bd (bytesAt M a m) (bytesAt_bd h.by_ a m) m
      have hp : (2 : Int) ^ (8 * m) ≤ 18446744073709551616 := by
        have h8 : m ≤ 8 := by omega
        have h9 : (m : Int) = 1 ∨ (m : Int) = 2 ∨ (m : Int) = 4 ∨ (m : Int) = 8 := hn
        have h10 : m = 1 ∨ m = 2 ∨ m = 4 ∨ m = 8 := by omega
        rcases h10 with rfl | rfl | rfl | rfl <;> decide
      exact ⟨hb.1, by have := hb.2; unfold numAt; omega⟩
  · exact load_bad sb a n hn (Wd.nat ha)
set_option maxHeartbeats 1000000 in
theorem half_any {T : Nat → Prop} {w : World} {sb n0 : Nat} {L : List Rg} {M st : Nat → Int} {mo ba en : Int} (h : MS T w sb n0 L M st mo ba en) (a : Nat) (ha : a < 2 ^ 64) :
    Calls Tryz.prog 59 #[addr0 sb, .int .u64 (a : Int)] w fun e w' => ∃ y k x, e = .returned (.tuple #[.int .u32 y, faultV k x]) ∧ 0 ≤ y ∧ y ≤ 65535 ∧ Wd x ∧ Bl w w' := by
  have cf := fault_any (h.bl (Bl.new w (.cells #[.int .i64 0, .int .u64 0] 50))) 3 a 2 4 (by omega) (by omega) (by decide)
  have cn := fun W (hW : Bl w W) => number_any (h.bl hW) a 2 ha (by omega) (by omega)
  have hnb : 0 ≤ numAt M a 2 ∧ numAt M a 2 ≤ 65535 := by
    have h1 := h.by_ a
    have h2 := h.by_ (a + 1)
    have e : numAt M a 2 = M a + M (a + 1) * 256 := by simp [numAt, getS, bytesAt, List.range_succ]
    omega
  have HSO := Lib.hid h.so
  have CF := Lib.hid cf; clear cf h
  have CN := Lib.hid cn; clear cn
  generalize numAt M a 2 = N at *
  obtain ⟨n0', n1'⟩ := hnb
  unfold addr0 at *
  go_enter Tryz.func59, Tryz.ntmps59
  go_wp2_with fail
  refine CF.out.mono ?_
  rintro e w1 ⟨k, x, rfl, hh, kk⟩
  have hb := new2 w w1 _ _ _ kk
  have k1 := (Bl.new w (.cells #[.int .i64 0, .int .u64 0] 50)).trans kk
  clear CF kk
  have HB := Lib.hid hb; clear hb
  have K1 := Lib.hid k1; clear k1
  unfold faultV
  rcases hh with ⟨hk, hh⟩ | ⟨hk, hx, hh⟩
  · subst hk
    have WD := Lib.hid (Wd.fault HSO.out (Wd.nat ha) hh.1 hh.2.1 (by omega) hh.2.2.2)
    clear hh
    go_wp2_with fail
    have hb2 := (Bl.new w1 (.cells #[.int .i64 3, .int .u64 x] 50)).at_ HB.out
    obtain ⟨d0, d1⟩ := two_cells hb2
    obtain ⟨d2, d3⟩ := two_cells (heap_alloc_new w1 (.cells #[.int .i64 3, .int .u64 x] 50))
    have f0 : ∀ i, (w1.alloc (.cells #[.int .i64 3, .int .u64 x] 50)).frozen? ⟨w.heap.size, i, none⟩ = false := fun i => by simp [World.frozen?, hb2]
    have f00 := f0 0
    have f01 := f0 1
    have HB2 := Lib.hid hb2; clear hb2
    have K2 := Lib.hid (K1.out.alloc (.cells #[.int .i64 3, .int .u64 x] 50))
    clear HB K1 f0 CN
    generalize w1.alloc (.cells #[.int .i64 3, .int .u64 x] 50) = W at *
    go_region
    all_goals (
      (try go_wp2_with fail)
      (try simp only [Exit.inBlock, Exit.then])
      refine bodyPost_ret (results_tmp_row rfl _ _ w.heap.size 50 _ (0, 0) _ rfl (set2 _ _ HB2.out) Tryz.underlying50 rfl (by kernel_rfl)) rfl ?_
      exact ⟨0, 3, x, rfl, by omega, by omega, WD.out, (K2.out.drew.set (Nat.le_refl _) _).set (Nat.le_refl _) _⟩)
  · subst hk hx
    clear hh
    go_wp2_with fail
    refine (CN.out _ (K1.out.alloc _)).mono ?_
    rintro e w2 ⟨rfl, k2⟩
    have hb2 := k2.at_ ((Bl.new w1 (.cells #[.int .i64 0, .int .u64 0] 50)).at_ HB.out)
    obtain ⟨d0, d1⟩ := two_cells hb2
    have f0 : ∀ i, w2.frozen? ⟨w.heap.size, i, none⟩ = false := fun i => by simp [World.frozen?, hb2]
    have f00 := f0 0
    have f01 := f0 1
    have HB2 := Lib.hid hb2; clear hb2
    have K2 := Lib.hid ((K1.out.alloc (.cells #[.int .i64 0, .int .u64 0] 50)).trans k2)
    clear HB K1 f0 CN k2
    go_wp2_with fail
    (try simp only [Exit.inBlock, Exit.then])
    refine bodyPost_ret (results_tmp_row rfl _ _ w.heap.size 50 _ (0, 0) _ rfl (set2 _ _ HB2.out) Tryz.underlying50 rfl (by kernel_rfl)) rfl ?_
    exact ⟨_, 0, 0, rfl, n0', n1', Wd.zero, (K2.out.set (Nat.le_refl _) _).set (Nat.le_refl _) _⟩
/-- A Store of any width. -/
def SomeStore (T : Nat → Prop) (w : World) (sb n0 : Nat) (L : List Rg) (M st : Nat → Int) (mo ba en : Int) (w' : World) : Prop := ∃ M' st', MS T w' sb n0 L M' st' mo ba en ∧ Rise st st' (fun p => ∃ x : Nat, x / 4096 = p ∧ M' x ≠ M x) ∧ Fr T w w'
theorem lay_ne {M : Nat → Int} {a : Nat} {cs : List Int} {x : Nat} (h : lay M a cs x ≠ M x) : a ≤ x ∧ x < a + cs.length := by
  rcases Nat.lt_or_ge x a with h1 | h1
  · exact absurd (lay_out _ _ _ _ (.inl h1)) h
  · rcases Nat.lt_or_ge x (a + cs.length) with h2 | h2
    · exact ⟨h1, h2⟩
    · exact absurd (lay_out _ _ _ _ (.inr h2)) h
end Go.Proofs.YtepffglljmekiaaGreat
