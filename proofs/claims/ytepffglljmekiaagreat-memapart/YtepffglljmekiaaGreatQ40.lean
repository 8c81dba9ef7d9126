/-
  The reference's space without pages: loads, stores, fetches, checks, texts.
  The reference's space without pages: Store, Check, Lays, In, Out, Text, SetBrk.
-/
import Derived.Test.YtepffglljmekiaaGreatQ38
set_option linter.unusedVariables false
set_option linter.unusedSimpArgs false
namespace Go.Proofs.YtepffglljmekiaaGreat
open Go.RowKit
set_option maxRecDepth 100000
theorem rwide_yes (n : Int) (w : World) (h : n = 1 ∨ n = 2 ∨ n = 4 ∨ n = 8) : Calls Tryz.prog 80 #[.int .i64 n] w fun x w' => x = .returned (.bool true) ∧ w = w' := by
  rcases h with rfl | rfl | rfl | rfl
  all_goals go_enter Tryz.func80, Tryz.ntmps80
  all_goals go_wp2
  all_goals go_ret
  all_goals exact ⟨rfl, rfl⟩
theorem rwide_no (n : Int) (w : World) (h : ¬ (n = 1 ∨ n = 2 ∨ n = 4 ∨ n = 8)) : Calls Tryz.prog 80 #[.int .i64 n] w fun x w' => x = .returned (.bool false) ∧ w = w' := by
  have t1 : (n == 1) = false := by simp; omega
  have t2 : (n == 2) = false := by simp; omega
  have t3 : (n == 4) = false := by simp; omega
  have t4 : (n == 8) = false := by simp; omega
  clear h
  go_enter Tryz.func80, Tryz.ntmps80
  go_wp2
  go_ret
  exact ⟨rfl, rfl⟩
set_option maxHeartbeats 1000000 in
theorem rprobe_any {w : World} {rb : Nat} {b e : Int} (h : RA w rb b e) (a n : Int) (h0 : 0 ≤ a) (h1 : a ≤ 18446744073709551615) : Calls Tryz.prog 48 #[addr0 rb, .int .u64 a, .int .i64 n] w fun e w' => e = .returned (faultV 2 a) ∧ Bl w w' := by
  by_cases hn : n = 1 ∨ n = 2 ∨ n = 4 ∨ n = 8
  · have cw := fun W => rwide_yes n W hn
    have cf := rfirst_pos (h.bl (Bl.new w (.cells #[.int .i64 0, .int .u64 0] 50))) a n 2 h0 h1 (by omega)
    have CW := Lib.hid cw; clear cw
    have CF := Lib.hid cf; clear cf h hn
    unfold addr0 at *
    go_enter Tryz.func48, Tryz.ntmps48
    go_wp2_with fail
    refine (CW.out _).mono ?_
    rintro e w' ⟨rfl, rfl⟩
    go_wp2_with fail
    refine CF.out.mono ?_
    rintro e w1 ⟨rfl, kk⟩
    have hb := new2 w w1 _ _ _ kk
    obtain ⟨d0, d1⟩ := two_cells hb
    have k1 := (Bl.new w (.cells #[.int .i64 0, .int .u64 0] 50)).trans kk
    have f0 : ∀ i, w1.frozen? ⟨w.heap.size, i, none⟩ = false := fun i => by simp [World.frozen?, hb]
    have f00 := f0 0
    have f01 := f0 1
    have HB := Lib.hid hb; clear hb
    have K1 := Lib.hid k1; clear k1 kk f0 CF
    go_wp2_with fail
    (try simp only [Exit.inBlock, Exit.then])
    refine bodyPost_ret (results_cell_row rfl _ _ w.heap.size 50 _ (0, 0) _ rfl (set2 _ _ HB.out) Tryz.underlying50 rfl (by kernel_rfl)) rfl ?_
    exact ⟨rfl, (K1.out.set (Nat.le_refl _) _).set (Nat.le_refl _) _⟩
  · have cw := fun W => rwide_no n W hn
    have CW := Lib.hid cw; clear cw h hn
    unfold addr0 at *
    go_enter Tryz.func48, Tryz.ntmps48
    go_wp2_with fail
    refine (CW.out _).mono ?_
    rintro e w' ⟨rfl, rfl⟩
    go_wp2_with fail
    (try simp only [Exit.inBlock, Exit.then])
    refine bodyPost_ret (results_cell_row rfl _ _ w.heap.size 50 _ (0, 0) _ rfl (heap_alloc_new w _) Tryz.underlying50 rfl (by kernel_rfl)) rfl ?_
    exact ⟨rfl, Bl.new _ _⟩
set_option maxHeartbeats 1000000 in
theorem rload_any {w : World} {rb : Nat} {b e : Int} (h : RA w rb b e) (a n : Int) (h0 : 0 ≤ a) (h1 : a ≤ 18446744073709551615) : Calls Tryz.prog 38 #[addr0 rb, .int .u64 a, .int .i64 n] w fun e w' => e = .returned (.tuple #[.int .u64 0, faultV 1 a]) ∧ Bl w w' := by
  by_cases hn : n = 1 ∨ n = 2 ∨ n = 4 ∨ n = 8
  · have cw := fun W => rwide_yes n W hn
    have cf := rfirst_pos (h.bl (Bl.new w (.cells #[.int .i64 0, .int .u64 0] 50))) a n 1 h0 h1 (by omega)
    have CW := Lib.hid cw; clear cw
    have CF := Lib.hid cf; clear cf h hn
    unfold addr0 at *
    go_enter Tryz.func38, Tryz.ntmps38
    go_wp2_with fail
    refine (CW.out _).mono ?_
    rintro e w' ⟨rfl, rfl⟩
    go_wp2_with fail
    refine CF.out.mono ?_
    rintro e w1 ⟨rfl, kk⟩
    have hb := new2 w w1 _ _ _ kk
    obtain ⟨d0, d1⟩ := two_cells hb
    have k1 := (Bl.new w (.cells #[.int .i64 0, .int .u64 0] 50)).trans kk
    have f0 : ∀ i, w1.frozen? ⟨w.heap.size, i, none⟩ = false := fun i => by simp [World.frozen?, hb]
    have f00 := f0 0
    have f01 := f0 1
    have HB := Lib.hid hb; clear hb
    have K1 := Lib.hid k1; clear k1 kk f0 CF
    go_wp2_with fail
    (try simp only [Exit.inBlock, Exit.then])
    refine bodyPost_ret (results_tmp_row rfl _ _ w.heap.size 50 _ (0, 0) _ rfl (set2 _ _ HB.out) Tryz.underlying50 rfl (by kernel_rfl)) rfl ?_
    exact ⟨rfl, (K1.out.set (Nat.le_refl _) _).set (Nat.le_refl _) _⟩
  · have cw := fun W => rwide_no n W hn
    have CW := Lib.hid cw; clear cw h hn
    unfold addr0 at *
    go_enter Tryz.func38, Tryz.ntmps38
    go_wp2_with fail
    refine (CW.out _).mono ?_
    rintro e w' ⟨rfl, rfl⟩
    go_wp2_with fail
    (try simp only [Exit.inBlock, Exit.then])
    refine bodyPost_ret (results_tmp_row rfl _ _ w.heap.size 50 _ (0, 0) _ rfl (heap_alloc_new w _) Tryz.underlying50 rfl (by kernel_rfl)) rfl ?_
    exact ⟨rfl, Bl.new _ _⟩
set_option maxHeartbeats 1000000 in
theorem rfetch_any {w : World} {rb : Nat} {b e : Int} (h : RA w rb b e) (a : Int) (h0 : 0 ≤ a) (h1 : a ≤ 18446744073709551615) : Calls Tryz.prog 40 #[addr0 rb, .int .u64 a] w fun e w' => e = .returned (.tuple #[.int .u32 0, faultV 3 a]) ∧ Bl w w' := by
  by_cases hn : a % 2 = 1
  · have t1 : (a % 2 == 1) = true := by simp [hn]
    clear h hn
    unfold addr0 at *
    go_enter Tryz.func40, Tryz.ntmps40
    go_wp2_with fail
    (try simp only [Exit.inBlock, Exit.then])
    refine bodyPost_ret (results_tmp_row rfl _ _ w.heap.size 50 _ (0, 0) _ rfl (heap_alloc_new w _) Tryz.underlying50 rfl (by kernel_rfl)) rfl ?_
    exact ⟨rfl, Bl.new _ _⟩
  · have t1 : (a % 2 == 1) = false := by simp [hn]
    have cf := rfirst_pos (h.bl (Bl.new w (.cells #[.int .i64 0, .int .u64 0] 50))) a 2 4 h0 h1 (by omega)
    have CF := Lib.hid cf; clear cf h hn
    unfold addr0 at *
    go_enter Tryz.func40, Tryz.ntmps40
    go_wp2_with fail
    refine CF.out.mono ?_
    rintro e w1 ⟨rfl, kk⟩
    have hb := new2 w w1 _ _ _ kk
    obtain ⟨d0, d1⟩ := two_cells hb
    have k1 := (Bl.new w (.cells #[.int .i64 0, .int .u64 0] 50)).trans kk
    have f0 : ∀ i, w1.frozen? ⟨w.heap.size, i, none⟩ = false := fun i => by simp [World.frozen?, hb]
    have f00 := f0 0
    have f01 := f0 1
    have HB := Lib.hid hb; clear hb
    have K1 := Lib.hid k1; clear k1 kk f0 CF
    go_wp2_with fail
    (try simp only [Exit.inBlock, Exit.then])
    refine bodyPost_ret (results_tmp_row rfl _ _ w.heap.size 50 _ (0, 0) _ rfl (set2 _ _ HB.out) Tryz.underlying50 rfl (by kernel_rfl)) rfl ?_
    exact ⟨rfl, (K1.out.set (Nat.le_refl _) _).set (Nat.le_refl _) _⟩
end Go.Proofs.YtepffglljmekiaaGreat

set_option linter.unusedVariables false
set_option linter.unusedSimpArgs false
namespace Go.Proofs.YtepffglljmekiaaGreat
open Go.RowKit
set_option maxRecDepth 100000
set_option maxHeartbeats 1000000 in
theorem rstore_any {w : World} {rb : Nat} {b e : Int} (h : RA w rb b e) (a n x : Int) (h0 : 0 ≤ a) (h1 : a ≤ 18446744073709551615) : Calls Tryz.prog 39 #[addr0 rb, .int .u64 a, .int .i64 n, .int .u64 x] w fun e w' => e = .returned (faultV 2 a) ∧ Bl w w' := by
  have cf := rprobe_any (h.bl (Bl.new w (.cells #[.int .i64 0, .int .u64 0] 50))) a n h0 h1
  have CF := Lib.hid cf; clear cf h
  unfold addr0 at *
  go_enter Tryz.func39, Tryz.ntmps39
  go_wp2_with fail
  refine CF.out.mono ?_
  rintro e w1 ⟨rfl, kk⟩
  have hb := new2 w w1 _ _ _ kk
  have k1 := (Bl.new w (.cells #[.int .i64 0, .int .u64 0] 50)).trans kk
  clear CF kk
  unfold faultV
  have hb2 := (Bl.new w1 (.cells #[.int .i64 2, .int .u64 a] 50)).at_ hb
  obtain ⟨d0, d1⟩ := two_cells hb2
  obtain ⟨d2, d3⟩ := two_cells (heap_alloc_new w1 (.cells #[.int .i64 2, .int .u64 a] 50))
  have f0 : ∀ i, (w1.alloc (.cells #[.int .i64 2, .int .u64 a] 50)).frozen? ⟨w.heap.size, i, none⟩ = false := fun i => by simp [World.frozen?, hb2]
  have f00 := f0 0
  have f01 := f0 1
  have HB2 := Lib.hid hb2; clear hb2
  have K2 := Lib.hid (k1.alloc (.cells #[.int .i64 2, .int .u64 a] 50))
  clear hb k1 f0
  go_wp2_with fail
  (try simp only [Exit.inBlock, Exit.then])
  refine bodyPost_ret (results_cell_row rfl _ _ w.heap.size 50 _ (0, 0) _ rfl (set2 _ _ HB2.out) Tryz.underlying50 rfl (by kernel_rfl)) rfl ?_
  exact ⟨rfl, (K2.out.set (Nat.le_refl _) _).set (Nat.le_refl _) _⟩
set_option maxHeartbeats 1000000 in
theorem rcheck_any {w : World} {rb : Nat} {b e : Int} (h : RA w rb b e) (a n p : Int) (h0 : 0 ≤ a) (h1 : a ≤ 18446744073709551615) : Calls Tryz.prog 46 #[addr0 rb, .int .u64 a, .int .i64 n, .int .i64 p] w fun e w' => ∃ r, e = .returned (.int .i64 r) ∧ (r = 0 → n = 0) ∧ Bl w w' := by
  unfold addr0
  by_cases n0 : n < 0
  · clear h
    go_enter Tryz.func46, Tryz.ntmps46
    go_wp2_with fail
    go_ret
    exact ⟨22, rfl, by omega, Bl.refl _⟩
  by_cases n1 : 4194304 < n
  · have n00 : 0 ≤ n := by omega
    clear h n0
    go_enter Tryz.func46, Tryz.ntmps46
    go_wp2_with fail
    go_ret
    exact ⟨22, rfl, by omega, Bl.refl _⟩
  by_cases n2 : n = 0
  · subst n2
    clear h n0 n1
    go_enter Tryz.func46, Tryz.ntmps46
    go_wp2_with fail
    go_ret
    exact ⟨0, rfl, (by first | (intro _; rfl) | simp), Bl.refl _⟩
  have n00 : 1 ≤ n := by omega
  have n11 : n ≤ 4194304 := by omega
  have t0 : (n == 0) = false := by simp [n2]
  by_cases a0 : 274877906944 ≤ a
  · clear h n0 n1 n2
    go_enter Tryz.func46, Tryz.ntmps46
    go_wp2_with fail
    go_ret
    exact ⟨14, rfl, by omega, Bl.refl _⟩
  have a00 : a < 274877906944 := by omega
  by_cases a1 : 274877906944 - a < n
  · clear h n0 n1 n2 a0
    go_enter Tryz.func46, Tryz.ntmps46
    go_wp2_with fail
    go_ret
    exact ⟨14, rfl, by omega, Bl.refl _⟩
  have a11 : n ≤ 274877906944 - a := by omega
  have hle : a / 4096 ≤ (a + n - 1) / 4096 := by omega
  obtain ⟨q, hq⟩ : ∃ q, q = a / 4096 := ⟨_, rfl⟩
  have q0 : 0 ≤ q := by omega
  have q1 : q ≤ 67108864 := by omega
  have cp := rprot_any h (q * 4096) (by omega)
  unfold addr0 at cp
  rw [hq] at cp
  have CP := Lib.hid cp; clear cp h n0 n1 n2 a0 a1
  rw [hq] at q0 q1
  clear hq
  go_enter Tryz.func46, Tryz.ntmps46
  go_wp2_with fail
  refine wp_loop_rounds 1 ?_
  rw [rounds_succ]
  go_wp2_with fail
  refine CP.out.mono ?_
  rintro e w' ⟨rfl, k⟩
  have K := Lib.hid k; clear k
  go_wp2_with fail
  go_ret
  exact ⟨14, rfl, by omega, K.out⟩
set_option maxHeartbeats 2000000 in
theorem rlays_any {w : World} {rb : Nat} {b e : Int} (h : RA w rb b e) (a : Int) (A : Option Addr) (len cap : Nat) (xs : List Int) (hr : Rd w A xs) (hl : xs.length = len) (h0 : 0 ≤ a) (h1 : a ≤ 18446744073709551615) (hlen : len ≤ 6000) : Calls Tryz.prog 44 #[addr0 rb, .int .u64 a, .slice A len cap] w fun e w' => e = .returned (.tuple #[]) ∧ Bl w w' := by
  have H := Lib.hid h; clear h
  have HR := Lib.hid hr; clear hr
  have HL := Lib.hid hl; clear hl
  have hlI : (len : Int) ≤ 6000 := by omega
  unfold addr0
  go_enter Tryz.func44, Tryz.ntmps44
  go_wp2_with fail
  go_loopw [6] (fun iv wr => ∃ i : Nat, i ≤ len ∧ iv = .int .i64 i ∧ Bl w wr) (fun iv _ => len + 1 - (intOf iv).toNat)
  case atStart => exact ⟨0, by omega, rfl, Bl.refl _⟩
  case round =>
    obtain ⟨i, hi, rfl, hk⟩ := hrel
    have K := Lib.hid hk; clear hk
    by_cases hil : i < len
    · have hilI : (i : Int) < (len : Int) := by omega
      by_cases a0 : a < 274877906944
      · by_cases a1 : a + i < 274877906944
        · obtain ⟨bb, off, hA, hcell⟩ := (HR.out.below K.out).at_ i (by rw [HL.out]; exact hil)
          subst hA
          have cs := fun c => rset_any (H.out.bl K.out) (a + i) c (by omega)
          unfold addr0 at cs
          have CS := Lib.hid cs; clear cs
          go_wp2_with fail
          refine (CS.out _).mono ?_
          rintro e w' ⟨rfl, k⟩
          have K2 := Lib.hid (K.out.trans k); clear k
          go_wp2_with fail
          exact ⟨⟨i + 1, by omega, by go_num, K2.out⟩, by simp only [intOf]; omega⟩
        · have a1' : 274877906944 ≤ a + i := by omega
          go_wp2_with fail
          go_end0
          exact ⟨rfl, K.out⟩
      · have a0' : 274877906944 ≤ a := by omega
        go_wp2_with fail
        go_end0
        exact ⟨rfl, K.out⟩
    · have hilI : (len : Int) ≤ (i : Int) := by omega
      go_wp2_with fail
      go_end0
      exact ⟨rfl, K.out⟩
end Go.Proofs.YtepffglljmekiaaGreat
