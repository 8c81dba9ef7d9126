/-
  A space that is none: what its methods answer.
  Calls of both, one after another.
  A region that draws its order, whose last operations wait for all the others: the head in whatever order, loads first, then the tail as it stands. No program in sight.
  Copy of a store that lies within a space: a store of its own, with the same bytes and stamps.
  Copy of a space: a space of its own, that is alike.
  A region's list of operations, without the edges of its order: what is shown of it holds. No program in sight.
  The same regions, by the reference; faults held against each other.
-/
import Derived.Test.YtepffglljmekiaaGreatQ34
import Derived.Test.YtepffglljmekiaaGreatQA
import Derived.StillTail
import Derived.OrdersHeld
import Derived.Deep.RegionHeld
import Derived.Test.YtepffglljmekiaaGreatQ35
import Derived.Deep.WholeRow
import Derived.Orders
import Derived.Tactics
set_option linter.unusedVariables false
set_option linter.unusedSimpArgs false
namespace Go.Proofs.YtepffglljmekiaaGreat
open Go.RowKit
set_option maxRecDepth 100000
theorem fault_nil (kind a n p : Int) (w : World) : Calls Tryz.prog 57 #[.pointer none, .int .i64 kind, .int .u64 a, .int .i64 n, .int .i64 p] w fun e w' => e = .returned (faultV kind a) ∧ Bl w w' := by
  go_enter Tryz.func57, Tryz.ntmps57
  go_wp2_with fail
  (try simp only [Exit.inBlock, Exit.then])
  refine bodyPost_ret (results_cell_row rfl _ _ w.heap.size 50 _ (0, 0) _ rfl (heap_alloc_new w _) Tryz.underlying50 rfl (by kernel_rfl)) rfl ?_
  exact ⟨rfl, Bl.new _ _⟩
set_option maxHeartbeats 1000000 in
theorem load_nil (a n : Int) (w : World) : Calls Tryz.prog 17 #[.pointer none, .int .u64 a, .int .i64 n] w fun e w' => e = .returned (.tuple #[.int .u64 0, faultV 1 a]) ∧ Bl w w' := by
  have cf := fun W => fault_nil 1 a n 1 W
  have CF := Lib.hid cf; clear cf
  go_enter Tryz.func17, Tryz.ntmps17
  go_wp2_with fail
  refine (CF.out _).mono ?_
  rintro e w1 ⟨rfl, kk⟩
  have hb := new2 w w1 _ _ _ kk
  have k1 := (Bl.new w (.cells #[.int .i64 0, .int .u64 0] 50)).trans kk
  clear CF kk
  unfold faultV
  have hb2 := (Bl.new w1 (.cells #[.int .i64 1, .int .u64 a] 50)).at_ hb
  obtain ⟨d0, d1⟩ := two_cells hb2
  obtain ⟨d2, d3⟩ := two_cells (heap_alloc_new w1 (.cells #[.int .i64 1, .int .u64 a] 50))
  have f0 : ∀ i, (w1.alloc (.cells #[.int .i64 1, .int .u64 a] 50)).frozen? ⟨w.heap.size, i, none⟩ = false := fun i => by simp [World.frozen?, hb2]
  have f00 := f0 0
  have f01 := f0 1
  have HB2 := Lib.hid hb2; clear hb2
  have K2 := Lib.hid (k1.alloc (.cells #[.int .i64 1, .int .u64 a] 50))
  clear hb k1 f0
  go_wp2_with fail
  generalize w1.alloc (.cells #[.int .i64 1, .int .u64 a] 50) = W at *
  go_region
  all_goals (
    (try go_wp2_with fail)
    (try simp only [Exit.inBlock, Exit.then])
    refine bodyPost_ret (results_tmp_row rfl _ _ w.heap.size 50 _ (0, 0) _ rfl (set2 _ _ HB2.out) Tryz.underlying50 rfl (by kernel_rfl)) rfl ?_
    exact ⟨rfl, (K2.out.drew.set (Nat.le_refl _) _).set (Nat.le_refl _) _⟩)
set_option maxHeartbeats 1000000 in
theorem half_nil (a : Int) (w : World) : Calls Tryz.prog 59 #[.pointer none, .int .u64 a] w fun e w' => e = .returned (.tuple #[.int .u32 0, faultV 3 a]) ∧ Bl w w' := by
  have cf := fun W => fault_nil 3 a 2 4 W
  have CF := Lib.hid cf; clear cf
  go_enter Tryz.func59, Tryz.ntmps59
  go_wp2_with fail
  refine (CF.out _).mono ?_
  rintro e w1 ⟨rfl, kk⟩
  have hb := new2 w w1 _ _ _ kk
  have k1 := (Bl.new w (.cells #[.int .i64 0, .int .u64 0] 50)).trans kk
  clear CF kk
  unfold faultV
  have hb2 := (Bl.new w1 (.cells #[.int .i64 3, .int .u64 a] 50)).at_ hb
  obtain ⟨d0, d1⟩ := two_cells hb2
  obtain ⟨d2, d3⟩ := two_cells (heap_alloc_new w1 (.cells #[.int .i64 3, .int .u64 a] 50))
  have f0 : ∀ i, (w1.alloc (.cells #[.int .i64 3, .int .u64 a] 50)).frozen? ⟨w.heap.size, i, none⟩ = false := fun i => by simp [World.frozen?, hb2]
  have f00 := f0 0
  have f01 := f0 1
  have HB2 := Lib.hid hb2; clear hb2
  have K2 := Lib.hid (k1.alloc (.cells #[.int .i64 3, .int .u64 a] 50))
  clear hb k1 f0
  go_wp2_with fail
  generalize w1.alloc (.cells #[.int .i64 3, .int .u64 a] 50) = W at *
  go_region
  all_goals (
    (try go_wp2_with fail)
    (try simp only [Exit.inBlock, Exit.then])
    refine bodyPost_ret (results_tmp_row rfl _ _ w.heap.size 50 _ (0, 0) _ rfl (set2 _ _ HB2.out) Tryz.underlying50 rfl (by kernel_rfl)) rfl ?_
    exact ⟨rfl, (K2.out.drew.set (Nat.le_refl _) _).set (Nat.le_refl _) _⟩)
set_option maxHeartbeats 1000000 in
theorem fetch_nil (a : Int) (h0 : 0 ≤ a) (w : World) : Calls Tryz.prog 18 #[.pointer none, .int .u64 a] w fun e w' => e = .returned (.tuple #[.int .u32 0, faultV 3 a]) ∧ Bl w w' := by
  by_cases hodd : a % 2 = 0
  · have t1 : (a % 2 != 0) = false := by simp [hodd]
    clear hodd
    have c1 := fun W => half_nil a W
    have C1 := Lib.hid c1; clear c1
    go_enter Tryz.func18, Tryz.ntmps18
    go_wp2_with fail
    refine (C1.out _).mono ?_
    rintro e w1 ⟨rfl, kk⟩
    have hb := new2 w w1 _ _ _ kk
    have k1 := (Bl.new w (.cells #[.int .i64 0, .int .u64 0] 50)).trans kk
    clear C1 kk
    have hb2 := (Bl.new w1 (.cells #[.int .i64 3, .int .u64 a] 50)).at_ hb
    have hb3 := heap_alloc_new w1 (.cells #[.int .i64 3, .int .u64 a] 50)
    have K2 := Lib.hid (k1.alloc (.cells #[.int .i64 3, .int .u64 a] 50))
    obtain ⟨d0, d1⟩ := two_cells hb2
    obtain ⟨d2, d3⟩ := two_cells hb3
    have fz : ∀ i, (w1.alloc (.cells #[.int .i64 3, .int .u64 a] 50)).frozen? ⟨w.heap.size, i, none⟩ = false := fun i => by simp [World.frozen?, hb2]
    have f00 := fz 0
    have f01 := fz 1
    have HB2 := Lib.hid hb2
    have hlt1 : w.heap.size < w1.heap.size := lt_at hb
    clear hb k1 hb2 hb3 fz
    unfold faultV
    go_wp2_with fail
    generalize w1.alloc (.cells #[.int .i64 3, .int .u64 a] 50) = W at *
    go_region
    all_goals (
      (try go_wp2_with fail)
      (try simp only [Exit.inBlock, Exit.then])
      refine bodyPost_ret (results_tmp_row rfl _ _ w.heap.size 50 _ (0, 0) _ rfl (set2 _ _ HB2.out) Tryz.underlying50 rfl (by kernel_rfl)) rfl ?_
      exact ⟨rfl, (K2.out.drew.set (Nat.le_refl _) _).set (Nat.le_refl _) _⟩)
  · have t1 : (a % 2 != 0) = true := by simp [hodd]
    clear hodd
    go_enter Tryz.func18, Tryz.ntmps18
    go_wp2_with fail
    (try simp only [Exit.inBlock, Exit.then])
    refine bodyPost_ret (results_tmp_row rfl _ _ w.heap.size 50 _ (0, 0) _ rfl (heap_alloc_new w _) Tryz.underlying50 rfl (by kernel_rfl)) rfl ?_
    exact ⟨rfl, Bl.new _ _⟩
set_option maxHeartbeats 1000000 in
theorem store_nil (a n x : Int) (w : World) : Calls Tryz.prog 23 #[.pointer none, .int .u64 a, .int .i64 n, .int .u64 x] w fun e w' => e = .returned (faultV 2 a) ∧ Bl w w' := by
  have cp : ∀ W, Calls Tryz.prog 47 #[.pointer none, .int .u64 a, .int .i64 n] W fun e w' => e = .returned (faultV 2 a) ∧ Bl W w' := fun W => by
    have cf := fun W => fault_nil 2 a n 2 W
    have CF := Lib.hid cf; clear cf
    go_enter Tryz.func47, Tryz.ntmps47
    go_wp2_with fail
    refine (CF.out _).mono ?_
    rintro e w1 ⟨rfl, kk⟩
    have hb := new2 W w1 _ _ _ kk
    obtain ⟨d0, d1⟩ := two_cells hb
    have k1 := (Bl.new W (.cells #[.int .i64 0, .int .u64 0] 50)).trans kk
    have f0 : ∀ i, w1.frozen? ⟨W.heap.size, i, none⟩ = false := fun i => by simp [World.frozen?, hb]
    have f00 := f0 0
    have f01 := f0 1
    have HB := Lib.hid hb; clear hb
    have K1 := Lib.hid k1; clear k1 kk f0
    unfold faultV
    go_wp2_with fail
    (try simp only [Exit.inBlock, Exit.then])
    refine bodyPost_ret (results_cell_row rfl _ _ W.heap.size 50 _ (0, 0) _ rfl (set2 _ _ HB.out) Tryz.underlying50 rfl (by kernel_rfl)) rfl ?_
    exact ⟨rfl, (K1.out.set (Nat.le_refl _) _).set (Nat.le_refl _) _⟩
  have CP := Lib.hid cp; clear cp
  go_enter Tryz.func23, Tryz.ntmps23
  go_wp2_with fail
  refine (CP.out _).mono ?_
  rintro e w1 ⟨rfl, kk⟩
  have hb := new2 w w1 _ _ _ kk
  have k1 := (Bl.new w (.cells #[.int .i64 0, .int .u64 0] 50)).trans kk
  clear CP kk
  unfold faultV
  have hb2 := (Bl.new w1 (.cells #[.int .i64 2, .int .u64 a] 50)).at_ hb
  obtain ⟨d0, d1⟩ := two_cells hb2
  obtain ⟨d2, d3⟩ := two_cells (heap_alloc_new w1 (.cells #[.int .i64 2, .int .u64 a] 50))
  have f0 : ∀ i, (w1.alloc (.cells #[.int .i64 2, .int .u64 a] 50)).frozen? ⟨w.heap.size, i, none⟩ = false := fun i => by simp [World.frozen?, hb2]
  have f00 := f0 0
  have f01 := f0 1
  have HB2 := Lib.hid hb2; clear hb2
  have K2 := Lib.hid (k1.alloc (.cells #[.int .i64 2, .int .u64 a] 50))
  clear hb k1 f0
  go_wp2_with fail
  (try simp only [Exit.inBlock, Exit.then])
  refine bodyPost_ret (results_cell_row rfl _ _ w.heap.size 50 _ (0, 0) _ rfl (set2 _ _ HB2.out) Tryz.underlying50 rfl (by kernel_rfl)) rfl ?_
  exact ⟨rfl, (K2.out.set (Nat.le_refl _) _).set (Nat.le_refl _) _⟩
theorem check_nil (a n p : Int) (w : World) : Calls Tryz.prog 25 #[.pointer none, .int .u64 a, .int .i64 n, .int .i64 p] w fun e w' => e = .returned (.int .i64 14) ∧ w = w' := by
  go_enter Tryz.func25, Tryz.ntmps25
  go_wp2_with fail
  go_ret
  exact ⟨rfl, rfl⟩
theorem in_nil (a n : Int) (w : World) : Calls Tryz.prog 19 #[.pointer none, .int .u64 a, .int .i64 n] w fun e w' => e = .returned (.tuple #[.slice none 0 0, .int .i64 14]) ∧ w = w' := by
  go_enter Tryz.func19, Tryz.ntmps19
  go_wp2_with fail
  refine (check_nil a n 1 _).mono ?_
  rintro e w' ⟨rfl, rfl⟩
  go_wp2_with fail
  go_ret2
  exact ⟨rfl, rfl⟩
theorem out_nil (a : Int) (w : World) : Calls Tryz.prog 24 #[.pointer none, .int .u64 a, .slice none 0 0] w fun e w' => e = .returned (.int .i64 14) ∧ w = w' := by
  go_enter Tryz.func24, Tryz.ntmps24
  go_wp2_with fail
  refine (check_nil a 0 2 _).mono ?_
  rintro e w' ⟨rfl, rfl⟩
  go_wp2_with fail
  go_ret
  exact ⟨rfl, rfl⟩
theorem text_nil (a n : Int) (w : World) : Calls Tryz.prog 20 #[.pointer none, .int .u64 a, .int .i64 n] w fun e w' => e = .returned (.tuple #[.string ⟨#[]⟩, .int .i64 14]) ∧ w = w' := by
  go_enter Tryz.func20, Tryz.ntmps20
  go_wp2_with fail
  go_ret2
  exact ⟨rfl, rfl⟩
theorem setbrk_nil (a : Int) (w : World) : Calls Tryz.prog 21 #[.pointer none, .int .u64 a] w fun e w' => e = .returned (.tuple #[]) ∧ w = w' := by
  go_enter Tryz.func21, Tryz.ntmps21
  go_wp2_with fail
  (try simp only [Exit.inBlock, Exit.then]); refine bodyPost_ret (results_none rfl _ _ _) rfl ?_
  exact ⟨rfl, rfl⟩
theorem put_nil (a : Int) (v : Value) (w : World) : Calls Tryz.prog 22 #[.pointer none, .int .u64 a, v] w fun e w' => e = .returned (.tuple #[]) ∧ w = w' := by
  go_enter Tryz.func22, Tryz.ntmps22
  go_wp2_with fail
  (try simp only [Exit.inBlock, Exit.then]); refine bodyPost_ret (results_none rfl _ _ _) rfl ?_
  exact ⟨rfl, rfl⟩
theorem brk_nil (a : Int) (w : World) : Calls Tryz.prog 26 #[.pointer none, .int .u64 a] w fun e w' => e = .returned (.int .u64 0) ∧ w = w' := by
  go_enter Tryz.func26, Tryz.ntmps26
  go_wp2_with fail
  go_ret
  exact ⟨rfl, rfl⟩
theorem unmap_nil (a n : Int) (w : World) : Calls Tryz.prog 27 #[.pointer none, .int .u64 a, .int .u64 n] w fun e w' => e = .returned (.int .i64 22) ∧ w = w' := by
  go_enter Tryz.func27, Tryz.ntmps27
  go_wp2_with fail
  go_ret
  exact ⟨rfl, rfl⟩
theorem protect_nil (a n p : Int) (w : World) : Calls Tryz.prog 28 #[.pointer none, .int .u64 a, .int .u64 n, .int .i64 p] w fun e w' => e = .returned (.int .i64 22) ∧ w = w' := by
  go_enter Tryz.func28, Tryz.ntmps28
  go_wp2_with fail
  go_ret
  exact ⟨rfl, rfl⟩
theorem map_nil (a n p : Int) (fx : Bool) (w : World) : Calls Tryz.prog 16 #[.pointer none, .int .u64 a, .int .u64 n, .int .i64 p, .bool fx] w fun e w' => e = .returned (.tuple #[.int .u64 0, .int .i64 22]) ∧ w = w' := by
  go_enter Tryz.func16, Tryz.ntmps16
  go_wp2_with fail
  go_ret2
  exact ⟨rfl, rfl⟩
theorem mcopy_nil (w : World) : Calls Tryz.prog 15 #[.pointer none] w fun e w' => e = .returned (.pointer none) ∧ w = w' := by
  go_enter Tryz.func15, Tryz.ntmps15
  go_wp2_with fail
  go_ret
  exact ⟨rfl, rfl⟩
theorem mpages_nil (w : World) : Calls Tryz.prog 29 #[.pointer none] w fun e w' => e = .returned (.int .i64 0) ∧ w = w' := by
  go_enter Tryz.func29, Tryz.ntmps29
  go_wp2_with fail
  go_ret
  exact ⟨rfl, rfl⟩
theorem mregions_nil (w : World) : Calls Tryz.prog 14 #[.pointer none] w fun e w' => e = .returned (.slice none 0 0) ∧ w = w' := by
  go_enter Tryz.func14, Tryz.ntmps14
  go_wp2_with fail
  go_ret
  exact ⟨rfl, rfl⟩
theorem mstamp_nil (a : Int) (w : World) : Calls Tryz.prog 7 #[.pointer none, .int .u64 a] w fun e w' => e = .returned (.int .u64 0) ∧ w = w' := by
  go_enter Tryz.func7, Tryz.ntmps7
  go_wp2_with fail
  go_ret
  exact ⟨rfl, rfl⟩
theorem mpeek_nil (a n : Int) (w : World) : Calls Tryz.prog 8 #[.pointer none, .int .u64 a, .int .i64 n] w fun e w' => e = .returned (.slice none 0 0) ∧ w = w' := by
  go_enter Tryz.func8, Tryz.ntmps8
  go_wp2_with fail
  go_ret
  exact ⟨rfl, rfl⟩
end Go.Proofs.YtepffglljmekiaaGreat

set_option linter.unusedVariables false
set_option linter.unusedSimpArgs false
namespace Go.Proofs.YtepffglljmekiaaGreat
open Go.RowKit
set_option maxRecDepth 100000
theorem both_step2 {w V W5 : World} {sb n rb : Nat} {L : List Rg} {M st : Nat → Int} {ba en b0 e0 : Int} (hms : MS (from_ w.heap.size) V sb n L M st 50 ba en) (hn : n ≤ 4000000) (hwV : Bl w V) (k : Bl V W5) (hra : RA W5 rb b0 e0) (hrb : V.heap.size ≤ rb)
    (d m p ad sz : Int) (fx : Bool) (A : Option Addr) (l c : Nat) (xs : List Int) (hby : BytesIn w A l c xs) (hl : l ≤ 6000) (had : Wd ad) (hsz : Wd sz) :
    Calls Tryz.prog 10 #[addr0 sb, addr0 rb, .agg #[.int .i64 d, .int .i64 m, .int .i64 p, .int .u64 ad, .int .u64 sz, .bool fx, .slice A l c]] W5 fun r w' => (∃ s t, r = .returned (.tuple #[.string s, .string t])) ∧ Left (gap (from_ w.heap.size) V.heap.size W5.heap.size) sb n L M st 50 (Quiet d) w' ∧ Fr (plus (gap (from_ w.heap.size) V.heap.size W5.heap.size) rb) W5 w' :=
  both_any (hms.gap k V.heap.size W5.heap.size (Nat.le_refl _)) (by omega) (gap_new (fun b hb => Nat.le_trans hwV.size hb) V.heap.size k.size) hra (fun h => h.2 ⟨hrb, lt_at hra.blk⟩) d m p ad sz fx A l c xs (hby.rd.below (hwV.trans k)) hby.len hby.cap hby.nil hby.bd
    (fun h0 ad' e h => by have h1 := hby.lt h0 ad' e; have h2 : w.heap.size ≤ ad'.block := h.1; omega) hl had hsz
theorem left_next {w V W5 w6 : World} {sb n rb : Nat} {L : List Rg} {M st : Nat → Int} {q : Prop} (hwV : Bl w V) (k : Bl V W5) (hrb : V.heap.size ≤ rb) (hl : Left (gap (from_ w.heap.size) V.heap.size W5.heap.size) sb n L M st 50 q w6) (hf : Fr (plus (gap (from_ w.heap.size) V.heap.size W5.heap.size) rb) W5 w6) :
    Bl w w6 ∧ ∃ L' M' st' ba' en', MS (from_ w.heap.size) w6 sb (n + 40000) L' M' st' 50 ba' en' := by
  have z1 := hwV.size
  refine ⟨Fr.from_bl (hwV.trans k) (hf.mono fun b _ h => ?_), ?_⟩
  · rcases h with h | h
    · exact h.1
    · have h3 : b = rb := h
      show w.heap.size ≤ b
      omega
  · obtain ⟨L', M', st', ba', en', e1, _⟩ := hl.bl_un (Bl.refl _)
    exact ⟨L', M', st', ba', en', e1⟩
def PlR (w : World) (sb n0 : Nat) (v : Value) (wr : World) : Prop := ∃ (k n : Nat) (L : List Rg) (M st : Nat → Int) (ba en : Int), k ≤ 30 ∧ v = .int .i64 k ∧ n ≤ n0 + 40000 * k ∧ MS (from_ w.heap.size) wr sb n L M st 50 ba en ∧ Bl w wr
/-- What is left behind many calls. -/
def Played (w : World) (sb n0 : Nat) (w' : World) : Prop := (∃ (n : Nat) (L : List Rg) (M st : Nat → Int) (ba en : Int), n ≤ n0 + 1200000 ∧ MS (from_ w.heap.size) w' sb n L M st 50 ba en) ∧ Bl w w'
def Act7 (w : World) (b o : Nat) (v0 v1 v2 v3 v4 v5 v6 : Value) : Prop := w.cell? ⟨b, o, none⟩ = some v0 ∧ w.cell? ⟨b, o + 1, none⟩ = some v1 ∧ w.cell? ⟨b, o + 2, none⟩ = some v2 ∧ w.cell? ⟨b, o + 3, none⟩ = some v3 ∧ w.cell? ⟨b, o + 4, none⟩ = some v4 ∧ w.cell? ⟨b, o + 5, none⟩ = some v5 ∧ w.cell? ⟨b, o + 6, none⟩ = some v6
theorem Act7.bl {w w' : World} {b o : Nat} {v0 v1 v2 v3 v4 v5 v6 : Value} (h : Act7 w b o v0 v1 v2 v3 v4 v5 v6) (k : Bl w w') : Act7 w' b o v0 v1 v2 v3 v4 v5 v6 := by
  obtain ⟨c0, c1, c2, c3, c4, c5, c6⟩ := h
  exact ⟨k.cell' c0, k.cell' c1, k.cell' c2, k.cell' c3, k.cell' c4, k.cell' c5, k.cell' c6⟩
set_option maxHeartbeats 4000000 in
theorem play_any {w V : World} {sb n0 : Nat} {L : List Rg} {M st : Nat → Int} {ba en : Int} (hms : MS (from_ w.heap.size) V sb n0 L M st 50 ba en) (hn0 : n0 ≤ 2000000) (hwV : Bl w V) (a0 : Option Addr) (len0 cap0 : Nat) (w0 : ActsZ w a0 len0) (hlen : len0 ≤ 9223372036854775807) :
    Calls Tryz.prog 13 #[addr0 sb, .slice a0 len0 cap0] V fun e w' => e = .returned (.tuple #[]) ∧ Played w sb n0 w' := by
  have HA := Lib.hid w0; clear w0
  have hlI : (len0 : Int) ≤ 9223372036854775807 := by omega
  have hl0 : (0 : Int) ≤ (len0 : Int) := by omega
  have H0 := Lib.hid hms; clear hms
  have HV0 := Lib.hid hwV; clear hwV
  unfold addr0
  go_enter Tryz.func13, Tryz.ntmps13
  go_wp2_with fail
  go_loopw [4] (fun v4 wr => PlR w sb n0 v4 wr) (fun v4 _ => 30 - (intOf v4).toNat)
  case atStart => exact ⟨0, n0, L, M, st, ba, en, by omega, rfl, by omega, H0.out, HV0.out⟩
  case round =>
    clear H0 HV0
    obtain ⟨k, n, L, M, st, ba, en, hk, rfl, hn, hms, hbl⟩ := hrel
    obtain ⟨V, hV⟩ : ∃ V, V = wr := ⟨_, rfl⟩
    subst hV
    have HM := Lib.hid hms; clear hms
    have HB := Lib.hid hbl; clear hbl
    have HN := Lib.hid hn; clear hn
    have hkI : (k : Int) ≤ 30 := by omega
    by_cases hgo : k < len0 ∧ k < 30
    · obtain ⟨g1, g2⟩ := hgo
      obtain ⟨b, off, ha, hcs⟩ := HA.out (by omega)
      subst ha
      obtain ⟨d, m, p, ad, sz, fx, A, l, c, xs, c0, c1, c2, c3, c4, c5, c6, had, hsz, hby⟩ := hcs k g1
      have HA0 := Lib.hid (show Act7 w b (off + k * 7) _ _ _ _ _ _ _ from ⟨c0, c1, c2, c3, c4, c5, c6⟩)
      have hS := HA0.out.bl HB.out
      have d6 := hS.2.2.2.2.2.2
      have HBY := Lib.hid hby; clear hby hcs c0 c1 c2 c3 c4 c5 c6
      have HS := Lib.hid hS; clear hS
      have HAD := Lib.hid had; clear had
      have HSZ := Lib.hid hsz; clear hsz
      have g1I : (k : Int) < (len0 : Int) := by omega
      have g2I : (k : Int) < 30 := by omega
      have hl2 : (l : Int) ≤ 9223372036854775807 := by have := HBY.out.le; omega
      by_cases hlong : 6000 < l
      · have hlongI : (6000 : Int) < (l : Int) := by omega
        clear hlong
        go_wp2_with fail
        exact ⟨⟨k + 1, n, L, M, st, ba, en, by omega, by go_num, by have := HN.out; omega, HM.out, HB.out⟩, by simp only [intOf]; omega⟩
      · have hlongI : (l : Int) ≤ 6000 := by omega
        clear hlong
        go_wp2_with fail
        clear d6
        have hS := HS.out
        unfold Act7 at hS
        go_region_held3 (fun w' => w'.cell? ⟨b, off + k * 7, none⟩ = some (.int .i64 d) ∧ w'.cell? ⟨b, off + k * 7 + 1, none⟩ = some (.int .i64 m) ∧ w'.cell? ⟨b, off + k * 7 + 2, none⟩ = some (.int .i64 p) ∧ w'.cell? ⟨b, off + k * 7 + 3, none⟩ = some (.int .u64 ad) ∧ w'.cell? ⟨b, off + k * 7 + 4, none⟩ = some (.int .u64 sz) ∧ w'.cell? ⟨b, off + k * 7 + 5, none⟩ = some (.bool fx) ∧ w'.cell? ⟨b, off + k * 7 + 6, none⟩ = some (.slice A l c)) (first | assumption | exact (HS.out.bl ((Bl.refl V).drewN 1))) (first | (go_at_call 11; refine (rnew_any _).mono ?_; rintro e w5 ⟨rfl, hra, k5⟩; have hra2 : RA w5 V.heap.size 0 0 := (by simpa using hra); have k6 : Bl V w5 := Bl.trans (by first | exact Bl.refl _ | exact (Bl.refl V).drewN 1) k5; have hS5 := HS.out.bl k6; unfold Act7 at hS5) | (go_at_call 10; refine (both_step2 HM.out (by have := HN.out; omega) HB.out k6 hra2 (Nat.le_refl _) d m p ad sz fx A l c xs HBY.out (by omega) HAD.out HSZ.out).mono ?_; rintro e w6 ⟨⟨s1, s2, rfl⟩, hleft, hfr⟩; have hbe := left_next HB.out k6 (Nat.le_refl _) hleft hfr; have hS6 := HA0.out.bl hbe.1; unfold Act7 at hS6))
        all_goals (
          obtain ⟨q1, L', M', st', ba', en', q2⟩ := hbe
          have Q1 := Lib.hid q1
          have Q2 := Lib.hid q2
          clear q1 q2 hleft hfr hS hS5 hS6 hra hra2 k6 k5
          go_wp2_with fail
          exact ⟨⟨k + 1, n + 40000, L', M', st', ba', en', by omega, by go_num, by have := HN.out; omega, Q2.out, Q1.out⟩, by simp only [intOf]; omega⟩)
    · have hgo2 : len0 ≤ k ∨ 30 ≤ k := by omega
      clear hgo
      by_cases hl : k < len0
      · obtain rfl : k = 30 := by omega
        have hlI2 : (30 : Int) < (len0 : Int) := by omega
        clear hl hgo2
        go_wp2_with fail
        go_end0
        exact ⟨rfl, ⟨n, L, M, st, ba, en, by have := HN.out; omega, HM.out⟩, HB.out⟩
      · have hlI2 : (len0 : Int) ≤ (k : Int) := by omega
        clear hl hgo2
        go_wp2_with fail
        go_end0
        exact ⟨rfl, ⟨n, L, M, st, ba, en, by have := HN.out; omega, HM.out⟩, HB.out⟩
end Go.Proofs.YtepffglljmekiaaGreat

set_option linter.unusedVariables false
namespace Go.Proofs.YtepffglljmekiaaGreat
open Go

section
variable {P : Program} {ops : Array Oper} {Q : Exit → Act → World → Prop} {md : Region.Mode} {S : World → Prop} {n : Nat} {L : Act → World → Prop}

/-- The head's operations in whatever order, S behind each; behind them L. -/
def wpHd (P : Program) (md : Region.Mode) (ops : Array Oper) (Q : Exit → Act → World → Prop) (S : World → Prop) (n : Nat) (L : Act → World → Prop) : Nat → Array Bool → Act → World → Prop
  | 0, listed, a, w => Region.seqB md ops (ops.size - n) n listed = true ∧ L a w
  | f + 1, listed, a, w => Region.ready md ops listed ≠ [] ∧ ∀ i ∈ Region.ready md ops listed, i < n ∧ wpOp P ops Q i (fun a' w' => S w' ∧ wpHd P md ops Q S n L f (listed.setIfInBounds i true) a' w') a w

theorem wpAny_of_hd (hL : ∀ listed a w, Region.seqB md ops (ops.size - n) n listed = true → L a w → wpAny P md ops Q (ops.size - n) listed a w) :
    ∀ (f : Nat) (listed : Array Bool) (a : Act) (w : World), wpHd P md ops Q S n L f listed a w → wpAny P md ops Q (f + (ops.size - n)) listed a w
  | 0, listed, a, w, h => by rw [Nat.zero_add]; exact hL _ _ _ h.1 h.2
  | f + 1, listed, a, w, h => by
    rw [show f + 1 + (ops.size - n) = (f + (ops.size - n)) + 1 by omega]
    exact ⟨fun h0 => absurd h0 h.1, fun i hi => wpOp_mono (fun a' w' h' => wpAny_of_hd hL f _ a' w' h'.2) (h.2 i hi).2⟩

theorem wpHd_first {i : Nat} {oi : Oper} {v : Value} (hi : ops[i]? = some oi) (hsel : ∀ (j : Nat) (o : Oper) cs b, ops[j]? = some o → o.op ≠ .select cs b)
    (hQ : ∀ c a w, Q (.panic c) (a.put oi.dst v) w → Q (.panic c) a w)
    (hs : Region.sinkB md ops n = true) (hc : Region.chainB md ops n = true) (hn : n < ops.size) (hin : i < n) :
    ∀ (f : Nat) (listed : Array Bool) (a : Act) (w : World), HeadInv md ops n listed →
      (∀ j oj, ops[j]? = some oj → j ≠ i → listed.getD j true = false → (∀ e ∈ oj.after, Region.binds md e = true → e.on ≠ i) → oi.apart ops oj = true) →
      i ∈ Region.ready md ops listed → YieldsIf P ops S oi v a → S w →
      wpHd P md ops Q S n L f (listed.setIfInBounds i true) (a.put oi.dst v) w → wpHd P md ops Q S n L (f + 1) listed a w := by
  intro f
  induction f with
  | zero =>
    intro listed a w inv _ hr hy hS H
    have hun := (mem_ready.1 hr).1
    refine ⟨fun h => (by rw [h] at hr; cases hr), fun j hj => ?_⟩
    have hjn : j < n := by
      rcases Nat.lt_or_ge j n with h | h
      · exact h
      · exact absurd hj (tail_waits hs hc hn inv _ i rfl hin hun j h)
    refine ⟨hjn, ?_⟩
    by_cases hji : j = i
    · subst hji; exact hy.wpOp hi hS ⟨hS, H⟩
    · have := seqB_ready H.1 j (ready_mono hj hji)
      omega
  | succ f ih =>
    intro listed a w inv hfree hr hy hS H
    have hun := (mem_ready.1 hr).1
    refine ⟨fun h => (by rw [h] at hr; cases hr), fun j hj => ?_⟩
    have hjn : j < n := by
      rcases Nat.lt_or_ge j n with h | h
      · exact h
      · exact absurd hj (tail_waits hs hc hn inv _ i rfl hin hun j h)
    refine ⟨hjn, ?_⟩
    by_cases hji : j = i
    · subst hji; exact hy.wpOp hi hS ⟨hS, H⟩
    · have h1 := (H.2 j (ready_mono hj hji)).2
      obtain ⟨hjun, oj, hoj, hall⟩ := mem_ready.1 hj
      have hnot : ∀ e ∈ oj.after, Region.binds md e = true → e.on ≠ i := fun e he hb heq => by
        have h1 := hall e he hb
        rw [heq, getD_both hun] at h1
        cases h1
      have h2 := wpOp_putIf hoj (hfree j oj hoj hji hjun hnot) (fun cs b => hsel i oi cs b hi) (fun cs b => hsel j oj cs b hoj) hQ hy h1
      have hfree' : ∀ k ok, ops[k]? = some ok → k ≠ i → (listed.setIfInBounds j true).getD k true = false →
          (∀ e ∈ ok.after, Region.binds md e = true → e.on ≠ i) → oi.apart ops ok = true := fun k ok hk hki hun hno => by
        refine hfree k ok hk hki ?_ hno
        by_cases hjk : j = k
        · subst hjk; exact hjun
        · rw [getD_set_ne true hjk] at hun; exact hun
      refine wpOp_mono (fun a' w' h3 => ⟨h3.2.1, ih (listed.setIfInBounds j true) a' w' (inv.set hj hjn) hfree' (ready_mono hr (Ne.symm hji)) h3.1 h3.2.1 ?_⟩) h2
      rw [Array.setIfInBounds_comm _ _ hji]
      exact h3.2.2

/-- What is listed is listed with all that it waits for; nothing of the tail is. -/
def headB (md : Region.Mode) (ops : Array Oper) (n : Nat) (listed : Array Bool) : Bool :=
  decide (listed.size = ops.size) &&
  ((List.range ops.size).all fun j => !(listed.getD j false) || match ops[j]? with | some oj => oj.after.all fun e => !(Region.binds md e) || listed.getD e.on false | none => true) &&
  ((List.range ops.size).all fun t => decide (t < n) || !(listed.getD t true))
theorem headB_spec {listed : Array Bool} (h : headB md ops n listed = true) : HeadInv md ops n listed := by
  simp only [headB, Bool.and_eq_true, decide_eq_true_eq, List.all_eq_true, List.mem_range] at h
  obtain ⟨⟨h1, h2⟩, h3⟩ := h
  refine ⟨h1, fun j oj hj hl e he hb => ?_, fun t ht ht' => ?_⟩
  · have := h2 j (Array.getElem?_eq_some_iff.1 hj).1
    rw [hl, hj] at this
    have h5 : (oj.after.all fun e => !(Region.binds md e) || listed.getD e.on false) = true := by simpa only [Bool.not_true, Bool.false_or] using this
    have h4 := Array.all_eq_true_iff_forall_mem.1 h5 e he
    rw [hb] at h4
    simpa only [Bool.not_true, Bool.false_or] using h4
  · have := h3 t ht'
    simp only [Bool.or_eq_true, decide_eq_true_eq, Bool.not_eq_true'] at this
    rcases this with h | h
    · omega
    · exact h

/-- The tail waits, the region chooses nothing, the listed are closed: what each take asks of the text alone. -/
def takeB (md : Region.Mode) (ops : Array Oper) (n : Nat) (listed : Array Bool) (i : Nat) : Bool :=
  Region.noSelect ops && Region.sinkB md ops n && Region.chainB md ops n && decide (n < ops.size) && decide (i < n) && headB md ops n listed && Region.free md ops listed i && (Region.ready md ops listed).contains i

/-- An operation that yields its value in every world that meets S is taken first. -/
theorem wpHd_take {i : Nat} {oi : Oper} {v : Value} {f : Nat} {listed : Array Bool} {a : Act} {w : World} (hi : ops[i]? = some oi) (hB : takeB md ops n listed i = true)
    (hQ : ∀ c a w, Q (.panic c) (a.put oi.dst v) w → Q (.panic c) a w) (hy : YieldsIf P ops S oi v a) (hS : S w)
    (h : wpHd P md ops Q S n L f (listed.setIfInBounds i true) (a.put oi.dst v) w) : wpHd P md ops Q S n L (f + 1) listed a w := by
  simp only [takeB, Bool.and_eq_true, decide_eq_true_eq] at hB
  obtain ⟨⟨⟨⟨⟨⟨⟨h1, h2⟩, h3⟩, h4⟩, h5⟩, h6⟩, h7⟩, h8⟩ := hB
  exact wpHd_first hi (Region.noSelect_spec h1) hQ h2 h3 h4 h5 f listed a w (headB_spec h6) (Region.free_spec hi h7) (by simpa using h8) hy hS h

/-- One operation alone may come up. -/
theorem wpHd_one {i : Nat} {o : Oper} {f : Nat} {listed : Array Bool} {a : Act} {w : World} (ho : ops[i]? = some o) (hB : (decide (Region.ready md ops listed = [i]) && decide (i < n)) = true)
    (h : ∀ K' : Act → World → Prop, Shut (∀ a w, S w → (S w → wpHd P md ops Q S n L f (listed.setIfInBounds i true) a w) → K' a w) → if Region.wanted o (yielded ops a.tmps) = true then Oper.wp P o a w K' Q else K' (a.put o.dst undef) w) :
    wpHd P md ops Q S n L (f + 1) listed a w := by
  simp only [Bool.and_eq_true, decide_eq_true_eq] at hB
  refine ⟨by rw [hB.1]; simp, fun j hj => ?_⟩
  rw [hB.1] at hj
  obtain rfl : j = i := by simpa using hj
  exact ⟨hB.2, wpOp_step ho (fun K' hK => h K' (fun a w hS hW => hK a w ⟨hS, hW hS⟩))⟩

/-- Two operations may come up. -/
theorem wpHd_two {i j : Nat} {o o' : Oper} {f : Nat} {listed : Array Bool} {a : Act} {w : World} (ho : ops[i]? = some o) (ho' : ops[j]? = some o') (hB : (decide (Region.ready md ops listed = [i, j]) && decide (i < n) && decide (j < n)) = true)
    (h : ∀ K' : Act → World → Prop, Shut (∀ a w, S w → (S w → wpHd P md ops Q S n L f (listed.setIfInBounds i true) a w) → K' a w) → if Region.wanted o (yielded ops a.tmps) = true then Oper.wp P o a w K' Q else K' (a.put o.dst undef) w)
    (h' : ∀ K' : Act → World → Prop, Shut (∀ a w, S w → (S w → wpHd P md ops Q S n L f (listed.setIfInBounds j true) a w) → K' a w) → if Region.wanted o' (yielded ops a.tmps) = true then Oper.wp P o' a w K' Q else K' (a.put o'.dst undef) w) :
    wpHd P md ops Q S n L (f + 1) listed a w := by
  simp only [Bool.and_eq_true, decide_eq_true_eq] at hB
  refine ⟨by rw [hB.1.1]; simp, fun x hx => ?_⟩
  rw [hB.1.1] at hx
  rcases List.mem_cons.1 hx with rfl | hx
  · exact ⟨hB.1.2, wpOp_step ho (fun K' hK => h K' (fun a w hS hW => hK a w ⟨hS, hW hS⟩))⟩
  · obtain rfl : x = j := by simpa using hx
    exact ⟨hB.2, wpOp_step ho' (fun K' hK => h' K' (fun a w hS hW => hK a w ⟨hS, hW hS⟩))⟩

/-- The region. -/
theorem wp_region_hd {id : Nat} {l : List Oper} {a : Act} {w : World} (n : Nat) (S : World → Prop) (hm : P.follows .mixedOrders = true) (hn : n < l.length) (hS : S w.drew)
    (h : S w.drew → wpHd P .any l.toArray Q S n (fun a' w' => wpList P l.toArray Q (l.drop n) a' w') n (Array.replicate l.toArray.size false) a w.drew) : (Code.region id l.toArray true).wp P Q a w := by
  have hdl : (l.drop n).length = l.toArray.size - n := by simp
  refine wp_region_any hm ?_
  have := wpAny_of_hd (P := P) (md := .any) (ops := l.toArray) (Q := Q) (S := S) (n := n) (fun listed a' w' hB hL => by
    have := wpAny_of_seq (md := .any) (Q' := Q) (l.drop n) n listed a' w' (fun j => by simp [List.getElem?_drop]) (by rw [hdl]; exact hB) hL
    rwa [hdl] at this) _ _ _ _ (h hS)
  rw [show n + (l.toArray.size - n) = l.toArray.size by simp; omega] at this
  exact this
end
end Go.Proofs.YtepffglljmekiaaGreat

set_option linter.unusedVariables false
set_option linter.unusedSimpArgs false
namespace Go.Proofs.YtepffglljmekiaaGreat
open Go.RowKit
set_option maxRecDepth 100000
section
variable {P : Program} (w : World) {ops : Array Oper} {rest : List Oper} {o : Oper} {a : Act} {Q : Exit → Act → World → Prop}
theorem wpl_load_run (hg : o.guard = none) (x : Operand) (t : TypeId) (hop : o.op = Op.load t x) (vx v1 : Value) (hx : a.eval x = vx) (hrun : (Instr.loadAt t vx).run P w = .ok v1 w) (hK : wpList P ops Q rest (a.put o.dst v1) w) : wpList P ops Q (o :: rest) a w := by
  refine wpList_plain hg fun K' hK' => ?_
  unfold Oper.wp
  simp [execOp, hop, hx, hrun, Result.andThen]
  exact hK' _ _ hK
theorem wpl_store_run {w1 : World} (hg : o.guard = none) (x v : Operand) (t : TypeId) (hop : o.op = Op.store t x v) (vx vv : Value) (hx : a.eval x = vx) (hv : a.eval v = vv) (hrun : (Instr.storeAt t vx vv).run P w = .ok () w1) (hK : wpList P ops Q rest (a.put o.dst undef) w1) : wpList P ops Q (o :: rest) a w := by
  refine wpList_plain hg fun K' hK' => ?_
  unfold Oper.wp
  simp [execOp, hop, hx, hv, hrun, Result.andThen]
  exact hK' _ _ hK
end
theorem size53 : (Tryz.prog.info? 115).map (·.size) = some 4096 := by
  have := info53
  rcases h : Tryz.prog.info? 115 with _ | i
  · rw [h] at this; cases this
  · rw [h] at this; simp at this; simp [this.2]
theorem load53 {w : World} {b : Nat} {xs : List Int} (h : w.heap[b]? = some (.cells (asBytes xs).toArray 115 (0, 0))) (hl : xs.length = 4096) :
    (Instr.loadAt 115 (.pointer (some ⟨b, 0, none⟩))).run Tryz.prog w = .ok (.agg (asBytes xs).toArray) w := by
  simp only [Instr.loadAt, Instr.sureAddr, Sem.run_bind, Sem.run_pure, Result.andThen]
  rw [run_loadVar_row (P := Tryz.prog) w b 115 115 _ (0, 0) _ h Tryz.underlying115 rfl (by rw [size53, List.size_toArray, asBytes_length, hl])]
theorem store53 (w : World) (xs : List Int) (hl : xs.length = 4096) :
    (Instr.storeAt 115 (.pointer (some ⟨w.heap.size, 0, none⟩)) (.agg (asBytes xs).toArray)).run Tryz.prog (w.alloc (.cells zeros 115)) = .ok () (w.alloc (.cells (asBytes xs).toArray 115)) :=
  run_storeAt_new (P := Tryz.prog) w 115 zeros _ (by rw [size53, List.size_toArray, asBytes_length, hl]) (by simp [zeros, asBytes_length, hl]) (by
    rw [Array.all_eq_true_iff_forall_mem]
    intro v hv
    exact bytes_one xs v (by simpa using hv))
theorem make39 (w : World) (x : Int) : (Instr.makeMap 72 (some (.int .i64 x))).run Tryz.prog w = .ok (.map (some w.heap.size)) (w.alloc (.map #[] 0)) := by
  simp [Instr.makeMap, run_underlying Tryz.underlying72, asInt, asIntOf, Result.andThen]
/-- maps.Clone, of a map and of none. -/
theorem pclone_some (b : Nat) (es : Array MapEntry) (clock : Nat) (w : World) (hb : w.heap[b]? = some (.map es clock)) : Calls Tryz.prog 91 #[.map (some b)] w fun e w' => e = .returned (.map (some w.heap.size)) ∧ w' = w.alloc (.map es clock) := by
  have hq := fun w => eq40 w (some b)
  go_enter Tryz.func91, Tryz.ntmps91
  go_wp2
  rw [run_callFunc_extern Tryz.func116 (by kernel_rfl) (by kernel_rfl) (by kernel_rfl) (e := Extern.MapsClone.clone) (by kernel_rfl), run_maps_clone_sl w 73 hb]
  simp only [Result.andThen]
  rw [Oper.upon_value]
  go_wp2
  rw [run_typeAssert_map_sl _ 73 20 _ _ _ Tryz.underlying73]
  simp only [Result.andThen]
  rw [Oper.upon_value]
  go_wp2
  go_ret
  exact ⟨rfl, rfl⟩
theorem pclone_none (w : World) : Calls Tryz.prog 91 #[.map none] w fun e w' => e = .returned (.map none) ∧ w' = w := by
  have hq := fun w => eq40 w none
  go_enter Tryz.func91, Tryz.ntmps91
  go_wp2
  go_ret
  exact ⟨rfl, rfl⟩
theorem pclone_any {S : Nat → Prop} {w : World} {sm : Value} {n : Nat} {c : Int} {st : Nat → Int} (h : SMV S w sm n c st) : Calls Tryz.prog 91 #[sm] w fun e w' => ∃ y : Option Nat, e = .returned (.map y) ∧ SMV (from_ w.heap.size) w' (.map y) n c st ∧ Bl w w' := by
  rcases h with ⟨rfl, h0⟩ | ⟨B, D, rfl, _, ⟨es, q, hb, F, hs, hD⟩, hg⟩
  · refine (pclone_none w).mono ?_
    rintro e w' ⟨rfl, rfl⟩
    exact ⟨none, rfl, .inl ⟨rfl, h0⟩, Bl.refl _⟩
  · refine (pclone_some B es q w hb).mono ?_
    rintro e w' ⟨rfl, rfl⟩
    exact ⟨some w.heap.size, rfl, .inr ⟨w.heap.size, D, rfl, Nat.le_refl _, ⟨es, q, heap_alloc_new w _, F, hs, hD⟩, hg⟩, Bl.new _ _⟩

/-- Where a Copy stands: the pages that have come are there once more. -/
structure CP (w wr : World) (g n2 : Nat) (f f2 : Nat → Option Nat) (k2 : Nat) (M : Nat → Int) (left : Lit → Bool) : Prop where
  bl : Bl w wr
  ge : w.heap.size ≤ g
  pm : PM wr g n2 f2 k2
  at_ : ∀ p b, f2 p = some b → w.heap.size ≤ b ∧ wr.heap[b]? = some (.cells (asBytes (pageOf M p)).toArray 115 (0, 0))
  inj : ∀ p q b, f2 p = some b → f2 q = some b → p = q
  dom : ∀ p, p < 2 ^ 64 → (f2 p).isSome = ((f p).isSome && !left (key p))
  far : ∀ p b, f2 p = some b → p < 67108864
theorem CP.kept {w wr w' : World} {g n2 k2 : Nat} {f f2 : Nat → Option Nat} {M : Nat → Int} {left : Lit → Bool} (h : CP w wr g n2 f f2 k2 M left) {r : Nat} (hg : wr.grownBy w' (some r)) (hr : w.heap.size ≤ r) (hit : ∃ mp since seen c0, wr.heap[r]? = some (.mapIter mp since seen c0)) : CP w w' g n2 f f2 k2 M left := by
  obtain ⟨mp, since, seen, c0, hit⟩ := hit
  have other : ∀ x o, wr.heap[x]? = some o → x ≠ r → w'.heap[x]? = some o := fun x o hx hne => by
    rw [hg.block x (lt_at hx) (fun e => hne (by injection e))]; exact hx
  obtain ⟨es, q, hmap⟩ := h.pm.isMap
  refine ⟨h.bl.grown hg h.bl.size (fun k hk => by cases hk; exact hr), h.ge, h.pm.of_block ?_, fun p b hb => ⟨(h.at_ p b hb).1, other _ _ (h.at_ p b hb).2 (fun e => ?_)⟩, h.inj, h.dom, h.far⟩
  · rw [other g _ hmap (fun e => by rw [e, hit] at hmap; cases hmap), hmap]
  · have := (h.at_ p b hb).2; rw [e, hit] at this; cases this
/-- One page more. -/
theorem CP.step {w wr : World} {g n2 k2 : Nat} {f f2 : Nat → Option Nat} {M : Nat → Int} {left : Lit → Bool} (h : CP w wr g n2 f f2 k2 M left) {p b : Nat} (hp : p < 67108864) (hf : f p = some b) (hl : left (key p) = true) (hn : n2 < 100000000) :
    ∃ w' k', (Instr.mapUpdate 72 (.map (some g)) (.int .u64 (p : Int)) (.pointer (some ⟨wr.heap.size, 0, none⟩))).run Tryz.prog (wr.alloc (.cells (asBytes (pageOf M p)).toArray 115)) = .ok () w' ∧
      CP w w' g (n2 + 1) f (put1 f2 p (some wr.heap.size)) k' M (fun z => left z && !z.sameKey (key p)) ∧ (wr.alloc (.cells (asBytes (pageOf M p)).toArray 115)).mapTurned w' g := by
  have hbl := Bl.new wr (.cells (asBytes (pageOf M p)).toArray 115)
  have hpm := h.pm.of_block (hbl.block g h.pm.lt)
  obtain ⟨w', hrun, hput, ht⟩ := hpm.put (show p < 2 ^ 64 by omega) (by simp only [maxLen]; omega) wr.heap.size
  have hg := ht.grown
  obtain ⟨es, q, hmap⟩ := hpm.isMap
  have hcell : ∀ (x : Nat) (cs : Array Value) (t : TypeId) (fr : Nat × Nat), (wr.alloc (.cells (asBytes (pageOf M p)).toArray 115)).heap[x]? = some (.cells cs t fr) → w'.heap[x]? = some (.cells cs t fr) := fun x cs t fr hx => by
    rw [hg.block x (lt_at hx) (fun e => by injection e with e; rw [e, hmap] at hx; cases hx)]; exact hx
  have hge := h.ge
  have hsz := h.bl.size
  refine ⟨w', _, hrun, ⟨(h.bl.alloc _).grown hg (by simp; omega) (fun k hk => by cases hk; exact hge), hge, hput, fun q' b' hb' => ?_, fun q1 q2 b' h1 h2 => ?_, fun q' hq' => ?_, fun q' b' hb' => ?_⟩, ht⟩
  · by_cases e : q' = p
    · subst e; rw [put1_same] at hb'; cases hb'
      exact ⟨hsz, hcell _ _ _ _ (heap_alloc_new wr _)⟩
    · rw [put1_other _ _ _ e] at hb'
      exact ⟨(h.at_ q' b' hb').1, hcell _ _ _ _ (hbl.at_ (h.at_ q' b' hb').2)⟩
  · by_cases e1 : q1 = p
    · by_cases e2 : q2 = p
      · rw [e1, e2]
      · subst e1; rw [put1_same] at h1; rw [put1_other _ _ _ e2] at h2
        cases h1
        have := lt_at (h.at_ q2 _ h2).2
        omega
    · by_cases e2 : q2 = p
      · subst e2; rw [put1_same] at h2; rw [put1_other _ _ _ e1] at h1
        cases h2
        have := lt_at (h.at_ q1 _ h1).2
        omega
      · rw [put1_other _ _ _ e1] at h1; rw [put1_other _ _ _ e2] at h2
        exact h.inj q1 q2 b' h1 h2
  · by_cases e : q' = p
    · subst e
      rw [put1_same, hf]
      simp [key, Lit.sameKey]
    · rw [put1_other _ _ _ e, h.dom q' hq', Maps.sameKey_ne (key_ne e)]
      simp
  · by_cases e : q' = p
    · omega
    · rw [put1_other _ _ _ e] at hb'; exact h.far q' b' hb'
theorem keepC {w w8 w9 : World} {b : Nat} {x y z : Value} (h : w8.cell? ⟨b, 2, none⟩ = some x ∧ w8.cell? ⟨b, 3, none⟩ = some y ∧ w8.cell? ⟨b, 4, none⟩ = some z ∧ Bl w w8) (k : Bl w8 w9) : w9.cell? ⟨b, 2, none⟩ = some x ∧ w9.cell? ⟨b, 3, none⟩ = some y ∧ w9.cell? ⟨b, 4, none⟩ = some z ∧ Bl w w9 := by
  obtain ⟨h1, h2, h3, h4⟩ := h
  exact ⟨by rw [k.cell (block_lt_of_cell h1)]; exact h1, by rw [k.cell (block_lt_of_cell h2)]; exact h2, by rw [k.cell (block_lt_of_cell h3)]; exact h3, h4.trans k⟩
/-- What a Copy of a store leaves: a store of its own. -/
structure PC (w w' : World) (cb n : Nat) (f2 : Nat → Option Nat) (k2 : Nat) (M st : Nat → Int) (pm sm : Value) (c l : Int) : Prop where
  blk : w'.heap[cb]? = some (.cells #[pm, sm, .int .u64 c, .int .u64 l] 75 (0, 0))
  lw : 0 ≤ l ∧ l ≤ (n : Int)
  top : ∀ p, p < 2 ^ 64 → st p ≤ l
  pages : PMV (from_ w.heap.size) w' pm n f2 k2
  stamps : SMV (from_ w.heap.size) w' sm n c st
  apart : ∀ B, pm = .map (some B) → sm ≠ .map (some B)
  at_ : ∀ p b, f2 p = some b → from_ w.heap.size b ∧ w'.heap[b]? = some (.cells (asBytes (pageOf M p)).toArray 115 (0, 0))
  inj : ∀ p q b, f2 p = some b → f2 q = some b → p = q
  zero : ∀ p o, f2 p = none → o < 4096 → M (p * 4096 + o) = 0
  lim : ∀ p b, f2 p = some b → p < 67108864
def PCopyPost (w : World) (n : Nat) (M st : Nat → Int) (e : Ending) (w' : World) : Prop :=
  ∃ cb f2 k2 pm sm c l, e = .returned (addr0 cb) ∧ PC w w' cb n f2 k2 M st pm sm c l ∧ Bl w w'
theorem CP.start {w wr : World} {f : Nat → Option Nat} {M : Nat → Int} {left : Lit → Bool} (h : Bl (w.alloc (.map #[] 0)) wr) (hd : ∀ p, p < 2 ^ 64 → (f p).isSome = true → left (key p) = true) : CP w wr w.heap.size 0 f (fun _ => none) 0 M left := by
  refine ⟨(Bl.new w _).trans h, Nat.le_refl _, (PM.made w).of_block (h.block _ (by simp)), fun p b hb => (by cases hb), fun p q b hb => (by cases hb), fun p hp => ?_, fun p b hb => (by cases hb)⟩
  rcases hs : (f p).isSome with _ | _
  · simp
  · rw [hd p hp hs]; rfl
theorem SA.copied {Y : Rest} {S : Nat → Prop} {w W W' : World} {sb n n2 k k2 g : Nat} {f f2 : Nat → Option Nat} {M st : Nat → Int} {pm sm sm' : Value} {c l : Int} {left : Lit → Bool} (h : SA Y S w sb n f k M st pm sm c l) (hc : CP w W g n2 f f2 k2 M left) (hl : ∀ p, left (key p) = false) (hn : n2 ≤ n) (hb : Bl W W')
    (hs : SMV (from_ W.heap.size) W' sm' n c st) : PC w (W'.alloc (.cells #[.map (some g), sm', .int .u64 c, .int .u64 l] 75)) W'.heap.size n f2 k2 M st (.map (some g)) sm' c l := by
  have hbb := hb.trans (Bl.new W' (.cells #[.map (some g), sm', .int .u64 c, .int .u64 l] 75))
  have hsz := hc.bl.size
  have hsz2 := hb.size
  refine ⟨heap_alloc_new W' _, h.lw, h.top, .inr ⟨g, rfl, hc.ge, (hc.pm.of_block (hbb.block g hc.pm.lt)).mono hn⟩, ?_, ?_, fun p b hb' => ⟨(hc.at_ p b hb').1, hbb.at_ (hc.at_ p b hb').2⟩, hc.inj, fun p o hp ho => ?_, hc.far⟩
  · rcases hs with ⟨rfl, h0⟩ | ⟨B, D, rfl, h1, h2, h3⟩
    · exact .inl ⟨rfl, h0⟩
    · exact .inr ⟨B, D, rfl, Nat.le_trans hsz h1, ownsMap_of_block h2 ((Bl.new W' _).block B h2.lt), h3⟩
  · intro B hB e
    cases hB
    rcases hs with ⟨h0, _⟩ | ⟨B, D, h0, h1, h2, _⟩
    · rw [h0] at e; cases e
    · rw [h0] at e; cases e
      have := hc.pm.lt
      unfold from_ at h1
      omega
  · by_cases hp64 : p < 2 ^ 64
    · have := hc.dom p hp64
      rw [hp, hl p] at this
      refine h.zero p o ?_ ho
      rcases hf : f p with _ | b
      · rfl
      · rw [hf] at this; cases this
    · refine h.zero p o ?_ ho
      rcases hf : f p with _ | b
      · rfl
      · have := h.lim p b hf; omega
set_option maxHeartbeats 4000000 in
theorem pcopy_none {Y : Rest} {S : Nat → Prop} {w : World} {sb n k : Nat} {f : Nat → Option Nat} {M st : Nat → Int} {sm : Value} {c l : Int} (h : SA Y S w sb n f k M st (.map none) sm c l) : Calls Tryz.prog 52 #[.pointer (some ⟨sb, 1, none⟩)] w (PCopyPost w n M st) := by
  have hfn : ∀ p, f p = none := by
    rcases h.pages with ⟨_, h1, _⟩ | ⟨B, h0, _⟩
    · exact h1
    · cases h0
  have hlen := fun ty => h.pages.len ty
  have hmk := make39 w (k : Int)
  have h1 := h.bl (Bl.new w (.map #[] 0))
  obtain ⟨c0, c1, c2, c3⟩ := h.cell
  obtain ⟨d0, d1, d2, d3⟩ := h1.cell
  have hrg := run_range_nilMap (P := Tryz.prog) (w.alloc (.map #[] 0)) 72 26 104 Tryz.underlying72
  have hnx : ∀ ty, (Instr.next (.pointer (some ⟨(w.alloc (.map #[] 0)).heap.size, 0, none⟩)) false ty).run Tryz.prog ((w.alloc (.map #[] 0)).alloc (.mapIter none 0 #[] 0)) = _ := fun ty => run_next_nilMap (w.alloc (.map #[] 0)) ty 0 0 #[]
  rw [show (w.alloc (.map #[] 0)).heap.size = w.heap.size + 1 by simp] at hrg hnx
  have hcp : CP w ((w.alloc (.map #[] 0)).alloc (.mapIter none 0 #[] 0)) w.heap.size 0 f (fun _ => none) 0 M (fun _ => false) := CP.start (Bl.new _ _) (fun p _ hp => by rw [hfn p] at hp; cases hp)
  have H := Lib.hid h; clear h h1
  have HCP := Lib.hid hcp; clear hcp hfn
  go_enter Tryz.func52, Tryz.ntmps52
  go_wp2_with fail
  refine wp_loop_rounds 1 ?_
  rw [rounds_succ]
  go_wp2_with fail
  have hsw := H.out.bl HCP.out.bl
  have hcp := HCP.out
  have hn2 : 0 ≤ n := Nat.zero_le _
  clear c0 c1 c2 c3 d0 d1 d2 d3 hrg hnx hmk hlen HCP
  generalize (w.alloc (.map #[] 0)).alloc (.mapIter none 0 #[] 0) = W at *
  obtain ⟨c0, c1, c2, c3⟩ := hsw.cell
  have hsm := fun (W' : World) (hb : Bl W W') => pclone_any (hsw.stamps.kept (fun B' hB' => by
    obtain ⟨_, es, q, h2⟩ := hsw.stamps.isMap hB'
    rw [hb.at_ h2, h2]))
  have HSM := Lib.hid hsm; clear hsm
  have HSW := Lib.hid hsw; clear hsw
  have HCP := Lib.hid hcp; clear hcp
  have C1 := Lib.hid c1
  have C2 := Lib.hid c2
  have C3 := Lib.hid c3
  clear c0 c1 c2 c3
  go_wp2_with fail
  go_region_held3 (fun w' => w'.cell? ⟨sb, 2, none⟩ = some sm ∧ w'.cell? ⟨sb, 3, none⟩ = some (.int .u64 c) ∧ w'.cell? ⟨sb, 4, none⟩ = some (.int .u64 l) ∧ Bl W w') (first | assumption | exact ⟨C1.out, C2.out, C3.out, Bl.refl _⟩ | exact ⟨C1.out, C2.out, C3.out, (Bl.refl _).drew⟩ | exact keepC hkk (Bl.new _ _)) (first | (go_at_call 91; refine (HSM.out _ (by assumption : _ ∧ _ ∧ _ ∧ Bl W _).2.2.2).mono ?_; rintro e w9 ⟨y, rfl, hs9, k9⟩; have hkk := keepC (by assumption) k9))
  go_wp2_with fail
  go_ret
  exact ⟨w9.heap.size, _, _, _, _, _, _, rfl, H.out.copied HCP.out (fun _ => rfl) hn2 hkk.2.2.2 hs9, (HCP.out.bl.trans hkk.2.2.2).alloc _⟩
set_option maxHeartbeats 4000000 in
theorem pcopy_some {Y : Rest} {S : Nat → Prop} {w : World} {sb n k : Nat} {f : Nat → Option Nat} {M st : Nat → Int} {B : Nat} {sm : Value} {c l : Int} (h : SA Y S w sb n f k M st (.map (some B)) sm c l) (hn : n < 90000000) : Calls Tryz.prog 52 #[.pointer (some ⟨sb, 1, none⟩)] w (PCopyPost w n M st) := by
  have hlen := fun ty => h.pages.len ty
  have hmk := make39 w (k : Int)
  have h1 := h.bl (Bl.new w (.map #[] 0))
  obtain ⟨c0, c1, c2, c3⟩ := h.cell
  obtain ⟨d0, d1, d2, d3⟩ := h1.cell
  have hkn := h.pm.k_le
  obtain ⟨D, hown, hDat, hDhas, hDsize⟩ := h1.pm
  have H := Lib.hid h; clear h h1
  have HOWN := Lib.hid hown; clear hown
  have HDH := Lib.hid hDhas; clear hDhas
  have HDS := Lib.hid hDsize; clear hDsize
  have HKN := Lib.hid hkn; clear hkn
  have HN := Lib.hid hn; clear hn
  clear hDat
  go_enter Tryz.func52, Tryz.ntmps52
  go_wp2_with (first
    | (at_range; refine wpList_range_own _ rfl _ 72 rfl 26 104 law27 Tryz.underlying72 _ B n _ rfl HOWN.out ?_; intro w5 hrg0 hg0 hs0)
    | go_in)
  go_frame
  have hr : (w.alloc (.map #[] 0)).heap.size = w.heap.size + 1 := by simp
  generalize (w.alloc (.map #[] 0)).heap.size = r at *
  have HR := Lib.hid hr; clear hr
  have bl5 := Bl.of_grown hg0
  have hcp0 : CP w w5 w.heap.size 0 f (fun _ => none) 0 M (Maps.has D) := CP.start bl5 (fun p hp hs => by rw [HDH.out p hp]; exact hs)
  clear c0 c1 c2 c3 d0 d1 d2 d3 hlen hmk hg0 hs0 bl5 HOWN HDH
  have HRG0 := Lib.hid hrg0; clear hrg0
  have HCP0 := Lib.hid hcp0; clear hcp0
  go_loopw [4, 5, 6] (fun _ _ _ wr => ∃ (left : Lit → Bool) (cnt n2 k2 : Nat) (f2 : Nat → Option Nat), wr.ranges Tryz.prog 26 ptrE B r n D left cnt ∧ CP w wr w.heap.size n2 f f2 k2 M left ∧ n2 + cnt ≤ n) (fun _ _ _ wr => wr.rangeLeft B r)
  case atStart => exact ⟨_, _, _, _, _, HRG0.out, HCP0.out, by have := HDS.out; have := HKN.out; omega⟩
  case round =>
    obtain ⟨left, cnt, n2, k2, f2, hrg, hcp, hn2c⟩ := hrel
    clear HRG0 HCP0 HDS
    have HRG := Lib.hid hrg; clear hrg
    have HCP := Lib.hid hcp; clear hcp
    go_wp2_with (first
      | (at_next; refine wpl_next_pages _ rfl _ rfl B r n _ _ _ rfl HRG.out ?_ ?_)
      | go_in)
    · intro _ hl0
      have hsw := H.out.bl HCP.out.bl
      have hcp := HCP.out
      have hn2 : n2 ≤ n := by omega
      have hl : ∀ p, left (key p) = false := fun p => hl0 _
      have HL := Lib.hid hl; clear hl
      clear HCP HRG hl0
      obtain ⟨W, hW⟩ : ∃ W, W = wr := ⟨_, rfl⟩
      subst hW
      obtain ⟨c0, c1, c2, c3⟩ := hsw.cell
      have hsm := fun (W' : World) (hb : Bl W W') => pclone_any (hsw.stamps.kept (fun B' hB' => by
        obtain ⟨_, es, q, h2⟩ := hsw.stamps.isMap hB'
        rw [hb.at_ h2, h2]))
      have HSM := Lib.hid hsm; clear hsm
      have HSW := Lib.hid hsw; clear hsw
      have HCP := Lib.hid hcp; clear hcp
      have C1 := Lib.hid c1
      have C2 := Lib.hid c2
      have C3 := Lib.hid c3
      clear c0 c1 c2 c3
      go_wp2_with fail
      go_region_held3 (fun w' => w'.cell? ⟨sb, 2, none⟩ = some sm ∧ w'.cell? ⟨sb, 3, none⟩ = some (.int .u64 c) ∧ w'.cell? ⟨sb, 4, none⟩ = some (.int .u64 l) ∧ Bl W w') (first | assumption | exact ⟨C1.out, C2.out, C3.out, Bl.refl _⟩ | exact ⟨C1.out, C2.out, C3.out, (Bl.refl _).drew⟩ | exact keepC hkk (Bl.new _ _)) (first | (go_at_call 91; refine (HSM.out _ (by assumption : _ ∧ _ ∧ _ ∧ Bl W _).2.2.2).mono ?_; rintro e w9 ⟨y, rfl, hs9, k9⟩; have hkk := keepC (by assumption) k9))
      go_wp2_with fail
      go_ret
      exact ⟨w9.heap.size, _, _, _, _, _, _, rfl, H.out.copied HCP.out HL.out hn2 hkk.2.2.2 hs9, (HCP.out.bl.trans hkk.2.2.2).alloc _⟩
    · intro p x w6 cnt1 hp hlx hat hrg1 hcl hg1 hs1 hen
      have hcp6 : CP w w6 w.heap.size n2 f f2 k2 M left := HCP.out.kept hg1 (by have := HR.out; omega) (by obtain ⟨_, _, since, seen, c0, _, _, _, _, hr, _⟩ := HRG.out; exact ⟨_, _, _, _, hr⟩)
      have hsa6 := H.out.bl hcp6.bl
      obtain ⟨b, rfl, hfb⟩ := hsa6.pm.step hrg1.owns hp hat
      have hplim := H.out.lim p b hfb
      obtain ⟨w8, k8, hput, hcp8, ht8⟩ := hcp6.step hplim hfb hlx (by have := HN.out; omega)
      have hload := load53 (hsa6.at_ p b hfb).2 (pageOf_length M p)
      have hstore := store53 w6 (pageOf M p) (pageOf_length M p)
      have hrg8 : w8.ranges Tryz.prog 26 ptrE B r n D (fun z => left z && !z.sameKey (key p)) cnt1 := by
        refine (hrg1.kept ((Bl.new w6 _).grownBy none) (by simp) (by simp)).kept ht8.grown (fun e => ?_) (fun e => ?_)
        · injection e with e
          have := H.out.pm.lt
          omega
        · injection e with e
          have := HR.out
          omega
      have hz := zero53
      have HRG8 := Lib.hid hrg8; clear hrg8 hrg1 ht8
      have HCP8 := Lib.hid hcp8; clear hcp8 hcp6 hsa6 hg1 hs1 hat hlx hfb hplim hp
      simp only [ptrOf, Option.map_some] at hen ⊢
      generalize pageOf M p = pg at *
      go_wp2_with (first
        | (refine wpl_load_run _ rfl (.tmp 26) 115 rfl _ _ rfl hload ?_)
        | (refine wpl_store_run _ rfl (.tmp 6) (.tmp 27) 115 rfl _ _ rfl rfl hstore ?_)
        | go_in)
      refine ⟨⟨_, cnt1, n2 + 1, k8, _, HRG8.out, HCP8.out, by omega⟩, ?_⟩
      rw [HRG8.out.left_eq, HRG.out.left_eq]
      exact hcl
theorem pcopy_any {Y : Rest} {S : Nat → Prop} {w : World} {sb n k : Nat} {f : Nat → Option Nat} {M st : Nat → Int} (h : StoreAt Y S w sb n f k M st) (hn : n < 90000000) : Calls Tryz.prog 52 #[.pointer (some ⟨sb, 1, none⟩)] w (PCopyPost w n M st) := by
  obtain ⟨pm, sm, c, l, h⟩ := h
  rcases h.pages with ⟨rfl, _⟩ | ⟨B, rfl, _⟩
  · exact pcopy_none h
  · exact pcopy_some h hn
end Go.Proofs.YtepffglljmekiaaGreat

set_option linter.unusedVariables false
set_option linter.unusedSimpArgs false
namespace Go.Proofs.YtepffglljmekiaaGreat
open Go.RowKit
set_option maxRecDepth 100000
theorem four_cells {w : World} {b : Nat} {v0 v1 v2 v3 : Value} {t : TypeId} (h : w.heap[b]? = some (.cells #[v0, v1, v2, v3] t (0, 0))) : w.cell? ⟨b, 0, none⟩ = some v0 ∧ w.cell? ⟨b, 1, none⟩ = some v1 ∧ w.cell? ⟨b, 2, none⟩ = some v2 ∧ w.cell? ⟨b, 3, none⟩ = some v3 := by
  refine ⟨?_, ?_, ?_, ?_⟩ <;> simp [World.cell?, h]
theorem keepD {w w8 w9 : World} {b : Nat} {x y z : Value} (h : w8.cell? ⟨b, 5, none⟩ = some x ∧ w8.cell? ⟨b, 6, none⟩ = some y ∧ w8.cell? ⟨b, 7, none⟩ = some z ∧ Bl w w8) (k : Bl w8 w9) : w9.cell? ⟨b, 5, none⟩ = some x ∧ w9.cell? ⟨b, 6, none⟩ = some y ∧ w9.cell? ⟨b, 7, none⟩ = some z ∧ Bl w w9 :=
  ⟨k.cell' h.1, k.cell' h.2.1, k.cell' h.2.2.1, h.2.2.2.trans k⟩
theorem blD {w w8 : World} {b : Nat} {x y z : Value} (h : w8.cell? ⟨b, 5, none⟩ = some x ∧ w8.cell? ⟨b, 6, none⟩ = some y ∧ w8.cell? ⟨b, 7, none⟩ = some z ∧ Bl w w8) : Bl w w8 := h.2.2.2
/-- The copy's parts make a space. -/
theorem MS.copied {T : Nat → Prop} {w w5 w7 w8 : World} {sb n cb : Nat} {L : List Rg} {M st : Nat → Int} {mo ba en : Int} (h : MS T w sb n L M st mo ba en) {v : Value} (k5 : Bl w w5) (hr : Row w5 w.heap.size v L) (k7 : Bl w5 w7) {f2 : Nat → Option Nat} {k2 : Nat} {pm sm : Value} {c l : Int} (hp : PC w7 w8 cb n f2 k2 M st pm sm c l) (k8 : Bl w7 w8) {W : World} (kW : Bl w8 W) {sb2 : Nat} (hsb : w.heap.size ≤ sb2 ∧ w8.heap.size ≤ sb2)
    (hb : W.heap[sb2]? = some (.cells #[v, pm, sm, .int .u64 c, .int .u64 l, .int .i64 mo, .int .u64 ba, .int .u64 en] 77 (0, 0))) : MS (from_ w.heap.size) W sb2 n L M st mo ba en := by
  have z5 := k5.size
  have z7 := k7.size
  have z8 := k8.size
  have hrow : ∀ g, v.ownBlock = some g → w.heap.size ≤ g ∧ g < w5.heap.size := fun g hg => hr.lt g hg
  have hoff : ∀ b, from_ w7.heap.size b → off (from_ w.heap.size) v b := fun b hb => ⟨show w.heap.size ≤ b from (by unfold from_ at hb; omega), fun e => by have := hrow b e; unfold from_ at hb; omega⟩
  refine ⟨⟨v, f2, k2, ⟨pm, sm, c, l, hb, ⟨hsb.1, fun e => by have := hrow _ e; omega⟩, hp.lw, hp.top, ?_, ?_, hp.apart, fun p b hb' => ⟨hoff b (hp.at_ p b hb').1, kW.at_ (hp.at_ p b hb').2⟩, hp.inj, hp.zero, hp.lim⟩, ?_, fun g hg => (hrow g hg).1⟩, h.rs, h.few, h.by_, h.mo_, h.heap⟩
  · rcases hp.pages with h1 | ⟨B, h0, h1, h2⟩
    · exact .inl h1
    · exact .inr ⟨B, h0, hoff B h1, h2.of_block (kW.block B h2.lt)⟩
  · rcases hp.stamps with h1 | ⟨B, D, h0, h1, h2, h3⟩
    · exact .inl h1
    · exact .inr ⟨B, D, h0, hoff B h1, ownsMap_of_block h2 (kW.block B h2.lt), h3⟩
  · exact (hr.bl (k7.trans (k8.trans kW))).base_ (b2 := 0) (fun g _ => Nat.zero_le g)
def MCopyPost (w : World) (n : Nat) (L : List Rg) (M st : Nat → Int) (mo ba en : Int) (e : Ending) (w' : World) : Prop := ∃ sb2, e = .returned (addr0 sb2) ∧ MS (from_ w.heap.size) w' sb2 n L M st mo ba en ∧ Bl w w'
set_option maxHeartbeats 4000000 in
theorem mcopy_any {T : Nat → Prop} {w : World} {sb n : Nat} {L : List Rg} {M st : Nat → Int} {mo ba en : Int} (h : MS T w sb n L M st mo ba en) (hn : n < 90000000) :
    Calls Tryz.prog 15 #[addr0 sb] w (MCopyPost w n L M st mo ba en) := by
  obtain ⟨s5, s6, s7⟩ := h.cells
  have hlist : ∀ W, Bl w W → Calls Tryz.prog 51 #[addr0 sb] W (CopyPost W L) := fun W k => by
    obtain ⟨X, hX⟩ := (h.bl k).list
    exact copy_any hX (by have := h.few; omega)
  have hstore : ∀ W, Bl w W → Calls Tryz.prog 52 #[.pointer (some ⟨sb, 1, none⟩)] W (PCopyPost W n M st) := fun W k => by
    obtain ⟨rg, f, k0, h1, _, _⟩ := (h.bl k).ex
    exact pcopy_any h1 hn
  have H := Lib.hid h; clear h
  have HL := Lib.hid hlist; clear hlist
  have HST := Lib.hid hstore; clear hstore
  have hS : w.cell? ⟨sb, 5, none⟩ = some (.int .i64 mo) ∧ w.cell? ⟨sb, 6, none⟩ = some (.int .u64 ba) ∧ w.cell? ⟨sb, 7, none⟩ = some (.int .u64 en) ∧ Bl w w := ⟨s5, s6, s7, Bl.refl _⟩
  have HS := Lib.hid hS; clear hS
  unfold addr0 at *
  go_enter Tryz.func15, Tryz.ntmps15
  go_wp2_with fail
  refine wp_region_hd 24 (fun w' => w'.cell? ⟨sb, 5, none⟩ = some (.int .i64 mo) ∧ w'.cell? ⟨sb, 6, none⟩ = some (.int .u64 ba) ∧ w'.cell? ⟨sb, 7, none⟩ = some (.int .u64 en) ∧ Bl w w') (by kernel_rfl) (by decide) (keepD HS.out (Bl.refl w).drew) (fun hHeld => ?_)
  refine wpHd_take (i := 0) (v := ?_) rfl (by kernel_rfl) (fun _ _ _ h => h) (Or.inl ⟨by rfl, ?hy⟩) hHeld ?_
  case hy => (intro w hSw; (try dsimp only at hSw); go_split_ands; go_simp; try (with_reducible rfl))
  (try simp only [Act.put, List.getElem_toArray, List.getElem_cons_zero, List.getElem_cons_succ, List.setIfInBounds_toArray, List.set_cons_zero, List.set_cons_succ])
  refine wpHd_take (i := 1) (v := ?_) rfl (by kernel_rfl) (fun _ _ _ h => h) (Or.inl ⟨by rfl, ?hy⟩) hHeld ?_
  case hy => (intro w hSw; (try dsimp only at hSw); go_split_ands; go_simp; try (with_reducible rfl))
  (try simp only [Act.put, List.getElem_toArray, List.getElem_cons_zero, List.getElem_cons_succ, List.setIfInBounds_toArray, List.set_cons_zero, List.set_cons_succ])
  refine wpHd_take (i := 2) (v := ?_) rfl (by kernel_rfl) (fun _ _ _ h => h) (Or.inl ⟨by rfl, ?hy⟩) hHeld ?_
  case hy => (intro w hSw; (try dsimp only at hSw); go_split_ands; go_simp; try (with_reducible rfl))
  (try simp only [Act.put, List.getElem_toArray, List.getElem_cons_zero, List.getElem_cons_succ, List.setIfInBounds_toArray, List.set_cons_zero, List.set_cons_succ])
  refine wpHd_take (i := 6) (v := ?_) rfl (by kernel_rfl) (fun _ _ _ h => h) (Or.inl ⟨by rfl, ?hy⟩) hHeld ?_
  case hy => (intro w hSw; (try dsimp only at hSw); go_split_ands; go_simp; try (with_reducible rfl))
  (try simp only [Act.put, List.getElem_toArray, List.getElem_cons_zero, List.getElem_cons_succ, List.setIfInBounds_toArray, List.set_cons_zero, List.set_cons_succ])
  refine wpHd_take (i := 7) (v := ?_) rfl (by kernel_rfl) (fun _ _ _ h => h) (Or.inl ⟨by rfl, ?hy⟩) hHeld ?_
  case hy => (intro w hSw; (try dsimp only at hSw); go_split_ands; go_simp; try (with_reducible rfl))
  (try simp only [Act.put, List.getElem_toArray, List.getElem_cons_zero, List.getElem_cons_succ, List.setIfInBounds_toArray, List.set_cons_zero, List.set_cons_succ])
  refine wpHd_take (i := 8) (v := ?_) rfl (by kernel_rfl) (fun _ _ _ h => h) (Or.inl ⟨by rfl, ?hy⟩) hHeld ?_
  case hy => (intro w hSw; (try dsimp only at hSw); go_split_ands; go_simp; try (with_reducible rfl))
  (try simp only [Act.put, List.getElem_toArray, List.getElem_cons_zero, List.getElem_cons_succ, List.setIfInBounds_toArray, List.set_cons_zero, List.set_cons_succ])
  refine wpHd_take (i := 12) (v := ?_) rfl (by kernel_rfl) (fun _ _ _ h => h) (Or.inl ⟨by rfl, ?hy⟩) hHeld ?_
  case hy => (intro w hSw; (try dsimp only at hSw); go_split_ands; go_simp; try (with_reducible rfl))
  (try simp only [Act.put, List.getElem_toArray, List.getElem_cons_zero, List.getElem_cons_succ, List.setIfInBounds_toArray, List.set_cons_zero, List.set_cons_succ])
  refine wpHd_take (i := 13) (v := ?_) rfl (by kernel_rfl) (fun _ _ _ h => h) (Or.inl ⟨by rfl, ?hy⟩) hHeld ?_
  case hy => (intro w hSw; (try dsimp only at hSw); go_split_ands; go_simp; try (with_reducible rfl))
  (try simp only [Act.put, List.getElem_toArray, List.getElem_cons_zero, List.getElem_cons_succ, List.setIfInBounds_toArray, List.set_cons_zero, List.set_cons_succ])
  refine wpHd_take (i := 14) (v := ?_) rfl (by kernel_rfl) (fun _ _ _ h => h) (Or.inl ⟨by rfl, ?hy⟩) hHeld ?_
  case hy => (intro w hSw; (try dsimp only at hSw); go_split_ands; go_simp; try (with_reducible rfl))
  (try simp only [Act.put, List.getElem_toArray, List.getElem_cons_zero, List.getElem_cons_succ, List.setIfInBounds_toArray, List.set_cons_zero, List.set_cons_succ])
  refine wpHd_take (i := 15) (v := ?_) rfl (by kernel_rfl) (fun _ _ _ h => h) (Or.inl ⟨by rfl, ?hy⟩) hHeld ?_
  case hy => (intro w hSw; (try dsimp only at hSw); go_split_ands; go_simp; try (with_reducible rfl))
  (try simp only [Act.put, List.getElem_toArray, List.getElem_cons_zero, List.getElem_cons_succ, List.setIfInBounds_toArray, List.set_cons_zero, List.set_cons_succ])
  refine wpHd_take (i := 16) (v := ?_) rfl (by kernel_rfl) (fun _ _ _ h => h) (Or.inl ⟨by rfl, ?hy⟩) hHeld ?_
  case hy => (intro w hSw; (try dsimp only at hSw); go_split_ands; go_simp; try (with_reducible rfl))
  (try simp only [Act.put, List.getElem_toArray, List.getElem_cons_zero, List.getElem_cons_succ, List.setIfInBounds_toArray, List.set_cons_zero, List.set_cons_succ])
  refine wpHd_take (i := 17) (v := ?_) rfl (by kernel_rfl) (fun _ _ _ h => h) (Or.inl ⟨by rfl, ?hy⟩) hHeld ?_
  case hy => (intro w hSw; (try dsimp only at hSw); go_split_ands; go_simp; try (with_reducible rfl))
  (try simp only [Act.put, List.getElem_toArray, List.getElem_cons_zero, List.getElem_cons_succ, List.setIfInBounds_toArray, List.set_cons_zero, List.set_cons_succ])
  refine wpHd_take (i := 18) (v := ?_) rfl (by kernel_rfl) (fun _ _ _ h => h) (Or.inl ⟨by rfl, ?hy⟩) hHeld ?_
  case hy => (intro w hSw; (try dsimp only at hSw); go_split_ands; go_simp; try (with_reducible rfl))
  (try simp only [Act.put, List.getElem_toArray, List.getElem_cons_zero, List.getElem_cons_succ, List.setIfInBounds_toArray, List.set_cons_zero, List.set_cons_succ])
  refine wpHd_take (i := 19) (v := ?_) rfl (by kernel_rfl) (fun _ _ _ h => h) (Or.inl ⟨by rfl, ?hy⟩) hHeld ?_
  case hy => (intro w hSw; (try dsimp only at hSw); go_split_ands; go_simp; try (with_reducible rfl))
  (try simp only [Act.put, List.getElem_toArray, List.getElem_cons_zero, List.getElem_cons_succ, List.setIfInBounds_toArray, List.set_cons_zero, List.set_cons_succ])
  refine wpHd_take (i := 20) (v := ?_) rfl (by kernel_rfl) (fun _ _ _ h => h) (Or.inl ⟨by rfl, ?hy⟩) hHeld ?_
  case hy => (intro w hSw; (try dsimp only at hSw); go_split_ands; go_simp; try (with_reducible rfl))
  (try simp only [Act.put, List.getElem_toArray, List.getElem_cons_zero, List.getElem_cons_succ, List.setIfInBounds_toArray, List.set_cons_zero, List.set_cons_succ])
  refine wpHd_take (i := 21) (v := ?_) rfl (by kernel_rfl) (fun _ _ _ h => h) (Or.inl ⟨by rfl, ?hy⟩) hHeld ?_
  case hy => (intro w hSw; (try dsimp only at hSw); go_split_ands; go_simp; try (with_reducible rfl))
  (try simp only [Act.put, List.getElem_toArray, List.getElem_cons_zero, List.getElem_cons_succ, List.setIfInBounds_toArray, List.set_cons_zero, List.set_cons_succ])
  refine wpHd_take (i := 22) (v := ?_) rfl (by kernel_rfl) (fun _ _ _ h => h) (Or.inl ⟨by rfl, ?hy⟩) hHeld ?_
  case hy => (intro w hSw; (try dsimp only at hSw); go_split_ands; go_simp; try (with_reducible rfl))
  (try simp only [Act.put, List.getElem_toArray, List.getElem_cons_zero, List.getElem_cons_succ, List.setIfInBounds_toArray, List.set_cons_zero, List.set_cons_succ])
  refine wpHd_take (i := 23) (v := ?_) rfl (by kernel_rfl) (fun _ _ _ h => h) (Or.inl ⟨by rfl, ?hy⟩) hHeld ?_
  case hy => (intro w hSw; (try dsimp only at hSw); go_split_ands; go_simp; try (with_reducible rfl))
  (try simp only [Act.put, List.getElem_toArray, List.getElem_cons_zero, List.getElem_cons_succ, List.setIfInBounds_toArray, List.set_cons_zero, List.set_cons_succ])
  refine wpHd_one (i := 3) rfl (by kernel_rfl) (fun K hK => ?_)
  go_simp
  refine (HL.out _ hHeld.2.2.2).mono ?_
  rintro e w5 ⟨lb, rfl, hlb, hl5, k5⟩
  refine hK.out _ _ ?_ (fun hHeld => ?_)
  · exact keepD hHeld k5
  clear hK K
  (try simp only [Act.put, List.getElem_toArray, List.getElem_cons_zero, List.getElem_cons_succ, List.setIfInBounds_toArray, List.set_cons_zero, List.set_cons_succ])
  obtain ⟨v, hb5, hr5⟩ := hl5
  have hlc : w5.cell? ⟨lb, 0, none⟩ = some v := by rw [cell_of_row w5 lb 0 _ _ (0, 0) hb5]; simp
  unfold addr0
  refine wpHd_take (i := 4) (v := ?_) rfl (by kernel_rfl) (fun _ _ _ h => h) (Or.inl ⟨by rfl, ?hy⟩) hHeld ?_
  case hy => (intro w hSw; (try dsimp only at hSw); go_split_ands; go_simp; try (with_reducible rfl))
  (try simp only [Act.put, List.getElem_toArray, List.getElem_cons_zero, List.getElem_cons_succ, List.setIfInBounds_toArray, List.set_cons_zero, List.set_cons_succ])
  refine wpHd_two (i := 5) (j := 9) rfl rfl (by kernel_rfl) (fun K hK => ?_) (fun K hK => ?_)
  · go_simp
    refine hK.out _ _ hHeld (fun hHeld => ?_)
    clear hK K
    (try simp only [Act.put, List.getElem_toArray, List.getElem_cons_zero, List.getElem_cons_succ, List.setIfInBounds_toArray, List.set_cons_zero, List.set_cons_succ])
    refine wpHd_one (i := 9) rfl (by kernel_rfl) (fun K hK => ?_)
    go_simp
    refine (HST.out _ hHeld.2.2.2).mono ?_
    rintro e w8 ⟨cb, f2, k2, pm, sm, c, l, rfl, hpc, k8⟩
    refine hK.out _ _ ?_ (fun hHeld => ?_)
    · exact keepD hHeld k8
    clear hK K
    (try simp only [Act.put, List.getElem_toArray, List.getElem_cons_zero, List.getElem_cons_succ, List.setIfInBounds_toArray, List.set_cons_zero, List.set_cons_succ])
    obtain ⟨p0, p1, p2, p3⟩ := four_cells hpc.blk
    have hlc8 := k8.cell' hlc
    unfold addr0
    refine wpHd_take (i := 10) (v := ?_) rfl (by kernel_rfl) (fun _ _ _ h => h) (Or.inl ⟨by rfl, ?hy⟩) hHeld ?_
    case hy => (intro w hSw; (try dsimp only at hSw); go_split_ands; go_simp; try (with_reducible rfl))
    (try simp only [Act.put, List.getElem_toArray, List.getElem_cons_zero, List.getElem_cons_succ, List.setIfInBounds_toArray, List.set_cons_zero, List.set_cons_succ])
    refine wpHd_one (i := 11) rfl (by kernel_rfl) (fun K hK => ?_)
    go_simp
    refine hK.out _ _ hHeld (fun hHeld => ?_)
    clear hK K
    (try simp only [Act.put, List.getElem_toArray, List.getElem_cons_zero, List.getElem_cons_succ, List.setIfInBounds_toArray, List.set_cons_zero, List.set_cons_succ])
    refine ⟨by kernel_rfl, ?_⟩
    simp only [List.drop_succ_cons, List.drop_zero]
    have T8 := hHeld.2.2.2
    have HPC := Lib.hid hpc
    have HR5 := Lib.hid hr5
    have K5 := Lib.hid k5
    have K8 := Lib.hid k8
    clear hHeld hpc hr5 k5 k8 hb5
    go_wp2_with fail
    (try simp only [Exit.inBlock, Exit.then])
    go_ret
    exact ⟨_, rfl, H.out.copied ((Bl.refl w).drew.trans K5.out) HR5.out (Bl.refl _) HPC.out K8.out (Bl.new _ _) ⟨by have := T8.size; simpa using this, Nat.le_refl _⟩ (heap_alloc_new _ _), T8.alloc _⟩
  · go_simp
    refine (HST.out _ hHeld.2.2.2).mono ?_
    rintro e w8 ⟨cb, f2, k2, pm, sm, c, l, rfl, hpc, k8⟩
    refine hK.out _ _ ?_ (fun hHeld => ?_)
    · exact keepD hHeld k8
    clear hK K
    (try simp only [Act.put, List.getElem_toArray, List.getElem_cons_zero, List.getElem_cons_succ, List.setIfInBounds_toArray, List.set_cons_zero, List.set_cons_succ])
    obtain ⟨p0, p1, p2, p3⟩ := four_cells hpc.blk
    have hlc8 := k8.cell' hlc
    unfold addr0
    refine wpHd_take (i := 10) (v := ?_) rfl (by kernel_rfl) (fun _ _ _ h => h) (Or.inl ⟨by rfl, ?hy⟩) hHeld ?_
    case hy => (intro w hSw; (try dsimp only at hSw); go_split_ands; go_simp; try (with_reducible rfl))
    (try simp only [Act.put, List.getElem_toArray, List.getElem_cons_zero, List.getElem_cons_succ, List.setIfInBounds_toArray, List.set_cons_zero, List.set_cons_succ])
    refine wpHd_two (i := 5) (j := 11) rfl rfl (by kernel_rfl) (fun K hK => ?_) (fun K hK => ?_)
    · go_simp
      refine hK.out _ _ hHeld (fun hHeld => ?_)
      clear hK K
      (try simp only [Act.put, List.getElem_toArray, List.getElem_cons_zero, List.getElem_cons_succ, List.setIfInBounds_toArray, List.set_cons_zero, List.set_cons_succ])
      refine wpHd_one (i := 11) rfl (by kernel_rfl) (fun K hK => ?_)
      go_simp
      refine hK.out _ _ hHeld (fun hHeld => ?_)
      clear hK K
      (try simp only [Act.put, List.getElem_toArray, List.getElem_cons_zero, List.getElem_cons_succ, List.setIfInBounds_toArray, List.set_cons_zero, List.set_cons_succ])
      refine ⟨by kernel_rfl, ?_⟩
      simp only [List.drop_succ_cons, List.drop_zero]
      have T8 := hHeld.2.2.2
      have HPC := Lib.hid hpc
      have HR5 := Lib.hid hr5
      have K5 := Lib.hid k5
      have K8 := Lib.hid k8
      clear hHeld hpc hr5 k5 k8 hb5
      go_wp2_with fail
      (try simp only [Exit.inBlock, Exit.then])
      go_ret
      exact ⟨_, rfl, H.out.copied ((Bl.refl w).drew.trans K5.out) HR5.out (Bl.refl _) HPC.out K8.out (Bl.new _ _) ⟨by have := T8.size; simpa using this, Nat.le_refl _⟩ (heap_alloc_new _ _), T8.alloc _⟩
    · go_simp
      refine hK.out _ _ hHeld (fun hHeld => ?_)
      clear hK K
      (try simp only [Act.put, List.getElem_toArray, List.getElem_cons_zero, List.getElem_cons_succ, List.setIfInBounds_toArray, List.set_cons_zero, List.set_cons_succ])
      refine wpHd_one (i := 5) rfl (by kernel_rfl) (fun K hK => ?_)
      go_simp
      refine hK.out _ _ hHeld (fun hHeld => ?_)
      clear hK K
      (try simp only [Act.put, List.getElem_toArray, List.getElem_cons_zero, List.getElem_cons_succ, List.setIfInBounds_toArray, List.set_cons_zero, List.set_cons_succ])
      refine ⟨by kernel_rfl, ?_⟩
      simp only [List.drop_succ_cons, List.drop_zero]
      have T8 := hHeld.2.2.2
      have HPC := Lib.hid hpc
      have HR5 := Lib.hid hr5
      have K5 := Lib.hid k5
      have K8 := Lib.hid k8
      clear hHeld hpc hr5 k5 k8 hb5
      go_wp2_with fail
      (try simp only [Exit.inBlock, Exit.then])
      go_ret
      exact ⟨_, rfl, H.out.copied ((Bl.refl w).drew.trans K5.out) HR5.out (Bl.refl _) HPC.out K8.out (Bl.new _ _) ⟨by have := T8.size; simpa using this, Nat.le_refl _⟩ (heap_alloc_new _ _), T8.alloc _⟩
end Go.Proofs.YtepffglljmekiaaGreat

set_option linter.unusedVariables false
namespace Go.Proofs.YtepffglljmekiaaGreat
open Go
/-- An operation without the edges of its order. -/
def stripO (o : Oper) : Oper := { dst := o.dst, op := o.op, type := o.type, pos := o.pos, after := #[], guard := o.guard }
theorem yielded_strip (ops : Array Oper) (tmps : Array Value) : yielded (ops.map stripO) tmps = yielded ops tmps := by
  funext j
  unfold yielded
  rw [Array.getElem?_map]
  cases ops[j]? <;> rfl
theorem wpList_strip {P : Program} {ops : Array Oper} {Q : Exit → Act → World → Prop} : ∀ (rest : List Oper) (a : Act) (w : World), wpList P (ops.map stripO) Q (rest.map stripO) a w → wpList P ops Q rest a w
  | [], a, w, h => h
  | o :: rest, a, w, h => by
    have ih := wpList_strip (P := P) (ops := ops) (Q := Q) rest
    unfold wpList
    rw [List.map_cons] at h
    unfold wpList at h
    rw [yielded_strip] at h
    have e : Region.wanted (stripO o) (yielded ops a.tmps) = Region.wanted o (yielded ops a.tmps) := rfl
    rw [e] at h
    split at h
    · rename_i hw
      rw [if_pos hw]
      rcases h with h | h
      · exact .inl (Oper.wp_mono (K := wpList P (ops.map stripO) Q (rest.map stripO)) ih (by exact h))
      · exact .inr (by exact h)
    · rename_i hw
      rw [if_neg hw]
      exact ih _ _ h
end Go.Proofs.YtepffglljmekiaaGreat

set_option linter.unusedVariables false
set_option linter.unusedSimpArgs false
namespace Go.Proofs.YtepffglljmekiaaGreat
open Go.RowKit
set_option maxRecDepth 100000
theorem ActsZ.bl {w w' : World} {a : Option Addr} {len : Nat} (h : ActsZ w a len) (k : Bl w w') : ActsZ w' a len := fun h0 => by
  obtain ⟨b, off, h1, h2⟩ := h h0
  exact ⟨b, off, h1, fun j hj => (h2 j hj).bl k⟩
theorem fault_neq (k x : Int) (w : World) : (Go.binOp .neq 50 (.agg #[.int .i64 k, .int .u64 x]) (.agg #[.int .i64 k, .int .u64 x])).run Tryz.prog w = .ok (.bool false) w := by
  simp [go_sem]
set_option maxHeartbeats 2000000 in
theorem sameR_any {w : World} {b1 b2 : Nat} {v1 v2 : Value} {L : List Rg} (h1 : Row w b1 v1 L) (h2 : Row w b2 v2 L) (hl : L.length ≤ 1000) : Calls Tryz.prog 30 #[v1, v2] w (BoolPost w true) := by
  obtain ⟨A1, cap1, rfl⟩ := h1.shape
  obtain ⟨A2, cap2, rfl⟩ := h2.shape
  have H1 := Lib.hid h1; clear h1
  have H2 := Lib.hid h2; clear h2
  obtain ⟨n, hn⟩ : ∃ n, n = L.length := ⟨_, rfl⟩
  rw [← hn] at H1 H2 hl ⊢
  have HN := Lib.hid hn; clear hn
  have hlI : (n : Int) ≤ 1000 := by omega
  go_enter Tryz.func30, Tryz.ntmps30
  go_wp2_with fail
  go_loopw [5] (fun i wr => ∃ k m : Nat, k ≤ n ∧ i = .int .i64 k ∧ wr = w.drewN m) (fun i _ => n - (intOf i).toNat)
  case atStart => exact ⟨0, 0, by omega, rfl, rfl⟩
  case round =>
    obtain ⟨k, m, hk, rfl, rfl⟩ := hrel
    by_cases hlt : k < n
    · have hltL : k < L.length := by have := HN.out; omega
      obtain ⟨r, hr⟩ : ∃ r, L[k]? = some r := ⟨L[k], List.getElem?_eq_getElem hltL⟩
      have hne : L ≠ [] := by intro e; rw [e] at hltL; simp at hltL
      obtain ⟨g1, _, _, hA, _⟩ := H1.out.form hne
      have hA' : A1 = some ⟨g1, 0, none⟩ := by injection hA
      subst hA'
      obtain ⟨g2, _, _, hB, _⟩ := H2.out.form hne
      have hB' : A2 = some ⟨g2, 0, none⟩ := by injection hB
      subst hB'
      obtain ⟨c0, c1, c2⟩ := row_cells H1.out k r hr
      obtain ⟨d0, d1, d2⟩ := row_cells H2.out k r hr
      have hkI : (k : Int) < (n : Int) := by omega
      clear hA hB hne hltL hr
      go_wp2_with fail
      go_quiet (fail)
      go_wp2_with fail
      refine ⟨⟨k + 1, m + nq, by omega, by go_num, rfl⟩, ?_⟩
      simp only [intOf]; omega
    · obtain rfl : k = n := by omega
      go_wp2_with fail
      go_ret
      exact ⟨rfl, (Bl.refl w).drewN _⟩
end Go.Proofs.YtepffglljmekiaaGreat
