/-
  Store of a space.
-/
import Derived.Test.YtpalhkfipnbcnaaMemC
import Derived.Deep.RegionWith
set_option linter.unusedVariables false
set_option linter.unusedSimpArgs false
namespace Go.Proofs.Ytpalhkfipnbcnaa
open Go.RowKit
set_option maxRecDepth 100000
theorem rd_lt {w : World} {A : Option Addr} {xs : List Int} (h : Rd w A xs) (h0 : 0 < xs.length) {ad : Addr} (e : A = some ad) : ad.block < w.heap.size := by
  obtain ⟨a2, h1, h2⟩ := h h0
  rw [e] at h1; cases h1
  have := block_lt_of_cell (h2 0 h0)
  rwa [add_block] at this
set_option maxHeartbeats 4000000 in
theorem mstore_any {T : Nat → Prop} {w : World} {sb n0 : Nat} {L : List Rg} {M st : Nat → Int} {mo ba en : Int} (h : MS T w sb n0 L M st mo ba en) (a n : Nat) (x : Int) (ha : a < 2 ^ 64) (hn : n = 1 ∨ n = 2 ∨ n = 4 ∨ n = 8) (hn0 : n0 < 80000000) (hT : ∀ b, w.heap.size ≤ b → T b) :
    Calls Try.prog 18 #[addr0 sb, .int .u64 (a : Int), .int .i64 (n : Int), .int .u64 x] w (StoreMPost T w sb n0 L M st mo ba en a n x) := by
  have cf := probe_any (h.bl (Bl.new w (.cells #[.int .i64 0, .int .u64 0] 41))) a n (by omega) (by omega) hn
  have cp := fun W => put_in none 0 0 [] x n W (Rd.nil_) rfl (by omega) (by omega) (by omega)
  simp only [List.nil_append, Nat.zero_add] at cp
  have CF := Lib.hid cf; clear cf
  have CP := Lib.hid cp; clear cp
  have H := Lib.hid h; clear h
  have HT := Lib.hid hT; clear hT
  have HN := Lib.hid hn; clear hn
  unfold addr0 at *
  go_enter Try.func18, Try.ntmps18
  go_wp2_with fail
  refine CF.out.mono ?_
  rintro e w1 ⟨k, y, rfl, hh, kk⟩
  have hb := new2 w w1 _ _ _ kk
  have k1 := (Bl.new w (.cells #[.int .i64 0, .int .u64 0] 41)).trans kk
  clear CF kk
  have HB := Lib.hid hb; clear hb
  have K1 := Lib.hid k1; clear k1
  unfold faultV
  rcases hh with ⟨hk, hh⟩ | ⟨hk, hx, hh⟩
  · subst hk
    have HH := Lib.hid hh; clear hh
    have hb2 := (Bl.new w1 (.cells #[.int .i64 2, .int .u64 y] 41)).at_ HB.out
    obtain ⟨d0, d1⟩ := two_cells hb2
    obtain ⟨d2, d3⟩ := two_cells (heap_alloc_new w1 (.cells #[.int .i64 2, .int .u64 y] 41))
    have f0 : ∀ i, (w1.alloc (.cells #[.int .i64 2, .int .u64 y] 41)).frozen? ⟨w.heap.size, i, none⟩ = false := fun i => by simp [World.frozen?, hb2]
    have f00 := f0 0
    have f01 := f0 1
    have HB2 := Lib.hid hb2; clear hb2
    have K2 := Lib.hid (K1.out.alloc (.cells #[.int .i64 2, .int .u64 y] 41))
    clear HB K1 f0 CP
    go_wp2_with fail
    (try simp only [Exit.inBlock, Exit.then])
    refine bodyPost_ret (results_cell_row rfl _ _ w.heap.size 41 _ (0, 0) _ rfl (set2 _ _ HB2.out) Try.underlying41 rfl (by kernel_rfl)) rfl ?_
    exact ⟨2, y, rfl, .inl ⟨rfl, HH.out.1, HH.out.2.1, HH.out.2.2.1, HH.out.2.2.2, (K2.out.set (Nat.le_refl _) _).set (Nat.le_refl _) _⟩⟩
  · subst hk hx
    have htop := can_below H.out.so hh (by have := HN.out; omega)
    have HH := Lib.hid hh; clear hh
    have HTOP := Lib.hid htop; clear htop
    go_wp2_with fail
    have K2 := Lib.hid (K1.out.alloc (.cells #[.int .i64 0, .int .u64 0] 41))
    have HB2 := Lib.hid ((Bl.new w1 (.cells #[.int .i64 0, .int .u64 0] 41)).at_ HB.out)
    clear HB K1
    generalize w1.alloc (.cells #[.int .i64 0, .int .u64 0] 41) = W at *
    go_region_with (first | (go_at_call 41; refine (CP.out _).mono ?_; rintro e w9 ⟨B, c, rfl, rd9, k9, hc9, hb9⟩) | (go_at_call 40; have k10 := K2.out.trans ((Bl.refl W).drew.trans k9); have hbk : ∀ ad, B = some ad → w.heap.size ≤ ad.block := (fun ad e => Nat.le_trans K2.out.size (hb9 ad e)); refine (mwrite_any (H.out.gap k10 w.heap.size w9.heap.size (Nat.le_refl _)) a B n c (putB x n) rd9 (putB_length x n) hc9 (putB_bd x n) (fun h0 ad e e2 => e2.2 ⟨hbk ad e, rd_lt rd9 (by rw [putB_length]; exact h0) e⟩) HTOP.out (by have := HN.out; omega) (by omega) (gap_new HT.out w.heap.size k10.size)).mono ?_; rintro e w11 ⟨rfl, st', h11, r11, f11⟩))
    all_goals (
      have hb3 := f11.at_ (((Bl.refl W).drew.trans k9).at_ HB2.out) (fun e => e.2 ⟨Nat.le_refl _, by have := lt_at HB2.out; have := ((Bl.refl W).drew.trans k9).size; omega⟩)
      obtain ⟨d0, d1⟩ := two_cells hb3
      have f0 : ∀ i, w11.frozen? ⟨w.heap.size, i, none⟩ = false := fun i => by simp [World.frozen?, hb3]
      have f00 := f0 0
      have f01 := f0 1
      have HB3 := Lib.hid hb3; clear hb3
      have h12 := h11.kept ((Fr.set (S := only w.heap.size) (p := ⟨w.heap.size, 0, none⟩) rfl (.int .i64 0)).trans (Fr.set (S := only w.heap.size) (p := ⟨w.heap.size, 1, none⟩) rfl (.int .u64 0))) (fun b e e2 => e.2 ⟨by rw [show b = w.heap.size from e2]; exact Nat.le_refl _, by rw [show b = w.heap.size from e2]; have := H.out.lt; have := lt_at HB2.out; have := ((Bl.refl W).drew.trans k9).size; omega⟩)
      have f12 : Fr T w ((w11.setCell ⟨w.heap.size, 0, none⟩ (.int .i64 0)).setCell ⟨w.heap.size, 1, none⟩ (.int .u64 0)) := (((Fr.of_bl k10).trans f11.ungap).trans (Fr.set (HT.out _ (Nat.le_refl _)) _)).trans (Fr.set (HT.out _ (Nat.le_refl _)) _)
      have H12 := Lib.hid (h12.ungap.mono (m := n0 + 9) (by have := HN.out; unfold pagesOf; split <;> omega))
      have F12 := Lib.hid f12
      have R11 := Lib.hid r11
      clear h12 f12 h11 f11 r11 rd9 k9 hb9 hbk k10 f0 CP
      go_wp2_with fail
      (try simp only [Exit.inBlock, Exit.then])
      refine bodyPost_ret (results_cell_row rfl _ _ w.heap.size 41 _ (0, 0) _ rfl (set2 _ _ HB3.out) Try.underlying41 rfl (by kernel_rfl)) rfl ?_
      exact ⟨0, 0, rfl, .inr ⟨rfl, rfl, HH.out, st', H12.out, R11.out, F12.out⟩⟩)
end Go.Proofs.Ytpalhkfipnbcnaa
