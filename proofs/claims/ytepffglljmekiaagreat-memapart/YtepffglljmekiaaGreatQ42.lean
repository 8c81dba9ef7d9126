/-
  The reference's space without pages: Room, Map, Unmap, Protect, Brk.
-/
import Derived.Test.YtepffglljmekiaaGreatQ41
set_option linter.unusedVariables false
set_option linter.unusedSimpArgs false
namespace Go.Proofs.YtepffglljmekiaaGreat
open Go.RowKit
set_option maxRecDepth 100000
set_option maxHeartbeats 1000000 in
theorem rroom_any {w : World} {rb : Nat} {b e : Int} (h : RA w rb b e) (size : Int) (h0 : 1 ≤ size) (h1 : size ≤ 274877906944) : Calls Tryz.prog 75 #[addr0 rb, .int .u64 size, .int .u64 274877833216] w fun e w' => (∃ x ok, e = .returned (.tuple #[.int .u64 x, .bool ok]) ∧ 0 ≤ x ∧ x ≤ 274877833216) ∧ Bl w w' := by
  obtain ⟨c0, c1, c2, c3⟩ := h.cells
  have cu := fun W => rUp_any size W (by omega) h1
  obtain ⟨u, hu⟩ : ∃ u, u = (size + 4095) / 4096 * 4096 := ⟨_, rfl⟩
  rw [← hu] at cu
  have u0 : 4096 ≤ u := by omega
  have u1 : u ≤ 274877906944 := by omega
  have t0 : (u == 0) = false := by simp; omega
  have CU := Lib.hid cu; clear cu hu h
  unfold addr0
  by_cases hf : u ≤ 274877829120
  · go_enter Tryz.func75, Tryz.ntmps75
    go_wp2_with fail
    refine (CU.out _).mono ?_
    rintro e w' ⟨rfl, rfl⟩
    go_wp2_with fail
    refine wp_loop_rounds 1 ?_
    rw [rounds_succ]
    go_wp2_with fail
    go_ret2
    exact ⟨⟨274877833216 - u, true, rfl, by omega, by omega⟩, Bl.refl _⟩
  · have hf' : 274877829120 < u := by omega
    clear hf
    go_enter Tryz.func75, Tryz.ntmps75
    go_wp2_with fail
    refine (CU.out _).mono ?_
    rintro e w' ⟨rfl, rfl⟩
    go_wp2_with fail
    refine wp_loop_rounds 2 ?_
    rw [rounds_succ]
    go_wp2_with fail
    rw [rounds_succ]
    go_wp2_with fail
    go_ret2
    exact ⟨⟨0, false, rfl, by omega, by omega⟩, Bl.refl _⟩
set_option maxHeartbeats 1000000 in
theorem runmap_any {w : World} {rb : Nat} {b en : Int} (h : RA w rb b en) (a size : Int) (h0 : 0 ≤ a) (h1 : 0 ≤ size) : Calls Tryz.prog 35 #[addr0 rb, .int .u64 a, .int .u64 size] w fun e w' => (∃ r, e = .returned (.int .i64 r)) ∧ RA w' rb b en ∧ Fr (only rb) w w' := by
  have cw := rwhole_any a size w h0 h1
  have CW := Lib.hid cw; clear cw
  have co := fun t => rwithout_any h a t
  have CO := Lib.hid co; clear co
  obtain ⟨c0, c1, c2, c3⟩ := h.cells
  have f0 := h.free 0
  have h2 : RA (w.setCell ⟨rb, 0, none⟩ (.slice none 0 0)) rb b en := by
    refine h.set ?_ h.b0 h.b1 h.e0 h.e1
    rw [heap_setCell_same w rb 0 _ 84 (.slice none 0 0) h.blk]; rfl
  have H := Lib.hid h; clear h
  have H2 := Lib.hid h2; clear h2
  unfold addr0 at *
  go_enter Tryz.func35, Tryz.ntmps35
  go_wp2_with fail
  refine CW.out.mono ?_
  rintro e w' ⟨t, ok, rfl, _, rfl⟩
  rcases ok with _ | _
  · go_wp2_with fail
    go_ret
    exact ⟨⟨22, rfl⟩, H.out, Fr.refl _ _⟩
  · go_wp2_with fail
    refine (CO.out _).mono ?_
    rintro e w' ⟨rfl, rfl⟩
    go_wp2_with fail
    refine (rregions_none _).mono ?_
    rintro e w' ⟨rfl, rfl⟩
    go_wp2_with fail
    go_ret
    exact ⟨⟨0, rfl⟩, H2.out, Fr.set (S := only rb) (p := ⟨rb, 0, none⟩) rfl _⟩
set_option maxHeartbeats 1000000 in
theorem rprotect_any {w : World} {rb : Nat} {b e : Int} (h : RA w rb b e) (a size p : Int) (h0 : 0 ≤ a) (h1 : 0 ≤ size) : Calls Tryz.prog 36 #[addr0 rb, .int .u64 a, .int .u64 size, .int .i64 p] w fun e w' => (∃ r, e = .returned (.int .i64 r)) ∧ Bl w w' := by
  have cw := rwhole_any a size w h0 h1
  have CW := Lib.hid cw; clear cw
  have co := fun t n => rwithout_any (h.bl ((Bl.refl w).drewN n)) a t
  have CO := Lib.hid co; clear co
  obtain ⟨c0, c1, c2, c3⟩ := h.cells
  clear h
  unfold addr0 at *
  go_enter Tryz.func36, Tryz.ntmps36
  go_wp2_with fail
  refine CW.out.mono ?_
  rintro e w' ⟨t, ok, rfl, ht, rfl⟩
  rcases ok with _ | _
  · go_wp2_with fail
    go_ret
    exact ⟨⟨22, rfl⟩, Bl.refl _⟩
  · obtain ⟨s1, s2, s3, s4⟩ := ht.2.2 rfl
    by_cases p0 : p < 0
    · go_wp2_with fail
      go_ret
      exact ⟨⟨22, rfl⟩, Bl.refl _⟩
    have p00 : 0 ≤ p := by omega
    by_cases p1 : 7 < p
    · clear p0
      go_wp2_with fail
      go_ret
      exact ⟨⟨22, rfl⟩, Bl.refl _⟩
    have p11 : p ≤ 7 := by omega
    have hw : IntKind.u64.wrap (t - a) = t - a := IntWalk.u64_in _ (by omega)
    have tq2 : 1 ≤ (t - a) / 4096 := by omega
    have tb : ((0 : Int) != (t - a) / 4096) = true := by simp; omega
    clear p0 p1 s1 s2 ht
    go_wp2_with fail
    go_quiet (first | (go_at_call 77; exact Calls.quiet_of_same ((CO.out _ _).mono fun _ _ h => ⟨h.1, h.2.symm⟩)))
    all_goals (
      go_wp2_with fail
      go_ret
      exact ⟨⟨12, rfl⟩, (Bl.refl _).drewN _⟩)
end Go.Proofs.YtepffglljmekiaaGreat
