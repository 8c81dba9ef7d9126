/-
  The reference's space without pages: In, Out, Text, SetBrk; spans and sizes.
  The reference's space without pages: spans, whole, without, Regions, Lay, Free, Room.
  The reference's space without pages: Free, Room, Map, Unmap, Protect, Brk.
-/
import Derived.Test.YtepffglljmekiaaGreatQ40
import Derived.Deep.RegionWith
set_option linter.unusedVariables false
set_option linter.unusedSimpArgs false
namespace Go.Proofs.YtepffglljmekiaaGreat
open Go.RowKit
set_option maxRecDepth 100000
set_option maxHeartbeats 1000000 in
theorem rin_any {w : World} {rb : Nat} {b e : Int} (h : RA w rb b e) (a n : Int) (h0 : 0 ≤ a) (h1 : a ≤ 18446744073709551615) : Calls Tryz.prog 41 #[addr0 rb, .int .u64 a, .int .i64 n] w fun e w' => (∃ r, e = .returned (.tuple #[.slice none 0 0, .int .i64 r])) ∧ Bl w w' := by
  have cc := rcheck_any h a n 1 h0 h1
  have CC := Lib.hid cc; clear cc h
  have cb : ∀ W, Calls Tryz.prog 83 #[addr0 rb, .int .u64 a, .int .i64 0] W fun e w' => e = .returned (.slice none 0 0) ∧ W = w' := fun W => by
    unfold addr0
    go_enter Tryz.func83, Tryz.ntmps83
    go_wp2_with fail
    refine wp_loop_rounds 1 ?_
    rw [rounds_succ]
    go_wp2_with fail
    go_ret
    exact ⟨rfl, rfl⟩
  have CB := Lib.hid cb; clear cb
  unfold addr0 at *
  go_enter Tryz.func41, Tryz.ntmps41
  go_wp2_with fail
  refine CC.out.mono ?_
  rintro e w1 ⟨r, rfl, hr, k⟩
  have K := Lib.hid k; clear k CC
  by_cases hr0 : r = 0
  · subst hr0
    obtain rfl := hr rfl
    clear hr
    go_wp2_with fail
    refine (CB.out _).mono ?_
    rintro e w' ⟨rfl, rfl⟩
    go_wp2_with fail
    go_ret2
    exact ⟨⟨0, rfl⟩, K.out⟩
  · have t1 : (r != 0) = true := by simp [hr0]
    clear hr hr0 CB
    go_wp2_with fail
    go_ret2
    exact ⟨⟨r, rfl⟩, K.out⟩
set_option maxHeartbeats 1000000 in
theorem rout_any {w : World} {rb : Nat} {b e : Int} (h : RA w rb b e) (a : Int) (A : Option Addr) (len cap : Nat) (xs : List Int) (hr : Rd w A xs) (hl : xs.length = len) (h0 : 0 ≤ a) (h1 : a ≤ 18446744073709551615) (hlen : len ≤ 6000) : Calls Tryz.prog 42 #[addr0 rb, .int .u64 a, .slice A len cap] w fun e w' => (∃ r, e = .returned (.int .i64 r)) ∧ Bl w w' := by
  have cc := rcheck_any h a (len : Int) 2 h0 h1
  have CC := Lib.hid cc; clear cc
  have cl := fun W (k : Bl w W) => rlays_any (h.bl k) a A len cap xs (hr.below k) hl h0 h1 hlen
  have CL := Lib.hid cl; clear cl h hr
  unfold addr0 at *
  go_enter Tryz.func42, Tryz.ntmps42
  go_wp2_with fail
  refine CC.out.mono ?_
  rintro e w1 ⟨r, rfl, hr, k⟩
  have K := Lib.hid k; clear k CC hr
  by_cases hr0 : r = 0
  · subst hr0
    go_wp2_with fail
    refine (CL.out _ K.out).mono ?_
    rintro e w' ⟨rfl, k2⟩
    have K2 := Lib.hid (K.out.trans k2); clear k2
    go_wp2_with fail
    go_ret
    exact ⟨⟨0, rfl⟩, K2.out⟩
  · have t1 : (r == 0) = false := by simp [hr0]
    clear hr0 CL
    go_wp2_with fail
    go_ret
    exact ⟨⟨r, rfl⟩, K.out⟩
set_option maxHeartbeats 1000000 in
theorem rtext_any {w : World} {rb : Nat} {b e : Int} (h : RA w rb b e) (a n : Int) (h0 : 0 ≤ a) : Calls Tryz.prog 43 #[addr0 rb, .int .u64 a, .int .i64 n] w fun e w' => (∃ r, e = .returned (.tuple #[.string ⟨#[]⟩, .int .i64 r])) ∧ Bl w w' := by
  have cp := rprot_any h a h0
  have CP := Lib.hid cp; clear cp h
  unfold addr0 at *
  by_cases hn : 0 < n
  · go_enter Tryz.func43, Tryz.ntmps43
    go_wp2_with fail
    refine wp_loop_rounds 1 ?_
    rw [rounds_succ]
    go_wp2_with fail
    refine CP.out.mono ?_
    rintro e w' ⟨rfl, k⟩
    have K := Lib.hid k; clear k
    go_wp2_with fail
    go_ret2
    exact ⟨⟨14, rfl⟩, K.out⟩
  · have hn' : n ≤ 0 := by omega
    clear CP
    go_enter Tryz.func43, Tryz.ntmps43
    go_wp2_with fail
    refine wp_loop_rounds 1 ?_
    rw [rounds_succ]
    go_wp2_with fail
    go_ret2
    exact ⟨⟨36, rfl⟩, Bl.refl _⟩
theorem RA.set {w w' : World} {rb : Nat} {b e b' e' : Int} (h : RA w rb b e) (hb : w'.heap[rb]? = some (.cells #[.slice none 0 0, .int .i64 0, .int .u64 b', .int .u64 e'] 84 (0, 0))) (h0 : 0 ≤ b') (h1 : b' ≤ 274877906944) (h2 : 0 ≤ e') (h3 : e' ≤ 274877906944) : RA w' rb b' e' := ⟨hb, h0, h1, h2, h3⟩
theorem rUp_any (n : Int) (w : World) (h0 : 0 ≤ n) (h1 : n ≤ 274877906944) : Calls Tryz.prog 79 #[.int .u64 n] w fun e w' => e = .returned (.int .u64 ((n + 4095) / 4096 * 4096)) ∧ w = w' := by
  go_enter Tryz.func79, Tryz.ntmps79
  go_wp2
  go_ret
  exact ⟨rfl, rfl⟩
set_option maxHeartbeats 1000000 in
theorem rsetbrk_any {w : World} {rb : Nat} {b e : Int} (h : RA w rb b e) (x : Int) (h0 : 0 ≤ x) : Calls Tryz.prog 45 #[addr0 rb, .int .u64 x] w fun e w' => e = .returned (.tuple #[]) ∧ (∃ b' e', RA w' rb b' e') ∧ Fr (only rb) w w' := by
  by_cases h1 : x ≤ 274877906944
  · have cu := fun W => rUp_any x W h0 h1
    obtain ⟨y, hy⟩ : ∃ y, y = (x + 4095) / 4096 * 4096 := ⟨_, rfl⟩
    have y0 : 0 ≤ y := by omega
    have y1 : y ≤ 274877906944 := by omega
    rw [← hy] at cu
    clear hy
    have CU := Lib.hid cu; clear cu
    obtain ⟨c0, c1, c2, c3⟩ := h.cells
    have f2 := h.free 2
    have f3 := h.free 3
    have h2 : RA ((w.setCell ⟨rb, 2, none⟩ (.int .u64 y)).setCell ⟨rb, 3, none⟩ (.int .u64 y)) rb y y := by
      refine h.set ?_ y0 y1 y0 y1
      have e1 := heap_setCell_same w rb 2 _ 84 (.int .u64 y) h.blk
      have e2 := heap_setCell_same _ rb 3 _ 84 (.int .u64 y) e1
      rw [e2]; rfl
    have H2 := Lib.hid h2; clear h2 h
    unfold addr0
    go_enter Tryz.func45, Tryz.ntmps45
    go_wp2_with fail
    refine (CU.out _).mono ?_
    rintro e w' ⟨rfl, rfl⟩
    go_wp2_with fail
    go_end0
    exact ⟨rfl, ⟨y, y, H2.out⟩, (Fr.set (S := only rb) (p := ⟨rb, 2, none⟩) rfl _).trans (Fr.set (S := only rb) (p := ⟨rb, 3, none⟩) rfl _)⟩
  · have h1' : 274877906944 < x := by omega
    have H := Lib.hid h; clear h
    unfold addr0
    go_enter Tryz.func45, Tryz.ntmps45
    go_wp2_with fail
    go_end0
    exact ⟨rfl, ⟨b, e, H.out⟩, Fr.refl _ _⟩
end Go.Proofs.YtepffglljmekiaaGreat

set_option linter.unusedVariables false
set_option linter.unusedSimpArgs false
namespace Go.Proofs.YtepffglljmekiaaGreat
open Go.RowKit
set_option maxRecDepth 100000
theorem rspan_yes (s e : Int) (w : World) (h0 : 0 ≤ s) (h : Span s e) : Calls Tryz.prog 114 #[.int .u64 s, .int .u64 e] w fun x w' => x = .returned (.bool true) ∧ w = w' := by
  obtain ⟨h1, h2, h3, h4⟩ := h
  have t1 : (s % 4096 == 0) = true := by simp [h1]
  have t2 : (e % 4096 == 0) = true := by simp [h2]
  have h5 : 0 ≤ e := by omega
  have h6 : s ≤ 274877906944 := by omega
  clear h1 h2
  go_enter Tryz.func114, Tryz.ntmps114
  go_wp2
  go_ret
  exact ⟨rfl, rfl⟩
theorem rspan_no (s e : Int) (w : World) (h0 : 0 ≤ s) (h1 : s ≤ 18446744073709551615) (h2 : 0 ≤ e) (h3 : e ≤ 18446744073709551615) (h : ¬ Span s e) : Calls Tryz.prog 114 #[.int .u64 s, .int .u64 e] w fun x w' => x = .returned (.bool false) ∧ w = w' := by
  by_cases a1 : s % 4096 = 0
  · have t1 : (s % 4096 == 0) = true := by simp [a1]
    by_cases a2 : e % 4096 = 0
    · have t2 : (e % 4096 == 0) = true := by simp [a2]
      by_cases a3 : s < e
      · have a4 : 274877906944 < e := by
          rcases Int.lt_or_le 274877906944 e with h4 | h4
          · exact h4
          · exact absurd ⟨a1, a2, a3, h4⟩ h
        have t3 : decide (e ≤ 274877906944) = false := by simp; omega
        clear a1 a2 h
        go_enter Tryz.func114, Tryz.ntmps114
        go_wp2
        go_ret
        exact ⟨rfl, rfl⟩
      · have a4 : e ≤ s := by omega
        clear a1 a2 h
        go_enter Tryz.func114, Tryz.ntmps114
        go_wp2
        go_ret
        exact ⟨rfl, rfl⟩
    · have t2 : (e % 4096 == 0) = false := by simp [a2]
      clear a1 a2 h
      go_enter Tryz.func114, Tryz.ntmps114
      go_wp2
      go_ret
      exact ⟨rfl, rfl⟩
  · have t1 : (s % 4096 == 0) = false := by simp [a1]
    clear a1 h
    go_enter Tryz.func114, Tryz.ntmps114
    go_wp2
    go_ret
    exact ⟨rfl, rfl⟩
/-- Where a span ends, and whether it is one. -/
def WholeIs (a size t : Int) (ok : Bool) : Prop := 0 ≤ t ∧ t ≤ 18446744073709551615 ∧ (ok = true → Span a t)
set_option maxHeartbeats 1000000 in
theorem rwhole_any (a size : Int) (w : World) (h0 : 0 ≤ a) (h1 : 0 ≤ size) : Calls Tryz.prog 73 #[.int .u64 a, .int .u64 size] w fun e w' => ∃ t ok, e = .returned (.tuple #[.int .u64 t, .bool ok]) ∧ WholeIs a size t ok ∧ w = w' := by
  by_cases s0 : size = 0
  · subst s0
    go_enter Tryz.func73, Tryz.ntmps73
    go_wp2_with fail
    go_ret2
    exact ⟨0, false, rfl, ⟨by omega, by omega, fun e => by cases e⟩, rfl⟩
  have t0 : (size == 0) = false := by simp [s0]
  by_cases s1 : 274877906944 < size
  · clear s0
    go_enter Tryz.func73, Tryz.ntmps73
    go_wp2_with fail
    go_ret2
    exact ⟨0, false, rfl, ⟨by omega, by omega, fun e => by cases e⟩, rfl⟩
  have s11 : size ≤ 274877906944 := by omega
  by_cases a1 : 274877906944 < a
  · clear s0 s1
    go_enter Tryz.func73, Tryz.ntmps73
    go_wp2_with fail
    go_ret2
    exact ⟨0, false, rfl, ⟨by omega, by omega, fun e => by cases e⟩, rfl⟩
  have a11 : a ≤ 274877906944 := by omega
  have cu := fun W => rUp_any size W h1 s11
  obtain ⟨u, hu⟩ : ∃ u, u = (size + 4095) / 4096 * 4096 := ⟨_, rfl⟩
  rw [← hu] at cu
  have u0 : 0 ≤ u := by omega
  have u1 : u ≤ 274877906944 := by omega
  have CU := Lib.hid cu; clear cu hu s0 s1 a1
  by_cases hs : Span a (a + u)
  · have cs := fun W => rspan_yes a (a + u) W h0 hs
    have CS := Lib.hid cs; clear cs
    have HS := Lib.hid hs; clear hs
    go_enter Tryz.func73, Tryz.ntmps73
    go_wp2_with fail
    refine (CU.out _).mono ?_
    rintro e w' ⟨rfl, rfl⟩
    go_wp2_with fail
    refine (CU.out _).mono ?_
    rintro e w' ⟨rfl, rfl⟩
    go_wp2_with fail
    refine (CS.out _).mono ?_
    rintro e w' ⟨rfl, rfl⟩
    go_wp2_with fail
    go_ret2
    exact ⟨a + u, true, rfl, ⟨by omega, by omega, fun _ => HS.out⟩, rfl⟩
  · have cs := fun W => rspan_no a (a + u) W h0 (by omega) (by omega) (by omega) hs
    have CS := Lib.hid cs; clear cs hs
    go_enter Tryz.func73, Tryz.ntmps73
    go_wp2_with fail
    refine (CU.out _).mono ?_
    rintro e w' ⟨rfl, rfl⟩
    go_wp2_with fail
    refine (CU.out _).mono ?_
    rintro e w' ⟨rfl, rfl⟩
    go_wp2_with fail
    refine (CS.out _).mono ?_
    rintro e w' ⟨rfl, rfl⟩
    go_wp2_with fail
    go_ret2
    exact ⟨a + u, false, rfl, ⟨by omega, by omega, fun e => by cases e⟩, rfl⟩
set_option maxHeartbeats 1000000 in
theorem rwithout_any {w : World} {rb : Nat} {b e : Int} (h : RA w rb b e) (s t : Int) : Calls Tryz.prog 77 #[addr0 rb, .int .u64 s, .int .u64 t] w fun e w' => e = .returned (.slice none 0 0) ∧ w = w' := by
  obtain ⟨c0, c1, c2, c3⟩ := h.cells
  clear h
  unfold addr0
  go_enter Tryz.func77, Tryz.ntmps77
  go_wp2_with fail
  refine wp_loop_rounds 1 ?_
  rw [rounds_succ]
  go_wp2_with fail
  go_ret
  exact ⟨rfl, rfl⟩
theorem rregions_none (w : World) : Calls Tryz.prog 78 #[.slice none 0 0] w fun e w' => e = .returned (.slice none 0 0) ∧ w = w' := by
  go_enter Tryz.func78, Tryz.ntmps78
  go_wp2_with fail
  refine wp_loop_rounds 1 ?_
  rw [rounds_succ]
  go_wp2_with fail
  go_ret
  exact ⟨rfl, rfl⟩
set_option maxHeartbeats 1000000 in
theorem rlay_no {w : World} {rb : Nat} {b e : Int} (h : RA w rb b e) (s t p : Int) (h0 : 0 ≤ s) (hs : Span s t) : Calls Tryz.prog 76 #[addr0 rb, .int .u64 s, .int .u64 t, .int .i64 p] w fun e w' => e = .returned (.int .i64 12) ∧ Bl w w' := by
  obtain ⟨c0, c1, c2, c3⟩ := h.cells
  have cw := rwithout_any h s t
  have CW := Lib.hid cw; clear cw h
  obtain ⟨s1, s2, s3, s4⟩ := hs
  obtain ⟨q, hq⟩ : ∃ q, q = (t - s) / 4096 := ⟨_, rfl⟩
  have q0 : 1 ≤ q := by omega
  have hw : IntKind.u64.wrap (t - s) = t - s := IntWalk.u64_in _ (by omega)
  have ts0 : 0 ≤ t - s := by omega
  have HQ := Lib.hid hq; clear hq s1 s2
  unfold addr0 at *
  by_cases q1 : 8192 < q
  · have tq : 8192 < (t - s) / 4096 := by rw [← HQ.out]; exact q1
    clear CW
    go_enter Tryz.func76, Tryz.ntmps76
    go_wp2_with fail
    go_ret
    exact ⟨rfl, Bl.refl _⟩
  · have tq : (t - s) / 4096 ≤ 8192 := by rw [← HQ.out]; omega
    have tq2 : 1 ≤ (t - s) / 4096 := by rw [← HQ.out]; omega
    go_enter Tryz.func76, Tryz.ntmps76
    go_wp2_with fail
    refine CW.out.mono ?_
    rintro e w' ⟨rfl, rfl⟩
    go_wp2_with fail
    go_ret
    exact ⟨rfl, Bl.refl _⟩
end Go.Proofs.YtepffglljmekiaaGreat

set_option linter.unusedVariables false
set_option linter.unusedSimpArgs false
namespace Go.Proofs.YtepffglljmekiaaGreat
open Go.RowKit
set_option maxRecDepth 100000
set_option maxHeartbeats 1000000 in
theorem rfree_any {w : World} {rb : Nat} {b e : Int} (h : RA w rb b e) (s t : Int) (h0 : 0 ≤ s) (h1 : s ≤ 18446744073709551615) (h2 : 0 ≤ t) (h3 : t ≤ 18446744073709551615) : Calls Tryz.prog 74 #[addr0 rb, .int .u64 s, .int .u64 t] w fun e w' => (∃ v, e = .returned (.bool v) ∧ (v = true → Span s t)) ∧ Bl w w' := by
  obtain ⟨c0, c1, c2, c3⟩ := h.cells
  by_cases hs : Span s t
  · have cs := fun W => rspan_yes s t W h0 hs
    have cw := fun n => rwithout_any (h.bl ((Bl.refl w).drewN n)) s t
    have CS := Lib.hid cs; clear cs
    have CW := Lib.hid cw; clear cw h
    have HS := Lib.hid hs; clear hs
    unfold addr0 at *
    go_enter Tryz.func74, Tryz.ntmps74
    go_wp2_with fail
    go_quiet (first | (go_at_call 114; exact Calls.quiet_of_same ((CS.out _).mono fun _ _ h => ⟨h.1, h.2.symm⟩)) | (go_at_call 77; exact Calls.quiet_of_same ((CW.out _).mono fun _ _ h => ⟨h.1, h.2.symm⟩)))
    all_goals (
      go_wp2_with fail
      go_ret
      exact ⟨⟨_, rfl, fun _ => HS.out⟩, (Bl.refl _).drewN _⟩)
  · have cs := fun W => rspan_no s t W h0 h1 h2 h3 hs
    have CS := Lib.hid cs; clear cs h hs
    unfold addr0 at *
    go_enter Tryz.func74, Tryz.ntmps74
    go_wp2_with fail
    go_quiet (first | (go_at_call 114; exact Calls.quiet_of_same ((CS.out _).mono fun _ _ h => ⟨h.1, h.2.symm⟩)))
    all_goals (
      go_wp2_with fail
      go_ret
      exact ⟨⟨false, rfl, fun e => by cases e⟩, (Bl.refl _).drewN _⟩)
end Go.Proofs.YtepffglljmekiaaGreat
