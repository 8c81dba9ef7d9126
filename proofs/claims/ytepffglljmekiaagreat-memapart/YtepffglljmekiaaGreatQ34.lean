/-
  Store of any width; Fetch; which prot a place has.
  Which prot a place has, as the law asks it.
-/
import Derived.Test.YtepffglljmekiaaGreatQ33
set_option linter.unusedVariables false
set_option linter.unusedSimpArgs false
namespace Go.Proofs.YtepffglljmekiaaGreat
open Go.RowKit
set_option maxRecDepth 100000
set_option maxHeartbeats 1000000 in
theorem store_bad {w : World} (sb : Nat) (a n x : Int) (hn : ¬ (n = 1 ∨ n = 2 ∨ n = 4 ∨ n = 8)) (ha : Wd a) :
    Calls Tryz.prog 23 #[addr0 sb, .int .u64 a, .int .i64 n, .int .u64 x] w (SomeFault w) := by
  have cp : ∀ W, Calls Tryz.prog 47 #[addr0 sb, .int .u64 a, .int .i64 n] W fun e w' => e = .returned (faultV 2 a) ∧ Bl W w' := fun W => by
    have cf := fun W => fault_bad (w := W) sb 2 a n 2 hn
    have CF := Lib.hid cf; clear cf
    unfold addr0 at *
    go_enter Tryz.func47, Tryz.ntmps47
    go_wp2_with fail
    refine (CF.out _).mono ?_
    rintro e w1 ⟨rfl, kk⟩
    have hb := new2 W w1 _ _ _ kk
    obtain ⟨d0, d1⟩ := two_cells hb
    have k1 := (Bl.new W (.cells #[.int .i64 0, .int .u64 0] 50)).trans kk
    have f0 : ∀ i, w1.frozen? ⟨W.heap.size, i, none⟩ = false := fun i => by simp [World.frozen?, hb]
    have f00 := f0 0
    have f01 := f0 1
    have HB := Lib.hid hb; clear hb
    have K1 := Lib.hid k1; clear k1 kk f0
    unfold faultV
    go_wp2_with fail
    (try simp only [Exit.inBlock, Exit.then])
    refine bodyPost_ret (results_cell_row rfl _ _ W.heap.size 50 _ (0, 0) _ rfl (set2 _ _ HB.out) Tryz.underlying50 rfl (by kernel_rfl)) rfl ?_
    exact ⟨rfl, (K1.out.set (Nat.le_refl _) _).set (Nat.le_refl _) _⟩
  have CP := Lib.hid cp; clear cp hn
  unfold addr0 at *
  go_enter Tryz.func23, Tryz.ntmps23
  go_wp2_with fail
  refine (CP.out _).mono ?_
  rintro e w1 ⟨rfl, kk⟩
  have hb := new2 w w1 _ _ _ kk
  have k1 := (Bl.new w (.cells #[.int .i64 0, .int .u64 0] 50)).trans kk
  clear CP kk
  unfold faultV
  have hb2 := (Bl.new w1 (.cells #[.int .i64 2, .int .u64 a] 50)).at_ hb
  obtain ⟨d0, d1⟩ := two_cells hb2
  obtain ⟨d2, d3⟩ := two_cells (heap_alloc_new w1 (.cells #[.int .i64 2, .int .u64 a] 50))
  have f0 : ∀ i, (w1.alloc (.cells #[.int .i64 2, .int .u64 a] 50)).frozen? ⟨w.heap.size, i, none⟩ = false := fun i => by simp [World.frozen?, hb2]
  have f00 := f0 0
  have f01 := f0 1
  have HB2 := Lib.hid hb2; clear hb2
  have K2 := Lib.hid (k1.alloc (.cells #[.int .i64 2, .int .u64 a] 50))
  clear hb k1 f0
  go_wp2_with fail
  (try simp only [Exit.inBlock, Exit.then])
  refine bodyPost_ret (results_cell_row rfl _ _ w.heap.size 50 _ (0, 0) _ rfl (set2 _ _ HB2.out) Tryz.underlying50 rfl (by kernel_rfl)) rfl ?_
  exact ⟨2, a, rfl, ha, (K2.out.set (Nat.le_refl _) _).set (Nat.le_refl _) _⟩
theorem SomeStore.none_ {T : Nat → Prop} {w w' : World} {sb n0 : Nat} {L : List Rg} {M st : Nat → Int} {mo ba en : Int} (h : MS T w sb n0 L M st mo ba en) (k : Bl w w') : SomeStore T w sb n0 L M st mo ba en w' :=
  ⟨M, st, h.bl k, (Rise.refl st).mono fun p ⟨x, _, hx⟩ => absurd rfl hx, Fr.of_bl k⟩
theorem store_some {T : Nat → Prop} {w : World} {sb n0 : Nat} {L : List Rg} {M st : Nat → Int} {mo ba en : Int} (h : MS T w sb n0 L M st mo ba en) (a : Nat) (n x : Int) (ha : a < 2 ^ 64) (hn0 : n0 < 80000000) (hT : ∀ b, w.heap.size ≤ b → T b) :
    Calls Tryz.prog 23 #[addr0 sb, .int .u64 (a : Int), .int .i64 n, .int .u64 x] w fun e w' => (∃ k y, e = .returned (faultV k y) ∧ Wd y) ∧ ∃ n1, n1 ≤ n0 + 9 ∧ ∃ M' st', MS T w' sb n1 L M' st' mo ba en ∧ Rise st st' (fun p => ∃ x : Nat, x / 4096 = p ∧ M' x ≠ M x) ∧ Fr T w w' := by
  by_cases hn : n = 1 ∨ n = 2 ∨ n = 4 ∨ n = 8
  · obtain ⟨m, rfl⟩ := Int.eq_ofNat_of_zero_le (show 0 ≤ n by omega)
    refine (mstore_any h a m x ha (by omega) hn0 hT).mono ?_
    rintro e w' ⟨k, y, rfl, hh⟩
    refine ⟨⟨k, y, rfl, ?_⟩, n0 + 9, Nat.le_refl _, ?_⟩
    · rcases hh with ⟨_, h2, h3, _, h5, _⟩ | ⟨_, rfl, _⟩
      · exact Wd.fault h.so (Wd.nat ha) h2 h3 (by omega) h5
      · exact Wd.zero
    rcases hh with ⟨_, _, _, _, _, kk⟩ | ⟨_, _, _, st', h3, r3, f3⟩
    · exact ⟨M, st, (h.bl kk).mono (by omega), (Rise.refl st).mono fun p ⟨x, _, hx⟩ => absurd rfl hx, Fr.of_bl kk⟩
    · refine ⟨_, st', h3, r3.mono fun p ⟨y, hy, hx⟩ => ?_, f3⟩
      have := lay_ne hx
      rw [putB_length] at this
      exact ⟨y, this.1, this.2, hy.symm⟩
  · refine (store_bad sb a n x hn (Wd.nat ha)).mono ?_
    rintro e w' ⟨k, y, rfl, wd, kk⟩
    exact ⟨⟨k, y, rfl, wd⟩, n0, by omega, SomeStore.none_ h kk⟩
set_option maxHeartbeats 4000000 in
theorem fetch_some {T : Nat → Prop} {w : World} {sb n0 : Nat} {L : List Rg} {M st : Nat → Int} {mo ba en : Int} (h : MS T w sb n0 L M st mo ba en) (a : Nat) (ha : a < 2 ^ 64) :
    Calls Tryz.prog 18 #[addr0 sb, .int .u64 (a : Int)] w (SomeLoad .u32 w) := by
  unfold addr0
  by_cases hodd : (a : Int) % 2 = 0
  · have t1 : ((a : Int) % 2 != 0) = false := by simp [hodd]
    have c1 := half_any (h.bl (Bl.new w (.cells #[.int .i64 0, .int .u64 0] 50))) a ha
    have c2 := fun W (hW : Bl w W) => half_any (h.bl hW) ((a + 2) % 18446744073709551616) (by omega)
    have C1 := Lib.hid c1; clear c1
    have C2 := Lib.hid c2; clear c2 h
    have HOD := Lib.hid hodd; clear hodd
    unfold addr0 at *
    go_enter Tryz.func18, Tryz.ntmps18
    go_wp2_with fail
    refine C1.out.mono ?_
    rintro e w1 ⟨y, k, x, rfl, y0, y1, wd, kk⟩
    have WD := Lib.hid wd; clear wd
    have hb := new2 w w1 _ _ _ kk
    have k1 := (Bl.new w (.cells #[.int .i64 0, .int .u64 0] 50)).trans kk
    clear C1 kk
    have hb2 := (Bl.new w1 (.cells #[.int .i64 k, .int .u64 x] 50)).at_ hb
    have hb3 := heap_alloc_new w1 (.cells #[.int .i64 k, .int .u64 x] 50)
    have K2 := Lib.hid (k1.alloc (.cells #[.int .i64 k, .int .u64 x] 50))
    obtain ⟨d0, d1⟩ := two_cells hb2
    obtain ⟨d2, d3⟩ := two_cells hb3
    have fz : ∀ i, (w1.alloc (.cells #[.int .i64 k, .int .u64 x] 50)).frozen? ⟨w.heap.size, i, none⟩ = false := fun i => by simp [World.frozen?, hb2]
    have f00 := fz 0
    have f01 := fz 1
    have HB2 := Lib.hid hb2
    have HB3 := Lib.hid hb3
    have hlt1 : w.heap.size < w1.heap.size := lt_at hb
    clear hb k1 hb2 hb3 fz
    unfold faultV
    by_cases hk : k = 0
    · subst hk
      by_cases hb : bits .and .u32 y 3 = 3
      · have tb : (bits .and .u32 y 3 != 3) = false := by simp [hb]
        have e2 : IntKind.u64.wrap ((a : Int) + 2) = (((a + 2) % 18446744073709551616 : Nat) : Int) := by rw [IntKind.wrap_u64]; omega
        clear hb
        have E2 := Lib.hid e2; clear e2
        go_wp2_with fail
        rw [E2.out]
        refine (C2.out _ K2.out).mono ?_
        rintro e w2 ⟨y2, k2, x2, rfl, z0, z1, wd2, kk2⟩
        have WD2 := Lib.hid wd2; clear wd2
        have hb4 := kk2.at_ HB2.out
        have hb5 := kk2.at_ HB3.out
        have K4 := Lib.hid (K2.out.trans kk2)
        clear d0 d1 d2 d3 f00 f01 C2 kk2
        obtain ⟨d0, d1⟩ := two_cells hb4
        obtain ⟨d2, d3⟩ := two_cells hb5
        have fz : ∀ i, w2.frozen? ⟨w.heap.size, i, none⟩ = false := fun i => by simp [World.frozen?, hb4]
        have fy : ∀ i, w2.frozen? ⟨w1.heap.size, i, none⟩ = false := fun i => by simp [World.frozen?, hb5]
        have f10 := fy 0
        have f11 := fy 1
        have hne : w.heap.size ≠ w1.heap.size := by omega
        have hb6 : ((w2.setCell ⟨w1.heap.size, 0, none⟩ (.int .i64 k2)).setCell ⟨w1.heap.size, 1, none⟩ (.int .u64 x2)).heap[w.heap.size]? = some (.cells #[.int .i64 0, .int .u64 0] 50 (0, 0)) := by
          rw [Below.heap_setCell _ _ _ _ hne, Below.heap_setCell _ _ _ _ hne]; exact hb4
        have hb7 := set2 (.int .i64 k2) (.int .u64 x2) hb5
        have hsz : w.heap.size ≤ w1.heap.size := by omega
        have K7 := Lib.hid ((K4.out.set (p := ⟨w1.heap.size, 0, none⟩) hsz (.int .i64 k2)).set (p := ⟨w1.heap.size, 1, none⟩) hsz (.int .u64 x2))
        have HB6 := Lib.hid hb6
        have HB7 := Lib.hid hb7
        clear hb6 hb7 hb4 hb5 fz fy
        unfold faultV
        go_upto_region 7 with (fail)
        clear d0 d1 d2 d3 f10 f11
        generalize (w2.setCell ⟨w1.heap.size, 0, none⟩ (.int .i64 k2)).setCell ⟨w1.heap.size, 1, none⟩ (.int .u64 x2) = W at *
        obtain ⟨d0, d1⟩ := two_cells HB6.out
        obtain ⟨d2, d3⟩ := two_cells HB7.out
        have fz : ∀ i, W.frozen? ⟨w.heap.size, i, none⟩ = false := fun i => by simp [World.frozen?, HB6.out]
        have f00 := fz 0
        have f01 := fz 1
        clear fz
        by_cases hk2 : k2 = 0
        · subst hk2
          go_wp2_with fail
          (try simp only [Exit.inBlock, Exit.then])
          refine bodyPost_ret (results_tmp_row rfl _ _ w.heap.size 50 _ (0, 0) _ rfl (set2 _ _ HB6.out) Tryz.underlying50 rfl (by kernel_rfl)) rfl ?_
          exact ⟨_, 0, 0, rfl, (fun e => by cases e), Wd.zero, (K7.out.set (Nat.le_refl _) _).set (Nat.le_refl _) _⟩
        · have tk : (k2 != 0) = true := by simp [hk2]
          clear hk2
          go_wp2_with fail
          go_region
          all_goals (
            (try go_wp2_with fail)
            (try simp only [Exit.inBlock, Exit.then])
            refine bodyPost_ret (results_tmp_row rfl _ _ w.heap.size 50 _ (0, 0) _ rfl (set2 _ _ HB6.out) Tryz.underlying50 rfl (by kernel_rfl)) rfl ?_
            exact ⟨0, k2, x2, rfl, (fun e => by cases e), WD2.out, (K7.out.drew.set (Nat.le_refl _) _).set (Nat.le_refl _) _⟩)
      · have tb : (bits .and .u32 y 3 != 3) = true := by simp [hb]
        clear hb C2
        go_wp2_with fail
        generalize w1.alloc (.cells #[.int .i64 0, .int .u64 x] 50) = W at *
        go_region
        all_goals (
          (try go_wp2_with fail)
          (try simp only [Exit.inBlock, Exit.then])
          refine bodyPost_ret (results_tmp_row rfl _ _ w.heap.size 50 _ (0, 0) _ rfl (set2 _ _ HB2.out) Tryz.underlying50 rfl (by kernel_rfl)) rfl ?_
          exact ⟨y, 0, x, rfl, (fun e => by cases e), WD.out, (K2.out.drew.set (Nat.le_refl _) _).set (Nat.le_refl _) _⟩)
    · have tk : (k != 0) = true := by simp [hk]
      clear hk C2
      go_wp2_with fail
      generalize w1.alloc (.cells #[.int .i64 k, .int .u64 x] 50) = W at *
      go_region
      all_goals (
        (try go_wp2_with fail)
        (try simp only [Exit.inBlock, Exit.then])
        refine bodyPost_ret (results_tmp_row rfl _ _ w.heap.size 50 _ (0, 0) _ rfl (set2 _ _ HB2.out) Tryz.underlying50 rfl (by kernel_rfl)) rfl ?_
        exact ⟨y, k, x, rfl, (fun e => by cases e), WD.out, (K2.out.drew.set (Nat.le_refl _) _).set (Nat.le_refl _) _⟩)
  · have t1 : ((a : Int) % 2 != 0) = true := by simp [hodd]
    clear h
    go_enter Tryz.func18, Tryz.ntmps18
    go_wp2_with fail
    (try simp only [Exit.inBlock, Exit.then])
    refine bodyPost_ret (results_tmp_row rfl _ _ w.heap.size 50 _ (0, 0) _ rfl (heap_alloc_new w _) Tryz.underlying50 rfl (by kernel_rfl)) rfl ?_
    exact ⟨0, 3, a, rfl, (fun e => by cases e), Wd.nat ha, Bl.new _ _⟩
end Go.Proofs.YtepffglljmekiaaGreat

set_option linter.unusedVariables false
set_option linter.unusedSimpArgs false
namespace Go.Proofs.YtepffglljmekiaaGreat
open Go.RowKit
set_option maxRecDepth 100000
/-- A place's prot; -1: it is not mapped. -/
def ProtIs (L : List Rg) (a q : Int) : Prop := In L a q ∨ (q = -1 ∧ ∀ p, ¬ In L a p)
set_option maxHeartbeats 2000000 in
theorem lprot_any {T : Nat → Prop} {w : World} {sb n : Nat} {L : List Rg} {M st : Nat → Int} {mo ba en : Int} (h : MS T w sb n L M st mo ba en) (a : Int) : Calls Tryz.prog 9 #[addr0 sb, .int .u64 a] w fun e w' => ∃ q, e = .returned (.int .i64 q) ∧ ProtIs L a q ∧ Bl w w' := by
  have cr := mregions_any h
  have hfew := h.few
  have CR := Lib.hid cr; clear cr h
  unfold addr0 at *
  go_enter Tryz.func9, Tryz.ntmps9
  go_wp2_with fail
  refine CR.out.mono ?_
  rintro e w1 ⟨v, rfl, r, k1⟩
  obtain ⟨A, cap, hv⟩ := r.shape
  subst hv
  have R := Lib.hid r; clear r
  have K1 := Lib.hid k1; clear k1 CR
  obtain ⟨n0, hn0⟩ : ∃ n0, n0 = L.length := ⟨_, rfl⟩
  rw [← hn0] at R hfew ⊢
  have HN := Lib.hid hn0; clear hn0
  have hnI : (n0 : Int) ≤ 256 := by omega
  go_wp2_with fail
  go_loopw [6] (fun iv wr => ∃ k : Nat, k ≤ n0 ∧ iv = .int .i64 k ∧ (∀ j r, j < k → L[j]? = some r → ¬ (r.s ≤ a ∧ a < r.e)) ∧ w1 = wr) (fun iv _ => n0 + 1 - (intOf iv).toNat)
  case atStart => exact ⟨0, by omega, rfl, fun j r hj => by omega, rfl⟩
  case round =>
    obtain ⟨k, hk, rfl, hno, rfl⟩ := hrel
    have HNO := Lib.hid hno; clear hno
    by_cases hlt : k < n0
    · have hltL : k < L.length := by rw [← HN.out]; exact hlt
      obtain ⟨r, hr⟩ : ∃ r, L[k]? = some r := ⟨_, List.getElem?_eq_getElem hltL⟩
      have hne : L ≠ [] := by intro e; rw [e] at hltL; simp at hltL
      obtain ⟨g, cap', cur, hA, _, hnc, hg, _⟩ := R.out.form hne
      have hA' : A = some ⟨g, 0, none⟩ := by injection hA
      subst hA'
      obtain ⟨c0, c1, c2⟩ := row_cells R.out k r hr
      clear hA hnc hg hne hltL
      have hkI : (k : Int) < (n0 : Int) := by omega
      have HR := Lib.hid hr; clear hr
      by_cases h1 : r.s ≤ a
      · by_cases h2 : a < r.e
        · go_wp2_with fail
          go_ret
          exact ⟨r.p, rfl, .inl ⟨r, List.mem_of_getElem? HR.out, h1, h2, rfl⟩, K1.out⟩
        · have h2' : r.e ≤ a := by omega
          go_wp2_with fail
          refine ⟨⟨k + 1, by omega, by go_num, fun j q hj hq => ?_, (by first | rfl | trivial)⟩, by simp only [intOf]; omega⟩
          by_cases hjk : j = k
          · subst hjk; rw [HR.out] at hq; cases hq; omega
          · exact HNO.out j q (by omega) hq
      · have h1' : a < r.s := by omega
        go_wp2_with fail
        refine ⟨⟨k + 1, by omega, by go_num, fun j q hj hq => ?_, (by first | rfl | trivial)⟩, by simp only [intOf]; omega⟩
        by_cases hjk : j = k
        · subst hjk; rw [HR.out] at hq; cases hq; omega
        · exact HNO.out j q (by omega) hq
    · obtain rfl : k = n0 := by omega
      go_wp2_with fail
      go_ret
      refine ⟨-1, rfl, .inr ⟨rfl, fun p ⟨r, hr, h1, h2, _⟩ => ?_⟩, K1.out⟩
      obtain ⟨j, hj, he⟩ := List.getElem_of_mem hr
      exact HNO.out j r (by rw [HN.out]; exact hj) (by rw [List.getElem?_eq_getElem hj, he]) ⟨h1, h2⟩
theorem place_any (x : Int) (w : World) (h0 : 0 ≤ x) (h1 : x ≤ 18446744073709551615) : Calls Tryz.prog 33 #[.int .u64 x] w fun e w' => ∃ a : Nat, e = .returned (.int .u64 (a : Int)) ∧ a < 2 ^ 64 ∧ w = w' := by
  have h6 : x % 8 = 6 ∨ x % 8 = 7 ∨ (x % 8 ≠ 6 ∧ x % 8 ≠ 7) := by omega
  rcases h6 with h6 | h6 | ⟨h6, h7⟩
  · have t1 : (x % 8 == 6) = true := by simp [h6]
    have q0 : 0 ≤ x / 8 % 80000 := by omega
    have q1 : x / 8 % 80000 < 80000 := by omega
    clear h6
    go_enter Tryz.func33, Tryz.ntmps33
    go_wp2
    go_ret
    exact ⟨(274877793216 + x / 8 % 80000).toNat, by rw [Int.toNat_of_nonneg (by omega)]; rfl, by omega, rfl⟩
  · have t1 : (x % 8 == 6) = false := by simp [h6]
    have t2 : (x % 8 == 7) = true := by simp [h6]
    clear h6
    go_enter Tryz.func33, Tryz.ntmps33
    go_wp2
    go_ret
    exact ⟨(x / 8).toNat, by rw [Int.toNat_of_nonneg (by omega)]; rfl, by omega, rfl⟩
  · have t1 : (x % 8 == 6) = false := by simp [h6]
    have t2 : (x % 8 == 7) = false := by simp [h7]
    clear h6 h7
    go_enter Tryz.func33, Tryz.ntmps33
    go_wp2
    go_ret
    exact ⟨(x / 8 % 70000).toNat, by rw [Int.toNat_of_nonneg (by omega)]; rfl, by omega, rfl⟩
end Go.Proofs.YtepffglljmekiaaGreat
