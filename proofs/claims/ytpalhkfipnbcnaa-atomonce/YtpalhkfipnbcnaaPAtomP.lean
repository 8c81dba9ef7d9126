/-
  The walk of AtomOnce.
-/
import Derived.Test.YtpalhkfipnbcnaaQ21
set_option linter.unusedVariables false
set_option linter.unusedSimpArgs false
namespace Go.Proofs.Ytpalhkfipnbcnaa
open Go.RowKit
set_option maxRecDepth 100000
theorem sextI_mod4 (x : Int) : sextI (x % 4294967296) 32 = sextI x 32 := by rw [sextI_32, sextI_32]; omega
theorem sextI_mod8 (x : Int) (h0 : 0 ≤ x) (h : x < 18446744073709551616) : sextI (x % 18446744073709551616) 64 = sextI x 64 := by rw [Int.emod_eq_of_lt h0 h]
theorem two_sets {K : Nat → Prop} {w : World} {sb rb n : Nat} {L L2 : List Rg} {M st M2 : Nat → Int} {mo ba en : Int} (h : Two K w sb rb n L M st mo ba en L2 M2) {g g2 : Nat} (hg : K g) (hg2 : K g2) (x y p q r : Value) : Two K (((((w.setCell ⟨g, 0, none⟩ x).setCell ⟨g, 1, none⟩ y).setCell ⟨g2, 0, none⟩ p).setCell ⟨g2, 1, none⟩ q).setCell ⟨g2, 2, none⟩ r) sb rb n L M st mo ba en L2 M2 :=
  h.kept (set_two (g := g) (g2 := g2) x y p q r) (fun b _ e => by rcases e with e | e <;> rw [e]; exact hg; exact hg2) (by simp [World.setCell])
set_option maxHeartbeats 16000000 in
theorem once4e (a0 a1 x y : Int) (w : World) (g0 : 0 ≤ a0 ∧ a0 ≤ 65535) (g1 : 0 ≤ a1 ∧ a1 ≤ 65535) (gx : 0 ≤ x ∧ x < 18446744073709551616) (gy : 0 ≤ y ∧ y < 18446744073709551616) (A B : Nat) (hA : 4096 + a0 % 1500 * 4 = (A : Int)) (hB : 4096 + a1 % 1500 * 4 = (B : Int)) (hab : A = B) :
    Calls Try.prog 6 #[.int .u16 a0, .int .u16 a1, .int .u64 x, .int .u64 y, .bool false] w fun e w' => e = .returned (.bool true) ∧ Bl w w' := by
  obtain ⟨g00, g01⟩ := g0
  obtain ⟨g10, g11⟩ := g1
  have hAn : 4096 ≤ A ∧ A + 4 ≤ 16384 ∧ (A : Int) % 4 = 0 := by omega
  have hBn : 4096 ≤ B ∧ B + 4 ≤ 16384 ∧ (B : Int) % 4 = 0 := by omega
  have tab : ((A : Int) == (B : Int)) = true := by simp [hab]
  have HA := Lib.hid hA; clear hA
  have HB := Lib.hid hB; clear hB
  have HAN := Lib.hid hAn; clear hAn
  have HBN := Lib.hid hBn; clear hBn
  have HAB := Lib.hid hab; clear hab
  have HX := Lib.hid gx; clear gx
  have HY := Lib.hid gy; clear gy
  go_enter Try.func6, Try.ntmps6
  go_wp2_with fail
  refine (spaces_any none 0 0 (fun _ => 0) _ (fun h => absurd h (by omega)) (by omega)).mono ?_
  rintro e w1 ⟨sb, rb, hb, n1, L, st, rfl, hki, hn1, h2, hh, hlt, kk⟩
  have HKI := Lib.hid hki; clear hki
  have HN1 := Lib.hid hn1; clear hn1
  have HK1 := Lib.hid kk; clear kk hh hlt
  obtain ⟨K, hK⟩ : ∃ K : Nat → Prop, K = fun b => b < w.heap.size ∨ b = hb := ⟨_, rfl⟩
  rw [← hK] at h2
  have hKq : ∀ q, q < w.heap.size → K q := fun q hq => by rw [hK]; exact .inl hq
  have HKQ := Lib.hid hKq; clear hKq hK
  have cst := two_store h2 A 4 x (by have := HAN.out; omega) (by omega) (by have := HN1.out; omega) (can_all HKI.out 2 (by omega) A 4 HAN.out.1 HAN.out.2.1)
  rw [show (((4 : Nat)) : Int) = 4 from rfl] at cst
  have CST := Lib.hid cst; clear cst h2
  unfold addr0 at *
  go_wp2_with fail
  rw [HA.out, HB.out]
  with_reducible refine CST.out.mono ?_
  rintro e w2 ⟨rfl, ⟨st1, h2⟩, f2⟩
  have HK2 := Lib.hid (bl_fr HKQ.out HK1.out f2); clear f2
  obtain ⟨M1, hM1⟩ : ∃ M1, M1 = lay zM A (putB x 4) := ⟨_, rfl⟩
  rw [← hM1] at h2
  have hnum : numAt M1 A 4 = x % 4294967296 := by rw [hM1, numAt_lay]; rfl
  have HNUM := Lib.hid hnum; clear hnum hM1
  have cs1 := two_step h2 0 0 63 A 0 (by have := HAN.out; omega) (by omega) (by omega) (by have := HN1.out; omega)
  have CS1 := Lib.hid cs1; clear cs1 h2
  unfold addr0 holdV at *
  go_wp2_with fail
  with_reducible refine CS1.out.mono ?_
  rintro e w3 ⟨o, M', rfl, hs, ⟨st2, h3⟩, f3⟩
  obtain ⟨ho, hM'⟩ := hs.one (StepIs.lrYes (by simp) (by show (A : Int) % 4 = 0; exact HAN.out.2.2) (can_all HKI.out 1 (by omega) A 4 HAN.out.1 HAN.out.2.1))
  subst ho
  rw [hM'] at h3
  have HK3 := Lib.hid (bl_fr HKQ.out HK2.out f3); clear f3 hs
  have hold1 : sextI (numAt M1 A 4) 32 = sextI x 32 := by rw [HNUM.out]; exact sextI_mod4 x
  have e1 : (⟨sextI (numAt M1 A (awid 63)) (8 * (awid 63 : Int)), (A : Int), (awid 63 : Int), 0, 0, 0⟩ : Out).v = .tuple #[.int .u64 (sextI x 32), .agg #[.int .u64 (A : Int), .int .i64 4], .agg #[.int .i64 0, .int .i64 0, .int .u64 0]] := by
    rw [← hold1]; rfl
  rw [e1]
  clear e1 hold1
  -- the law's two blocks
  have k3 : Bl w3 ((w3.alloc (.cells #[.int .u64 (A : Int), .int .i64 4] 37)).alloc (.cells #[.int .i64 0, .int .i64 0, .int .u64 0] 43)) := ((Bl.refl w3).alloc _).alloc _
  have H4 := Lib.hid (h3.bl k3)
  obtain ⟨b0, b1, _⟩ := three_new w3 (.cells #[.int .u64 (A : Int), .int .i64 4] 37) (.cells #[.int .i64 0, .int .i64 0, .int .u64 0] 43) (.cells #[] 43)
  have b0' : ((w3.alloc (.cells #[.int .u64 (A : Int), .int .i64 4] 37)).alloc (.cells #[.int .i64 0, .int .i64 0, .int .u64 0] 43)).heap[w3.heap.size]? = some (.cells #[.int .u64 (A : Int), .int .i64 4] 37 (0, 0)) := (Bl.new _ _).at_ (heap_alloc_new w3 _)
  have b1' : ((w3.alloc (.cells #[.int .u64 (A : Int), .int .i64 4] 37)).alloc (.cells #[.int .i64 0, .int .i64 0, .int .u64 0] 43)).heap[w3.heap.size + 1]? = some (.cells #[.int .i64 0, .int .i64 0, .int .u64 0] 43 (0, 0)) := by
    have := heap_alloc_new (w3.alloc (.cells #[.int .u64 (A : Int), .int .i64 4] 37)) (.cells #[.int .i64 0, .int .i64 0, .int .u64 0] 43)
    rwa [show (w3.alloc (.cells #[.int .u64 (A : Int), .int .i64 4] 37)).heap.size = w3.heap.size + 1 by simp] at this
  have hsz : ((w3.alloc (.cells #[.int .u64 (A : Int), .int .i64 4] 37)).alloc (.cells #[.int .i64 0, .int .i64 0, .int .u64 0] 43)).heap.size = w3.heap.size + 2 := by simp
  have HSZ := Lib.hid hsz; clear hsz b0 b1
  have HB0 := Lib.hid b0'; clear b0'
  have HB1 := Lib.hid b1'; clear b1'
  have HK4 := Lib.hid (HK3.out.trans k3); clear k3 h3
  have cans := fun w => aanswers_any w
  have CANS := Lib.hid cans; clear cans
  have csx := fun w => refSext_any x 32 w HX.out.1
  have CSX := Lib.hid csx; clear csx
  have hq1 : ∀ W, (Go.binOp .neq 37 (.agg #[.int .u64 (A : Int), .int .i64 4]) (.agg #[.int .u64 (A : Int), .int .i64 4])).run Try.prog W = .ok (.bool false) W := fun W => by rw [hold_neq]; simp
  have hq2 : ∀ W, (Go.binOp .neq 37 (.agg #[.int .u64 0, .int .i64 0]) (.agg #[.int .u64 0, .int .i64 0])).run Try.prog W = .ok (.bool false) W := fun W => by rw [hold_neq]; simp
  have hq3 : ∀ W, (Go.binOp .eql 37 (.agg #[.int .u64 0, .int .i64 0]) (.agg #[.int .u64 0, .int .i64 0])).run Try.prog W = .ok (.bool true) W := fun W => by rw [hold_eql]; simp
  go_upto_region 9 with (fail)
  generalize (w3.alloc (.cells #[.int .u64 (A : Int), .int .i64 4] 37)).alloc (.cells #[.int .i64 0, .int .i64 0, .int .u64 0] 43) = W at *
  obtain ⟨ga, hga⟩ : ∃ ga, ga = w3.heap.size := ⟨_, rfl⟩
  rw [← hga] at H4 HB0 HB1 HSZ ⊢
  have HGA := Lib.hid hga; clear hga
  obtain ⟨c0, c1, f0, f1⟩ := row2 HB0.out
  obtain ⟨d0, d1, d2, r0, r1, r2⟩ := row3 HB1.out
  obtain ⟨K2, hK2⟩ : ∃ K2 : Nat → Prop, K2 = fun b => K b ∨ ga ≤ b ∧ b < W.heap.size := ⟨_, rfl⟩
  rw [← hK2] at H4
  have K2a := Lib.hid (show K2 ga by rw [hK2]; exact .inr ⟨Nat.le_refl _, by rw [HSZ.out]; omega⟩)
  have K2b := Lib.hid (show K2 (ga + 1) by rw [hK2]; exact .inr ⟨by omega, by rw [HSZ.out]; omega⟩)
  have HKQ2 := Lib.hid (show ∀ q, q < w.heap.size → K2 q from fun q hq => by rw [hK2]; exact .inl (HKQ.out q hq)); clear hK2
  have GAW := Lib.hid (show w.heap.size ≤ ga by have := HK3.out.size; have := HGA.out; omega)
  have cs2 := two_step H4.out A 4 64 B y (by have := HBN.out; omega) HY.out.1 HY.out.2 (by have := HN1.out; omega)
  have CS2 := Lib.hid cs2; clear cs2 H4
  unfold addr0 holdV at *
  go_wp2_with fail
  with_reducible refine (CANS.out _).mono ?_
  rintro e w' ⟨rfl, rfl⟩
  go_wp2_with fail
  with_reducible refine (CSX.out _).mono ?_
  rintro e w' ⟨rfl, rfl⟩
  go_wp2_with fail
  with_reducible refine CS2.out.mono ?_
  rintro e w5 ⟨o, M2, rfl, hs, ⟨st3, h5⟩, f5⟩
  obtain ⟨ho, hM2⟩ := hs.one (StepIs.scYes (by simp) (by show (B : Int) % 4 = 0; exact HBN.out.2.2) (can_all HKI.out 2 (by omega) B 4 HBN.out.1 HBN.out.2.1) ⟨by have := HAB.out; omega, rfl⟩)
  subst ho
  have hnum2 : numAt M2 A 4 = y % 4294967296 := by rw [hM2, HAB.out]; exact numAt_lay M1 B 4 y
  have HNUM2 := Lib.hid hnum2; clear hnum2 hM2 hs
  have EB := Lib.hid (f5.at_ HB0.out (fun e => e K2a.out))
  have ES := Lib.hid (f5.at_ HB1.out (fun e => e K2b.out))
  have HK5 := Lib.hid (bl_fr HKQ2.out HK4.out f5); clear f5
  have H5 := Lib.hid h5; clear h5
  clear c0 c1 f0 f1 d0 d1 d2 r0 r1 r2 HB0 HB1 HK4
  obtain ⟨c0, c1, f0, f1⟩ := row2 EB.out
  obtain ⟨d0, d1, d2, r0, r1, r2⟩ := row3 ES.out
  unfold Out.v holdV stopV
  have H5' := Lib.hid (two_sets H5.out (g := ga) (g2 := ga + 1) (K2a.out) (K2b.out) (.int .u64 0) (.int .i64 0) (.int .i64 0) (.int .i64 0) (.int .u64 0))
  obtain ⟨s1, s2, s3⟩ := set_both (S := fun _ => False) (w0 := w) (by omega) EB.out ES.out (.int .u64 0) (.int .i64 0) (.int .i64 0) (.int .i64 0) (.int .u64 0) (Fr.of_bl HK5.out) GAW.out (by have := GAW.out; omega)
  go_upto_region 12 with (fail)
  have HK5' := Lib.hid (s3.bl (fun _ _ e => e) : Bl w (((((w5.setCell ⟨ga, 0, none⟩ (.int .u64 0)).setCell ⟨ga, 1, none⟩ (.int .i64 0)).setCell ⟨ga + 1, 0, none⟩ (.int .i64 0)).setCell ⟨ga + 1, 1, none⟩ (.int .i64 0)).setCell ⟨ga + 1, 2, none⟩ (.int .u64 0))); clear s3 HK5
  generalize (((((w5.setCell ⟨ga, 0, none⟩ (.int .u64 0)).setCell ⟨ga, 1, none⟩ (.int .i64 0)).setCell ⟨ga + 1, 0, none⟩ (.int .i64 0)).setCell ⟨ga + 1, 1, none⟩ (.int .i64 0)).setCell ⟨ga + 1, 2, none⟩ (.int .u64 0)) = W6 at *
  have EB' := Lib.hid s1; clear s1 EB
  have ES' := Lib.hid s2; clear s2 ES
  clear c0 c1 f0 f1 d0 d1 d2 r0 r1 r2
  obtain ⟨c0, c1, f0, f1⟩ := row2 EB'.out
  obtain ⟨d0, d1, d2, r0, r1, r2⟩ := row3 ES'.out
  have cs3 := two_step H5'.out 0 0 64 A x (by have := HAN.out; omega) HX.out.1 HX.out.2 (by have := HN1.out; omega)
  have CS3 := Lib.hid cs3; clear cs3
  unfold addr0 holdV at *
  go_wp2_with fail
  with_reducible refine CS3.out.mono ?_
  rintro e w7 ⟨o, M3, rfl, hs, ⟨st4, h7⟩, f7⟩
  obtain ⟨ho, hM3⟩ := hs.one (StepIs.scNo (by simp) (by show (A : Int) % 4 = 0; exact HAN.out.2.2) (can_all HKI.out 2 (by omega) A 4 HAN.out.1 HAN.out.2.1) (fun h => by have h9 : (0 : Int) = 4 := h.2; omega))
  subst ho
  rw [hM3] at h7
  clear hM3 hs
  have EC := Lib.hid (f7.at_ EB'.out (fun e => e K2a.out))
  have EU := Lib.hid (f7.at_ ES'.out (fun e => e K2b.out))
  have HK7 := Lib.hid (bl_fr HKQ2.out HK5'.out f7); clear f7
  have H7 := Lib.hid h7; clear h7
  clear c0 c1 f0 f1 d0 d1 d2 r0 r1 r2 EB' ES'
  obtain ⟨c0, c1, f0, f1⟩ := row2 EC.out
  obtain ⟨d0, d1, d2, r0, r1, r2⟩ := row3 EU.out
  unfold Out.v holdV stopV
  have H7' := Lib.hid (two_sets H7.out (g := ga) (g2 := ga + 1) (K2a.out) (K2b.out) (.int .u64 0) (.int .i64 0) (.int .i64 0) (.int .i64 0) (.int .u64 0))
  obtain ⟨s1, s2, s3⟩ := set_both (S := fun _ => False) (w0 := w) (by omega) EC.out EU.out (.int .u64 0) (.int .i64 0) (.int .i64 0) (.int .i64 0) (.int .u64 0) (Fr.of_bl HK7.out) GAW.out (by have := GAW.out; omega)
  go_upto_region 15 with (fail)
  have HK7' := Lib.hid (s3.bl (fun _ _ e => e) : Bl w (((((w7.setCell ⟨ga, 0, none⟩ (.int .u64 0)).setCell ⟨ga, 1, none⟩ (.int .i64 0)).setCell ⟨ga + 1, 0, none⟩ (.int .i64 0)).setCell ⟨ga + 1, 1, none⟩ (.int .i64 0)).setCell ⟨ga + 1, 2, none⟩ (.int .u64 0))); clear s3 HK7
  generalize (((((w7.setCell ⟨ga, 0, none⟩ (.int .u64 0)).setCell ⟨ga, 1, none⟩ (.int .i64 0)).setCell ⟨ga + 1, 0, none⟩ (.int .i64 0)).setCell ⟨ga + 1, 1, none⟩ (.int .i64 0)).setCell ⟨ga + 1, 2, none⟩ (.int .u64 0)) = W8 at *
  have EC' := Lib.hid s1; clear s1 EC
  have EU' := Lib.hid s2; clear s2 EU
  clear c0 c1 f0 f1 d0 d1 d2 r0 r1 r2
  obtain ⟨c0, c1, f0, f1⟩ := row2 EC'.out
  obtain ⟨d0, d1, d2, r0, r1, r2⟩ := row3 EU'.out
  have cld := two_load H7'.out A 4 (by have := HAN.out; omega) (by omega) (can_all HKI.out 1 (by omega) A 4 HAN.out.1 HAN.out.2.1)
  rw [HNUM2.out, show (((4 : Nat)) : Int) = 4 from rfl] at cld
  have CLD := Lib.hid cld; clear cld
  have hsh := fun z : Int => shl_shr z 32 (by omega)
  unfold addr0 at *
  go_wp2_with fail
  with_reducible refine CLD.out.mono ?_
  rintro e w9 ⟨rfl, k9⟩
  have k10 : Bl W8 (w9.alloc (.cells #[.int .i64 0, .int .u64 0] 41)) := k9.trans (Bl.new _ _)
  clear c0 c1 f0 f1 d0 d1 d2 r0 r1 r2
  obtain ⟨c0, c1, f0, f1⟩ := row2 (k10.at_ EC'.out)
  obtain ⟨d0, d1, d2, r0, r1, r2⟩ := row3 (k10.at_ EU'.out)
  have HK10 := Lib.hid (HK7'.out.trans k10); clear k10 k9
  unfold faultV
  go_upto_region 19 with (fail)
  generalize w9.alloc (.cells #[.int .i64 0, .int .u64 0] 41) = W10 at *
  have hx0 := HX.out.1
  have hx1 := HX.out.2
  have hy0 := HY.out.1
  have hy1 := HY.out.2
  go_wp2_with fail
  go_ret
  exact ⟨ret_bool (beq_iff_eq.2 (by simp only [IntKind.wrap_u64]; omega)), HK10.out⟩
set_option maxHeartbeats 16000000 in
theorem once4d (a0 a1 x y : Int) (w : World) (g0 : 0 ≤ a0 ∧ a0 ≤ 65535) (g1 : 0 ≤ a1 ∧ a1 ≤ 65535) (gx : 0 ≤ x ∧ x < 18446744073709551616) (gy : 0 ≤ y ∧ y < 18446744073709551616) (A B : Nat) (hA : 4096 + a0 % 1500 * 4 = (A : Int)) (hB : 4096 + a1 % 1500 * 4 = (B : Int)) (hab : A ≠ B) :
    Calls Try.prog 6 #[.int .u16 a0, .int .u16 a1, .int .u64 x, .int .u64 y, .bool false] w fun e w' => e = .returned (.bool true) ∧ Bl w w' := by
  obtain ⟨g00, g01⟩ := g0
  obtain ⟨g10, g11⟩ := g1
  have hAn : 4096 ≤ A ∧ A + 4 ≤ 16384 ∧ (A : Int) % 4 = 0 := by omega
  have hBn : 4096 ≤ B ∧ B + 4 ≤ 16384 ∧ (B : Int) % 4 = 0 := by omega
  have tab : ((A : Int) == (B : Int)) = false := by simp; omega
  have HA := Lib.hid hA; clear hA
  have HB := Lib.hid hB; clear hB
  have HAN := Lib.hid hAn; clear hAn
  have HBN := Lib.hid hBn; clear hBn
  have HAB := Lib.hid hab; clear hab
  have HX := Lib.hid gx; clear gx
  have HY := Lib.hid gy; clear gy
  go_enter Try.func6, Try.ntmps6
  go_wp2_with fail
  refine (spaces_any none 0 0 (fun _ => 0) _ (fun h => absurd h (by omega)) (by omega)).mono ?_
  rintro e w1 ⟨sb, rb, hb, n1, L, st, rfl, hki, hn1, h2, hh, hlt, kk⟩
  have HKI := Lib.hid hki; clear hki
  have HN1 := Lib.hid hn1; clear hn1
  have HK1 := Lib.hid kk; clear kk hh hlt
  obtain ⟨K, hK⟩ : ∃ K : Nat → Prop, K = fun b => b < w.heap.size ∨ b = hb := ⟨_, rfl⟩
  rw [← hK] at h2
  have hKq : ∀ q, q < w.heap.size → K q := fun q hq => by rw [hK]; exact .inl hq
  have HKQ := Lib.hid hKq; clear hKq hK
  have cst := two_store h2 A 4 x (by have := HAN.out; omega) (by omega) (by have := HN1.out; omega) (can_all HKI.out 2 (by omega) A 4 HAN.out.1 HAN.out.2.1)
  rw [show (((4 : Nat)) : Int) = 4 from rfl] at cst
  have CST := Lib.hid cst; clear cst h2
  unfold addr0 at *
  go_wp2_with fail
  rw [HA.out, HB.out]
  with_reducible refine CST.out.mono ?_
  rintro e w2 ⟨rfl, ⟨st1, h2⟩, f2⟩
  have HK2 := Lib.hid (bl_fr HKQ.out HK1.out f2); clear f2
  obtain ⟨M1, hM1⟩ : ∃ M1, M1 = lay zM A (putB x 4) := ⟨_, rfl⟩
  rw [← hM1] at h2
  have hnum : numAt M1 A 4 = x % 4294967296 := by rw [hM1, numAt_lay]; rfl
  have HNUM := Lib.hid hnum; clear hnum hM1
  have cs1 := two_step h2 0 0 63 A 0 (by have := HAN.out; omega) (by omega) (by omega) (by have := HN1.out; omega)
  have CS1 := Lib.hid cs1; clear cs1 h2
  unfold addr0 holdV at *
  go_wp2_with fail
  with_reducible refine CS1.out.mono ?_
  rintro e w3 ⟨o, M', rfl, hs, ⟨st2, h3⟩, f3⟩
  obtain ⟨ho, hM'⟩ := hs.one (StepIs.lrYes (by simp) (by show (A : Int) % 4 = 0; exact HAN.out.2.2) (can_all HKI.out 1 (by omega) A 4 HAN.out.1 HAN.out.2.1))
  subst ho
  rw [hM'] at h3
  have HK3 := Lib.hid (bl_fr HKQ.out HK2.out f3); clear f3 hs
  have hold1 : sextI (numAt M1 A 4) 32 = sextI x 32 := by rw [HNUM.out]; exact sextI_mod4 x
  have e1 : (⟨sextI (numAt M1 A (awid 63)) (8 * (awid 63 : Int)), (A : Int), (awid 63 : Int), 0, 0, 0⟩ : Out).v = .tuple #[.int .u64 (sextI x 32), .agg #[.int .u64 (A : Int), .int .i64 4], .agg #[.int .i64 0, .int .i64 0, .int .u64 0]] := by
    rw [← hold1]; rfl
  rw [e1]
  clear e1 hold1
  -- the law's two blocks
  have k3 : Bl w3 ((w3.alloc (.cells #[.int .u64 (A : Int), .int .i64 4] 37)).alloc (.cells #[.int .i64 0, .int .i64 0, .int .u64 0] 43)) := ((Bl.refl w3).alloc _).alloc _
  have H4 := Lib.hid (h3.bl k3)
  obtain ⟨b0, b1, _⟩ := three_new w3 (.cells #[.int .u64 (A : Int), .int .i64 4] 37) (.cells #[.int .i64 0, .int .i64 0, .int .u64 0] 43) (.cells #[] 43)
  have b0' : ((w3.alloc (.cells #[.int .u64 (A : Int), .int .i64 4] 37)).alloc (.cells #[.int .i64 0, .int .i64 0, .int .u64 0] 43)).heap[w3.heap.size]? = some (.cells #[.int .u64 (A : Int), .int .i64 4] 37 (0, 0)) := (Bl.new _ _).at_ (heap_alloc_new w3 _)
  have b1' : ((w3.alloc (.cells #[.int .u64 (A : Int), .int .i64 4] 37)).alloc (.cells #[.int .i64 0, .int .i64 0, .int .u64 0] 43)).heap[w3.heap.size + 1]? = some (.cells #[.int .i64 0, .int .i64 0, .int .u64 0] 43 (0, 0)) := by
    have := heap_alloc_new (w3.alloc (.cells #[.int .u64 (A : Int), .int .i64 4] 37)) (.cells #[.int .i64 0, .int .i64 0, .int .u64 0] 43)
    rwa [show (w3.alloc (.cells #[.int .u64 (A : Int), .int .i64 4] 37)).heap.size = w3.heap.size + 1 by simp] at this
  have hsz : ((w3.alloc (.cells #[.int .u64 (A : Int), .int .i64 4] 37)).alloc (.cells #[.int .i64 0, .int .i64 0, .int .u64 0] 43)).heap.size = w3.heap.size + 2 := by simp
  have HSZ := Lib.hid hsz; clear hsz b0 b1
  have HB0 := Lib.hid b0'; clear b0'
  have HB1 := Lib.hid b1'; clear b1'
  have HK4 := Lib.hid (HK3.out.trans k3); clear k3 h3
  have cans := fun w => aanswers_any w
  have CANS := Lib.hid cans; clear cans
  have csx := fun w => refSext_any x 32 w HX.out.1
  have CSX := Lib.hid csx; clear csx
  have hq1 : ∀ W, (Go.binOp .neq 37 (.agg #[.int .u64 (A : Int), .int .i64 4]) (.agg #[.int .u64 (A : Int), .int .i64 4])).run Try.prog W = .ok (.bool false) W := fun W => by rw [hold_neq]; simp
  have hq2 : ∀ W, (Go.binOp .neq 37 (.agg #[.int .u64 0, .int .i64 0]) (.agg #[.int .u64 0, .int .i64 0])).run Try.prog W = .ok (.bool false) W := fun W => by rw [hold_neq]; simp
  have hq3 : ∀ W, (Go.binOp .eql 37 (.agg #[.int .u64 0, .int .i64 0]) (.agg #[.int .u64 0, .int .i64 0])).run Try.prog W = .ok (.bool true) W := fun W => by rw [hold_eql]; simp
  go_upto_region 9 with (fail)
  generalize (w3.alloc (.cells #[.int .u64 (A : Int), .int .i64 4] 37)).alloc (.cells #[.int .i64 0, .int .i64 0, .int .u64 0] 43) = W at *
  obtain ⟨ga, hga⟩ : ∃ ga, ga = w3.heap.size := ⟨_, rfl⟩
  rw [← hga] at H4 HB0 HB1 HSZ ⊢
  have HGA := Lib.hid hga; clear hga
  obtain ⟨c0, c1, f0, f1⟩ := row2 HB0.out
  obtain ⟨d0, d1, d2, r0, r1, r2⟩ := row3 HB1.out
  obtain ⟨K2, hK2⟩ : ∃ K2 : Nat → Prop, K2 = fun b => K b ∨ ga ≤ b ∧ b < W.heap.size := ⟨_, rfl⟩
  rw [← hK2] at H4
  have K2a := Lib.hid (show K2 ga by rw [hK2]; exact .inr ⟨Nat.le_refl _, by rw [HSZ.out]; omega⟩)
  have K2b := Lib.hid (show K2 (ga + 1) by rw [hK2]; exact .inr ⟨by omega, by rw [HSZ.out]; omega⟩)
  have HKQ2 := Lib.hid (show ∀ q, q < w.heap.size → K2 q from fun q hq => by rw [hK2]; exact .inl (HKQ.out q hq)); clear hK2
  have GAW := Lib.hid (show w.heap.size ≤ ga by have := HK3.out.size; have := HGA.out; omega)
  have cs2 := two_step H4.out A 4 64 B y (by have := HBN.out; omega) HY.out.1 HY.out.2 (by have := HN1.out; omega)
  have CS2 := Lib.hid cs2; clear cs2 H4
  unfold addr0 holdV at *
  go_wp2_with fail
  with_reducible refine (CANS.out _).mono ?_
  rintro e w' ⟨rfl, rfl⟩
  go_wp2_with fail
  with_reducible refine (CSX.out _).mono ?_
  rintro e w' ⟨rfl, rfl⟩
  go_wp2_with fail
  with_reducible refine CS2.out.mono ?_
  rintro e w5 ⟨o, M2, rfl, hs, ⟨st3, h5⟩, f5⟩
  obtain ⟨ho, hM2⟩ := hs.one (StepIs.scNo (by simp) (by show (B : Int) % 4 = 0; exact HBN.out.2.2) (can_all HKI.out 2 (by omega) B 4 HBN.out.1 HBN.out.2.1) (fun h => by have := h.1; have := HAB.out; omega))
  subst ho
  have hnum2 : numAt M2 A 4 = x % 4294967296 := by rw [hM2]; exact HNUM.out
  have HNUM2 := Lib.hid hnum2; clear hnum2 hM2 hs
  have EB := Lib.hid (f5.at_ HB0.out (fun e => e K2a.out))
  have ES := Lib.hid (f5.at_ HB1.out (fun e => e K2b.out))
  have HK5 := Lib.hid (bl_fr HKQ2.out HK4.out f5); clear f5
  have H5 := Lib.hid h5; clear h5
  clear c0 c1 f0 f1 d0 d1 d2 r0 r1 r2 HB0 HB1 HK4
  obtain ⟨c0, c1, f0, f1⟩ := row2 EB.out
  obtain ⟨d0, d1, d2, r0, r1, r2⟩ := row3 ES.out
  unfold Out.v holdV stopV
  have H5' := Lib.hid (two_sets H5.out (g := ga) (g2 := ga + 1) (K2a.out) (K2b.out) (.int .u64 0) (.int .i64 0) (.int .i64 0) (.int .i64 0) (.int .u64 0))
  obtain ⟨s1, s2, s3⟩ := set_both (S := fun _ => False) (w0 := w) (by omega) EB.out ES.out (.int .u64 0) (.int .i64 0) (.int .i64 0) (.int .i64 0) (.int .u64 0) (Fr.of_bl HK5.out) GAW.out (by have := GAW.out; omega)
  go_upto_region 12 with (fail)
  have HK5' := Lib.hid (s3.bl (fun _ _ e => e) : Bl w (((((w5.setCell ⟨ga, 0, none⟩ (.int .u64 0)).setCell ⟨ga, 1, none⟩ (.int .i64 0)).setCell ⟨ga + 1, 0, none⟩ (.int .i64 0)).setCell ⟨ga + 1, 1, none⟩ (.int .i64 0)).setCell ⟨ga + 1, 2, none⟩ (.int .u64 0))); clear s3 HK5
  generalize (((((w5.setCell ⟨ga, 0, none⟩ (.int .u64 0)).setCell ⟨ga, 1, none⟩ (.int .i64 0)).setCell ⟨ga + 1, 0, none⟩ (.int .i64 0)).setCell ⟨ga + 1, 1, none⟩ (.int .i64 0)).setCell ⟨ga + 1, 2, none⟩ (.int .u64 0)) = W6 at *
  have EB' := Lib.hid s1; clear s1 EB
  have ES' := Lib.hid s2; clear s2 ES
  clear c0 c1 f0 f1 d0 d1 d2 r0 r1 r2
  obtain ⟨c0, c1, f0, f1⟩ := row2 EB'.out
  obtain ⟨d0, d1, d2, r0, r1, r2⟩ := row3 ES'.out
  have cs3 := two_step H5'.out 0 0 64 A x (by have := HAN.out; omega) HX.out.1 HX.out.2 (by have := HN1.out; omega)
  have CS3 := Lib.hid cs3; clear cs3
  unfold addr0 holdV at *
  go_wp2_with fail
  with_reducible refine CS3.out.mono ?_
  rintro e w7 ⟨o, M3, rfl, hs, ⟨st4, h7⟩, f7⟩
  obtain ⟨ho, hM3⟩ := hs.one (StepIs.scNo (by simp) (by show (A : Int) % 4 = 0; exact HAN.out.2.2) (can_all HKI.out 2 (by omega) A 4 HAN.out.1 HAN.out.2.1) (fun h => by have h9 : (0 : Int) = 4 := h.2; omega))
  subst ho
  rw [hM3] at h7
  clear hM3 hs
  have EC := Lib.hid (f7.at_ EB'.out (fun e => e K2a.out))
  have EU := Lib.hid (f7.at_ ES'.out (fun e => e K2b.out))
  have HK7 := Lib.hid (bl_fr HKQ2.out HK5'.out f7); clear f7
  have H7 := Lib.hid h7; clear h7
  clear c0 c1 f0 f1 d0 d1 d2 r0 r1 r2 EB' ES'
  obtain ⟨c0, c1, f0, f1⟩ := row2 EC.out
  obtain ⟨d0, d1, d2, r0, r1, r2⟩ := row3 EU.out
  unfold Out.v holdV stopV
  have H7' := Lib.hid (two_sets H7.out (g := ga) (g2 := ga + 1) (K2a.out) (K2b.out) (.int .u64 0) (.int .i64 0) (.int .i64 0) (.int .i64 0) (.int .u64 0))
  obtain ⟨s1, s2, s3⟩ := set_both (S := fun _ => False) (w0 := w) (by omega) EC.out EU.out (.int .u64 0) (.int .i64 0) (.int .i64 0) (.int .i64 0) (.int .u64 0) (Fr.of_bl HK7.out) GAW.out (by have := GAW.out; omega)
  go_upto_region 15 with (fail)
  have HK7' := Lib.hid (s3.bl (fun _ _ e => e) : Bl w (((((w7.setCell ⟨ga, 0, none⟩ (.int .u64 0)).setCell ⟨ga, 1, none⟩ (.int .i64 0)).setCell ⟨ga + 1, 0, none⟩ (.int .i64 0)).setCell ⟨ga + 1, 1, none⟩ (.int .i64 0)).setCell ⟨ga + 1, 2, none⟩ (.int .u64 0))); clear s3 HK7
  generalize (((((w7.setCell ⟨ga, 0, none⟩ (.int .u64 0)).setCell ⟨ga, 1, none⟩ (.int .i64 0)).setCell ⟨ga + 1, 0, none⟩ (.int .i64 0)).setCell ⟨ga + 1, 1, none⟩ (.int .i64 0)).setCell ⟨ga + 1, 2, none⟩ (.int .u64 0)) = W8 at *
  have EC' := Lib.hid s1; clear s1 EC
  have EU' := Lib.hid s2; clear s2 EU
  clear c0 c1 f0 f1 d0 d1 d2 r0 r1 r2
  obtain ⟨c0, c1, f0, f1⟩ := row2 EC'.out
  obtain ⟨d0, d1, d2, r0, r1, r2⟩ := row3 EU'.out
  have cld := two_load H7'.out A 4 (by have := HAN.out; omega) (by omega) (can_all HKI.out 1 (by omega) A 4 HAN.out.1 HAN.out.2.1)
  rw [HNUM2.out, show (((4 : Nat)) : Int) = 4 from rfl] at cld
  have CLD := Lib.hid cld; clear cld
  have hsh := fun z : Int => shl_shr z 32 (by omega)
  unfold addr0 at *
  go_wp2_with fail
  with_reducible refine CLD.out.mono ?_
  rintro e w9 ⟨rfl, k9⟩
  have k10 : Bl W8 (w9.alloc (.cells #[.int .i64 0, .int .u64 0] 41)) := k9.trans (Bl.new _ _)
  clear c0 c1 f0 f1 d0 d1 d2 r0 r1 r2
  obtain ⟨c0, c1, f0, f1⟩ := row2 (k10.at_ EC'.out)
  obtain ⟨d0, d1, d2, r0, r1, r2⟩ := row3 (k10.at_ EU'.out)
  have HK10 := Lib.hid (HK7'.out.trans k10); clear k10 k9
  unfold faultV
  go_upto_region 19 with (fail)
  generalize w9.alloc (.cells #[.int .i64 0, .int .u64 0] 41) = W10 at *
  have hx0 := HX.out.1
  have hx1 := HX.out.2
  have hy0 := HY.out.1
  have hy1 := HY.out.2
  go_wp2_with fail
  go_ret
  exact ⟨ret_bool (beq_iff_eq.2 (by simp only [IntKind.wrap_u64]; omega)), HK10.out⟩
set_option maxHeartbeats 16000000 in
theorem once8e (a0 a1 x y : Int) (w : World) (g0 : 0 ≤ a0 ∧ a0 ≤ 65535) (g1 : 0 ≤ a1 ∧ a1 ≤ 65535) (gx : 0 ≤ x ∧ x < 18446744073709551616) (gy : 0 ≤ y ∧ y < 18446744073709551616) (A B : Nat) (hA : 4096 + a0 % 1500 * 8 = (A : Int)) (hB : 4096 + a1 % 1500 * 8 = (B : Int)) (hab : A = B) :
    Calls Try.prog 6 #[.int .u16 a0, .int .u16 a1, .int .u64 x, .int .u64 y, .bool true] w fun e w' => e = .returned (.bool true) ∧ Bl w w' := by
  obtain ⟨g00, g01⟩ := g0
  obtain ⟨g10, g11⟩ := g1
  have hAn : 4096 ≤ A ∧ A + 8 ≤ 16384 ∧ (A : Int) % 8 = 0 := by omega
  have hBn : 4096 ≤ B ∧ B + 8 ≤ 16384 ∧ (B : Int) % 8 = 0 := by omega
  have tab : ((A : Int) == (B : Int)) = true := by simp [hab]
  have HA := Lib.hid hA; clear hA
  have HB := Lib.hid hB; clear hB
  have HAN := Lib.hid hAn; clear hAn
  have HBN := Lib.hid hBn; clear hBn
  have HAB := Lib.hid hab; clear hab
  have HX := Lib.hid gx; clear gx
  have HY := Lib.hid gy; clear gy
  go_enter Try.func6, Try.ntmps6
  go_wp2_with fail
  refine (spaces_any none 0 0 (fun _ => 0) _ (fun h => absurd h (by omega)) (by omega)).mono ?_
  rintro e w1 ⟨sb, rb, hb, n1, L, st, rfl, hki, hn1, h2, hh, hlt, kk⟩
  have HKI := Lib.hid hki; clear hki
  have HN1 := Lib.hid hn1; clear hn1
  have HK1 := Lib.hid kk; clear kk hh hlt
  obtain ⟨K, hK⟩ : ∃ K : Nat → Prop, K = fun b => b < w.heap.size ∨ b = hb := ⟨_, rfl⟩
  rw [← hK] at h2
  have hKq : ∀ q, q < w.heap.size → K q := fun q hq => by rw [hK]; exact .inl hq
  have HKQ := Lib.hid hKq; clear hKq hK
  have cst := two_store h2 A 8 x (by have := HAN.out; omega) (by omega) (by have := HN1.out; omega) (can_all HKI.out 2 (by omega) A 8 HAN.out.1 HAN.out.2.1)
  rw [show (((8 : Nat)) : Int) = 8 from rfl] at cst
  have CST := Lib.hid cst; clear cst h2
  unfold addr0 at *
  go_wp2_with fail
  rw [HA.out, HB.out]
  with_reducible refine CST.out.mono ?_
  rintro e w2 ⟨rfl, ⟨st1, h2⟩, f2⟩
  have HK2 := Lib.hid (bl_fr HKQ.out HK1.out f2); clear f2
  obtain ⟨M1, hM1⟩ : ∃ M1, M1 = lay zM A (putB x 8) := ⟨_, rfl⟩
  rw [← hM1] at h2
  have hnum : numAt M1 A 8 = x % 18446744073709551616 := by rw [hM1, numAt_lay]; rfl
  have HNUM := Lib.hid hnum; clear hnum hM1
  have cs1 := two_step h2 0 0 74 A 0 (by have := HAN.out; omega) (by omega) (by omega) (by have := HN1.out; omega)
  have CS1 := Lib.hid cs1; clear cs1 h2
  unfold addr0 holdV at *
  go_wp2_with fail
  with_reducible refine CS1.out.mono ?_
  rintro e w3 ⟨o, M', rfl, hs, ⟨st2, h3⟩, f3⟩
  obtain ⟨ho, hM'⟩ := hs.one (StepIs.lrYes (by simp) (by show (A : Int) % 8 = 0; exact HAN.out.2.2) (can_all HKI.out 1 (by omega) A 8 HAN.out.1 HAN.out.2.1))
  subst ho
  rw [hM'] at h3
  have HK3 := Lib.hid (bl_fr HKQ.out HK2.out f3); clear f3 hs
  have hold1 : sextI (numAt M1 A 8) 64 = sextI x 64 := by rw [HNUM.out]; exact sextI_mod8 x HX.out.1 HX.out.2
  have e1 : (⟨sextI (numAt M1 A (awid 74)) (8 * (awid 74 : Int)), (A : Int), (awid 74 : Int), 0, 0, 0⟩ : Out).v = .tuple #[.int .u64 (sextI x 64), .agg #[.int .u64 (A : Int), .int .i64 8], .agg #[.int .i64 0, .int .i64 0, .int .u64 0]] := by
    rw [← hold1]; rfl
  rw [e1]
  clear e1 hold1
  -- the law's two blocks
  have k3 : Bl w3 ((w3.alloc (.cells #[.int .u64 (A : Int), .int .i64 8] 37)).alloc (.cells #[.int .i64 0, .int .i64 0, .int .u64 0] 43)) := ((Bl.refl w3).alloc _).alloc _
  have H4 := Lib.hid (h3.bl k3)
  obtain ⟨b0, b1, _⟩ := three_new w3 (.cells #[.int .u64 (A : Int), .int .i64 8] 37) (.cells #[.int .i64 0, .int .i64 0, .int .u64 0] 43) (.cells #[] 43)
  have b0' : ((w3.alloc (.cells #[.int .u64 (A : Int), .int .i64 8] 37)).alloc (.cells #[.int .i64 0, .int .i64 0, .int .u64 0] 43)).heap[w3.heap.size]? = some (.cells #[.int .u64 (A : Int), .int .i64 8] 37 (0, 0)) := (Bl.new _ _).at_ (heap_alloc_new w3 _)
  have b1' : ((w3.alloc (.cells #[.int .u64 (A : Int), .int .i64 8] 37)).alloc (.cells #[.int .i64 0, .int .i64 0, .int .u64 0] 43)).heap[w3.heap.size + 1]? = some (.cells #[.int .i64 0, .int .i64 0, .int .u64 0] 43 (0, 0)) := by
    have := heap_alloc_new (w3.alloc (.cells #[.int .u64 (A : Int), .int .i64 8] 37)) (.cells #[.int .i64 0, .int .i64 0, .int .u64 0] 43)
    rwa [show (w3.alloc (.cells #[.int .u64 (A : Int), .int .i64 8] 37)).heap.size = w3.heap.size + 1 by simp] at this
  have hsz : ((w3.alloc (.cells #[.int .u64 (A : Int), .int .i64 8] 37)).alloc (.cells #[.int .i64 0, .int .i64 0, .int .u64 0] 43)).heap.size = w3.heap.size + 2 := by simp
  have HSZ := Lib.hid hsz; clear hsz b0 b1
  have HB0 := Lib.hid b0'; clear b0'
  have HB1 := Lib.hid b1'; clear b1'
  have HK4 := Lib.hid (HK3.out.trans k3); clear k3 h3
  have cans := fun w => aanswers_any w
  have CANS := Lib.hid cans; clear cans
  have csx := fun w => refSext_any x 64 w HX.out.1
  have CSX := Lib.hid csx; clear csx
  have hq1 : ∀ W, (Go.binOp .neq 37 (.agg #[.int .u64 (A : Int), .int .i64 8]) (.agg #[.int .u64 (A : Int), .int .i64 8])).run Try.prog W = .ok (.bool false) W := fun W => by rw [hold_neq]; simp
  have hq2 : ∀ W, (Go.binOp .neq 37 (.agg #[.int .u64 0, .int .i64 0]) (.agg #[.int .u64 0, .int .i64 0])).run Try.prog W = .ok (.bool false) W := fun W => by rw [hold_neq]; simp
  have hq3 : ∀ W, (Go.binOp .eql 37 (.agg #[.int .u64 0, .int .i64 0]) (.agg #[.int .u64 0, .int .i64 0])).run Try.prog W = .ok (.bool true) W := fun W => by rw [hold_eql]; simp
  go_upto_region 9 with (fail)
  generalize (w3.alloc (.cells #[.int .u64 (A : Int), .int .i64 8] 37)).alloc (.cells #[.int .i64 0, .int .i64 0, .int .u64 0] 43) = W at *
  obtain ⟨ga, hga⟩ : ∃ ga, ga = w3.heap.size := ⟨_, rfl⟩
  rw [← hga] at H4 HB0 HB1 HSZ ⊢
  have HGA := Lib.hid hga; clear hga
  obtain ⟨c0, c1, f0, f1⟩ := row2 HB0.out
  obtain ⟨d0, d1, d2, r0, r1, r2⟩ := row3 HB1.out
  obtain ⟨K2, hK2⟩ : ∃ K2 : Nat → Prop, K2 = fun b => K b ∨ ga ≤ b ∧ b < W.heap.size := ⟨_, rfl⟩
  rw [← hK2] at H4
  have K2a := Lib.hid (show K2 ga by rw [hK2]; exact .inr ⟨Nat.le_refl _, by rw [HSZ.out]; omega⟩)
  have K2b := Lib.hid (show K2 (ga + 1) by rw [hK2]; exact .inr ⟨by omega, by rw [HSZ.out]; omega⟩)
  have HKQ2 := Lib.hid (show ∀ q, q < w.heap.size → K2 q from fun q hq => by rw [hK2]; exact .inl (HKQ.out q hq)); clear hK2
  have GAW := Lib.hid (show w.heap.size ≤ ga by have := HK3.out.size; have := HGA.out; omega)
  have cs2 := two_step H4.out A 8 75 B y (by have := HBN.out; omega) HY.out.1 HY.out.2 (by have := HN1.out; omega)
  have CS2 := Lib.hid cs2; clear cs2 H4
  unfold addr0 holdV at *
  go_wp2_with fail
  with_reducible refine (CANS.out _).mono ?_
  rintro e w' ⟨rfl, rfl⟩
  go_wp2_with fail
  with_reducible refine (CSX.out _).mono ?_
  rintro e w' ⟨rfl, rfl⟩
  go_wp2_with fail
  with_reducible refine CS2.out.mono ?_
  rintro e w5 ⟨o, M2, rfl, hs, ⟨st3, h5⟩, f5⟩
  obtain ⟨ho, hM2⟩ := hs.one (StepIs.scYes (by simp) (by show (B : Int) % 8 = 0; exact HBN.out.2.2) (can_all HKI.out 2 (by omega) B 8 HBN.out.1 HBN.out.2.1) ⟨by have := HAB.out; omega, rfl⟩)
  subst ho
  have hnum2 : numAt M2 A 8 = y % 18446744073709551616 := by rw [hM2, HAB.out]; exact numAt_lay M1 B 8 y
  have HNUM2 := Lib.hid hnum2; clear hnum2 hM2 hs
  have EB := Lib.hid (f5.at_ HB0.out (fun e => e K2a.out))
  have ES := Lib.hid (f5.at_ HB1.out (fun e => e K2b.out))
  have HK5 := Lib.hid (bl_fr HKQ2.out HK4.out f5); clear f5
  have H5 := Lib.hid h5; clear h5
  clear c0 c1 f0 f1 d0 d1 d2 r0 r1 r2 HB0 HB1 HK4
  obtain ⟨c0, c1, f0, f1⟩ := row2 EB.out
  obtain ⟨d0, d1, d2, r0, r1, r2⟩ := row3 ES.out
  unfold Out.v holdV stopV
  have H5' := Lib.hid (two_sets H5.out (g := ga) (g2 := ga + 1) (K2a.out) (K2b.out) (.int .u64 0) (.int .i64 0) (.int .i64 0) (.int .i64 0) (.int .u64 0))
  obtain ⟨s1, s2, s3⟩ := set_both (S := fun _ => False) (w0 := w) (by omega) EB.out ES.out (.int .u64 0) (.int .i64 0) (.int .i64 0) (.int .i64 0) (.int .u64 0) (Fr.of_bl HK5.out) GAW.out (by have := GAW.out; omega)
  go_upto_region 12 with (fail)
  have HK5' := Lib.hid (s3.bl (fun _ _ e => e) : Bl w (((((w5.setCell ⟨ga, 0, none⟩ (.int .u64 0)).setCell ⟨ga, 1, none⟩ (.int .i64 0)).setCell ⟨ga + 1, 0, none⟩ (.int .i64 0)).setCell ⟨ga + 1, 1, none⟩ (.int .i64 0)).setCell ⟨ga + 1, 2, none⟩ (.int .u64 0))); clear s3 HK5
  generalize (((((w5.setCell ⟨ga, 0, none⟩ (.int .u64 0)).setCell ⟨ga, 1, none⟩ (.int .i64 0)).setCell ⟨ga + 1, 0, none⟩ (.int .i64 0)).setCell ⟨ga + 1, 1, none⟩ (.int .i64 0)).setCell ⟨ga + 1, 2, none⟩ (.int .u64 0)) = W6 at *
  have EB' := Lib.hid s1; clear s1 EB
  have ES' := Lib.hid s2; clear s2 ES
  clear c0 c1 f0 f1 d0 d1 d2 r0 r1 r2
  obtain ⟨c0, c1, f0, f1⟩ := row2 EB'.out
  obtain ⟨d0, d1, d2, r0, r1, r2⟩ := row3 ES'.out
  have cs3 := two_step H5'.out 0 0 75 A x (by have := HAN.out; omega) HX.out.1 HX.out.2 (by have := HN1.out; omega)
  have CS3 := Lib.hid cs3; clear cs3
  unfold addr0 holdV at *
  go_wp2_with fail
  with_reducible refine CS3.out.mono ?_
  rintro e w7 ⟨o, M3, rfl, hs, ⟨st4, h7⟩, f7⟩
  obtain ⟨ho, hM3⟩ := hs.one (StepIs.scNo (by simp) (by show (A : Int) % 8 = 0; exact HAN.out.2.2) (can_all HKI.out 2 (by omega) A 8 HAN.out.1 HAN.out.2.1) (fun h => by have h9 : (0 : Int) = 8 := h.2; omega))
  subst ho
  rw [hM3] at h7
  clear hM3 hs
  have EC := Lib.hid (f7.at_ EB'.out (fun e => e K2a.out))
  have EU := Lib.hid (f7.at_ ES'.out (fun e => e K2b.out))
  have HK7 := Lib.hid (bl_fr HKQ2.out HK5'.out f7); clear f7
  have H7 := Lib.hid h7; clear h7
  clear c0 c1 f0 f1 d0 d1 d2 r0 r1 r2 EB' ES'
  obtain ⟨c0, c1, f0, f1⟩ := row2 EC.out
  obtain ⟨d0, d1, d2, r0, r1, r2⟩ := row3 EU.out
  unfold Out.v holdV stopV
  have H7' := Lib.hid (two_sets H7.out (g := ga) (g2 := ga + 1) (K2a.out) (K2b.out) (.int .u64 0) (.int .i64 0) (.int .i64 0) (.int .i64 0) (.int .u64 0))
  obtain ⟨s1, s2, s3⟩ := set_both (S := fun _ => False) (w0 := w) (by omega) EC.out EU.out (.int .u64 0) (.int .i64 0) (.int .i64 0) (.int .i64 0) (.int .u64 0) (Fr.of_bl HK7.out) GAW.out (by have := GAW.out; omega)
  go_upto_region 15 with (fail)
  have HK7' := Lib.hid (s3.bl (fun _ _ e => e) : Bl w (((((w7.setCell ⟨ga, 0, none⟩ (.int .u64 0)).setCell ⟨ga, 1, none⟩ (.int .i64 0)).setCell ⟨ga + 1, 0, none⟩ (.int .i64 0)).setCell ⟨ga + 1, 1, none⟩ (.int .i64 0)).setCell ⟨ga + 1, 2, none⟩ (.int .u64 0))); clear s3 HK7
  generalize (((((w7.setCell ⟨ga, 0, none⟩ (.int .u64 0)).setCell ⟨ga, 1, none⟩ (.int .i64 0)).setCell ⟨ga + 1, 0, none⟩ (.int .i64 0)).setCell ⟨ga + 1, 1, none⟩ (.int .i64 0)).setCell ⟨ga + 1, 2, none⟩ (.int .u64 0)) = W8 at *
  have EC' := Lib.hid s1; clear s1 EC
  have EU' := Lib.hid s2; clear s2 EU
  clear c0 c1 f0 f1 d0 d1 d2 r0 r1 r2
  obtain ⟨c0, c1, f0, f1⟩ := row2 EC'.out
  obtain ⟨d0, d1, d2, r0, r1, r2⟩ := row3 EU'.out
  have cld := two_load H7'.out A 8 (by have := HAN.out; omega) (by omega) (can_all HKI.out 1 (by omega) A 8 HAN.out.1 HAN.out.2.1)
  rw [HNUM2.out, show (((8 : Nat)) : Int) = 8 from rfl] at cld
  have CLD := Lib.hid cld; clear cld
  have hsh := fun z : Int => shl_shr z 0 (by omega)
  unfold addr0 at *
  go_wp2_with fail
  with_reducible refine CLD.out.mono ?_
  rintro e w9 ⟨rfl, k9⟩
  have k10 : Bl W8 (w9.alloc (.cells #[.int .i64 0, .int .u64 0] 41)) := k9.trans (Bl.new _ _)
  clear c0 c1 f0 f1 d0 d1 d2 r0 r1 r2
  obtain ⟨c0, c1, f0, f1⟩ := row2 (k10.at_ EC'.out)
  obtain ⟨d0, d1, d2, r0, r1, r2⟩ := row3 (k10.at_ EU'.out)
  have HK10 := Lib.hid (HK7'.out.trans k10); clear k10 k9
  unfold faultV
  go_upto_region 19 with (fail)
  generalize w9.alloc (.cells #[.int .i64 0, .int .u64 0] 41) = W10 at *
  have hx0 := HX.out.1
  have hx1 := HX.out.2
  have hy0 := HY.out.1
  have hy1 := HY.out.2
  go_wp2_with fail
  go_ret
  exact ⟨ret_bool (beq_iff_eq.2 (by omega)), HK10.out⟩
set_option maxHeartbeats 16000000 in
theorem once8d (a0 a1 x y : Int) (w : World) (g0 : 0 ≤ a0 ∧ a0 ≤ 65535) (g1 : 0 ≤ a1 ∧ a1 ≤ 65535) (gx : 0 ≤ x ∧ x < 18446744073709551616) (gy : 0 ≤ y ∧ y < 18446744073709551616) (A B : Nat) (hA : 4096 + a0 % 1500 * 8 = (A : Int)) (hB : 4096 + a1 % 1500 * 8 = (B : Int)) (hab : A ≠ B) :
    Calls Try.prog 6 #[.int .u16 a0, .int .u16 a1, .int .u64 x, .int .u64 y, .bool true] w fun e w' => e = .returned (.bool true) ∧ Bl w w' := by
  obtain ⟨g00, g01⟩ := g0
  obtain ⟨g10, g11⟩ := g1
  have hAn : 4096 ≤ A ∧ A + 8 ≤ 16384 ∧ (A : Int) % 8 = 0 := by omega
  have hBn : 4096 ≤ B ∧ B + 8 ≤ 16384 ∧ (B : Int) % 8 = 0 := by omega
  have tab : ((A : Int) == (B : Int)) = false := by simp; omega
  have HA := Lib.hid hA; clear hA
  have HB := Lib.hid hB; clear hB
  have HAN := Lib.hid hAn; clear hAn
  have HBN := Lib.hid hBn; clear hBn
  have HAB := Lib.hid hab; clear hab
  have HX := Lib.hid gx; clear gx
  have HY := Lib.hid gy; clear gy
  go_enter Try.func6, Try.ntmps6
  go_wp2_with fail
  refine (spaces_any none 0 0 (fun _ => 0) _ (fun h => absurd h (by omega)) (by omega)).mono ?_
  rintro e w1 ⟨sb, rb, hb, n1, L, st, rfl, hki, hn1, h2, hh, hlt, kk⟩
  have HKI := Lib.hid hki; clear hki
  have HN1 := Lib.hid hn1; clear hn1
  have HK1 := Lib.hid kk; clear kk hh hlt
  obtain ⟨K, hK⟩ : ∃ K : Nat → Prop, K = fun b => b < w.heap.size ∨ b = hb := ⟨_, rfl⟩
  rw [← hK] at h2
  have hKq : ∀ q, q < w.heap.size → K q := fun q hq => by rw [hK]; exact .inl hq
  have HKQ := Lib.hid hKq; clear hKq hK
  have cst := two_store h2 A 8 x (by have := HAN.out; omega) (by omega) (by have := HN1.out; omega) (can_all HKI.out 2 (by omega) A 8 HAN.out.1 HAN.out.2.1)
  rw [show (((8 : Nat)) : Int) = 8 from rfl] at cst
  have CST := Lib.hid cst; clear cst h2
  unfold addr0 at *
  go_wp2_with fail
  rw [HA.out, HB.out]
  with_reducible refine CST.out.mono ?_
  rintro e w2 ⟨rfl, ⟨st1, h2⟩, f2⟩
  have HK2 := Lib.hid (bl_fr HKQ.out HK1.out f2); clear f2
  obtain ⟨M1, hM1⟩ : ∃ M1, M1 = lay zM A (putB x 8) := ⟨_, rfl⟩
  rw [← hM1] at h2
  have hnum : numAt M1 A 8 = x % 18446744073709551616 := by rw [hM1, numAt_lay]; rfl
  have HNUM := Lib.hid hnum; clear hnum hM1
  have cs1 := two_step h2 0 0 74 A 0 (by have := HAN.out; omega) (by omega) (by omega) (by have := HN1.out; omega)
  have CS1 := Lib.hid cs1; clear cs1 h2
  unfold addr0 holdV at *
  go_wp2_with fail
  with_reducible refine CS1.out.mono ?_
  rintro e w3 ⟨o, M', rfl, hs, ⟨st2, h3⟩, f3⟩
  obtain ⟨ho, hM'⟩ := hs.one (StepIs.lrYes (by simp) (by show (A : Int) % 8 = 0; exact HAN.out.2.2) (can_all HKI.out 1 (by omega) A 8 HAN.out.1 HAN.out.2.1))
  subst ho
  rw [hM'] at h3
  have HK3 := Lib.hid (bl_fr HKQ.out HK2.out f3); clear f3 hs
  have hold1 : sextI (numAt M1 A 8) 64 = sextI x 64 := by rw [HNUM.out]; exact sextI_mod8 x HX.out.1 HX.out.2
  have e1 : (⟨sextI (numAt M1 A (awid 74)) (8 * (awid 74 : Int)), (A : Int), (awid 74 : Int), 0, 0, 0⟩ : Out).v = .tuple #[.int .u64 (sextI x 64), .agg #[.int .u64 (A : Int), .int .i64 8], .agg #[.int .i64 0, .int .i64 0, .int .u64 0]] := by
    rw [← hold1]; rfl
  rw [e1]
  clear e1 hold1
  -- the law's two blocks
  have k3 : Bl w3 ((w3.alloc (.cells #[.int .u64 (A : Int), .int .i64 8] 37)).alloc (.cells #[.int .i64 0, .int .i64 0, .int .u64 0] 43)) := ((Bl.refl w3).alloc _).alloc _
  have H4 := Lib.hid (h3.bl k3)
  obtain ⟨b0, b1, _⟩ := three_new w3 (.cells #[.int .u64 (A : Int), .int .i64 8] 37) (.cells #[.int .i64 0, .int .i64 0, .int .u64 0] 43) (.cells #[] 43)
  have b0' : ((w3.alloc (.cells #[.int .u64 (A : Int), .int .i64 8] 37)).alloc (.cells #[.int .i64 0, .int .i64 0, .int .u64 0] 43)).heap[w3.heap.size]? = some (.cells #[.int .u64 (A : Int), .int .i64 8] 37 (0, 0)) := (Bl.new _ _).at_ (heap_alloc_new w3 _)
  have b1' : ((w3.alloc (.cells #[.int .u64 (A : Int), .int .i64 8] 37)).alloc (.cells #[.int .i64 0, .int .i64 0, .int .u64 0] 43)).heap[w3.heap.size + 1]? = some (.cells #[.int .i64 0, .int .i64 0, .int .u64 0] 43 (0, 0)) := by
    have := heap_alloc_new (w3.alloc (.cells #[.int .u64 (A : Int), .int .i64 8] 37)) (.cells #[.int .i64 0, .int .i64 0, .int .u64 0] 43)
    rwa [show (w3.alloc (.cells #[.int .u64 (A : Int), .int .i64 8] 37)).heap.size = w3.heap.size + 1 by simp] at this
  have hsz : ((w3.alloc (.cells #[.int .u64 (A : Int), .int .i64 8] 37)).alloc (.cells #[.int .i64 0, .int .i64 0, .int .u64 0] 43)).heap.size = w3.heap.size + 2 := by simp
  have HSZ := Lib.hid hsz; clear hsz b0 b1
  have HB0 := Lib.hid b0'; clear b0'
  have HB1 := Lib.hid b1'; clear b1'
  have HK4 := Lib.hid (HK3.out.trans k3); clear k3 h3
  have cans := fun w => aanswers_any w
  have CANS := Lib.hid cans; clear cans
  have csx := fun w => refSext_any x 64 w HX.out.1
  have CSX := Lib.hid csx; clear csx
  have hq1 : ∀ W, (Go.binOp .neq 37 (.agg #[.int .u64 (A : Int), .int .i64 8]) (.agg #[.int .u64 (A : Int), .int .i64 8])).run Try.prog W = .ok (.bool false) W := fun W => by rw [hold_neq]; simp
  have hq2 : ∀ W, (Go.binOp .neq 37 (.agg #[.int .u64 0, .int .i64 0]) (.agg #[.int .u64 0, .int .i64 0])).run Try.prog W = .ok (.bool false) W := fun W => by rw [hold_neq]; simp
  have hq3 : ∀ W, (Go.binOp .eql 37 (.agg #[.int .u64 0, .int .i64 0]) (.agg #[.int .u64 0, .int .i64 0])).run Try.prog W = .ok (.bool true) W := fun W => by rw [hold_eql]; simp
  go_upto_region 9 with (fail)
  generalize (w3.alloc (.cells #[.int .u64 (A : Int), .int .i64 8] 37)).alloc (.cells #[.int .i64 0, .int .i64 0, .int .u64 0] 43) = W at *
  obtain ⟨ga, hga⟩ : ∃ ga, ga = w3.heap.size := ⟨_, rfl⟩
  rw [← hga] at H4 HB0 HB1 HSZ ⊢
  have HGA := Lib.hid hga; clear hga
  obtain ⟨c0, c1, f0, f1⟩ := row2 HB0.out
  obtain ⟨d0, d1, d2, r0, r1, r2⟩ := row3 HB1.out
  obtain ⟨K2, hK2⟩ : ∃ K2 : Nat → Prop, K2 = fun b => K b ∨ ga ≤ b ∧ b < W.heap.size := ⟨_, rfl⟩
  rw [← hK2] at H4
  have K2a := Lib.hid (show K2 ga by rw [hK2]; exact .inr ⟨Nat.le_refl _, by rw [HSZ.out]; omega⟩)
  have K2b := Lib.hid (show K2 (ga + 1) by rw [hK2]; exact .inr ⟨by omega, by rw [HSZ.out]; omega⟩)
  have HKQ2 := Lib.hid (show ∀ q, q < w.heap.size → K2 q from fun q hq => by rw [hK2]; exact .inl (HKQ.out q hq)); clear hK2
  have GAW := Lib.hid (show w.heap.size ≤ ga by have := HK3.out.size; have := HGA.out; omega)
  have cs2 := two_step H4.out A 8 75 B y (by have := HBN.out; omega) HY.out.1 HY.out.2 (by have := HN1.out; omega)
  have CS2 := Lib.hid cs2; clear cs2 H4
  unfold addr0 holdV at *
  go_wp2_with fail
  with_reducible refine (CANS.out _).mono ?_
  rintro e w' ⟨rfl, rfl⟩
  go_wp2_with fail
  with_reducible refine (CSX.out _).mono ?_
  rintro e w' ⟨rfl, rfl⟩
  go_wp2_with fail
  with_reducible refine CS2.out.mono ?_
  rintro e w5 ⟨o, M2, rfl, hs, ⟨st3, h5⟩, f5⟩
  obtain ⟨ho, hM2⟩ := hs.one (StepIs.scNo (by simp) (by show (B : Int) % 8 = 0; exact HBN.out.2.2) (can_all HKI.out 2 (by omega) B 8 HBN.out.1 HBN.out.2.1) (fun h => by have := h.1; have := HAB.out; omega))
  subst ho
  have hnum2 : numAt M2 A 8 = x % 18446744073709551616 := by rw [hM2]; exact HNUM.out
  have HNUM2 := Lib.hid hnum2; clear hnum2 hM2 hs
  have EB := Lib.hid (f5.at_ HB0.out (fun e => e K2a.out))
  have ES := Lib.hid (f5.at_ HB1.out (fun e => e K2b.out))
  have HK5 := Lib.hid (bl_fr HKQ2.out HK4.out f5); clear f5
  have H5 := Lib.hid h5; clear h5
  clear c0 c1 f0 f1 d0 d1 d2 r0 r1 r2 HB0 HB1 HK4
  obtain ⟨c0, c1, f0, f1⟩ := row2 EB.out
  obtain ⟨d0, d1, d2, r0, r1, r2⟩ := row3 ES.out
  unfold Out.v holdV stopV
  have H5' := Lib.hid (two_sets H5.out (g := ga) (g2 := ga + 1) (K2a.out) (K2b.out) (.int .u64 0) (.int .i64 0) (.int .i64 0) (.int .i64 0) (.int .u64 0))
  obtain ⟨s1, s2, s3⟩ := set_both (S := fun _ => False) (w0 := w) (by omega) EB.out ES.out (.int .u64 0) (.int .i64 0) (.int .i64 0) (.int .i64 0) (.int .u64 0) (Fr.of_bl HK5.out) GAW.out (by have := GAW.out; omega)
  go_upto_region 12 with (fail)
  have HK5' := Lib.hid (s3.bl (fun _ _ e => e) : Bl w (((((w5.setCell ⟨ga, 0, none⟩ (.int .u64 0)).setCell ⟨ga, 1, none⟩ (.int .i64 0)).setCell ⟨ga + 1, 0, none⟩ (.int .i64 0)).setCell ⟨ga + 1, 1, none⟩ (.int .i64 0)).setCell ⟨ga + 1, 2, none⟩ (.int .u64 0))); clear s3 HK5
  generalize (((((w5.setCell ⟨ga, 0, none⟩ (.int .u64 0)).setCell ⟨ga, 1, none⟩ (.int .i64 0)).setCell ⟨ga + 1, 0, none⟩ (.int .i64 0)).setCell ⟨ga + 1, 1, none⟩ (.int .i64 0)).setCell ⟨ga + 1, 2, none⟩ (.int .u64 0)) = W6 at *
  have EB' := Lib.hid s1; clear s1 EB
  have ES' := Lib.hid s2; clear s2 ES
  clear c0 c1 f0 f1 d0 d1 d2 r0 r1 r2
  obtain ⟨c0, c1, f0, f1⟩ := row2 EB'.out
  obtain ⟨d0, d1, d2, r0, r1, r2⟩ := row3 ES'.out
  have cs3 := two_step H5'.out 0 0 75 A x (by have := HAN.out; omega) HX.out.1 HX.out.2 (by have := HN1.out; omega)
  have CS3 := Lib.hid cs3; clear cs3
  unfold addr0 holdV at *
  go_wp2_with fail
  with_reducible refine CS3.out.mono ?_
  rintro e w7 ⟨o, M3, rfl, hs, ⟨st4, h7⟩, f7⟩
  obtain ⟨ho, hM3⟩ := hs.one (StepIs.scNo (by simp) (by show (A : Int) % 8 = 0; exact HAN.out.2.2) (can_all HKI.out 2 (by omega) A 8 HAN.out.1 HAN.out.2.1) (fun h => by have h9 : (0 : Int) = 8 := h.2; omega))
  subst ho
  rw [hM3] at h7
  clear hM3 hs
  have EC := Lib.hid (f7.at_ EB'.out (fun e => e K2a.out))
  have EU := Lib.hid (f7.at_ ES'.out (fun e => e K2b.out))
  have HK7 := Lib.hid (bl_fr HKQ2.out HK5'.out f7); clear f7
  have H7 := Lib.hid h7; clear h7
  clear c0 c1 f0 f1 d0 d1 d2 r0 r1 r2 EB' ES'
  obtain ⟨c0, c1, f0, f1⟩ := row2 EC.out
  obtain ⟨d0, d1, d2, r0, r1, r2⟩ := row3 EU.out
  unfold Out.v holdV stopV
  have H7' := Lib.hid (two_sets H7.out (g := ga) (g2 := ga + 1) (K2a.out) (K2b.out) (.int .u64 0) (.int .i64 0) (.int .i64 0) (.int .i64 0) (.int .u64 0))
  obtain ⟨s1, s2, s3⟩ := set_both (S := fun _ => False) (w0 := w) (by omega) EC.out EU.out (.int .u64 0) (.int .i64 0) (.int .i64 0) (.int .i64 0) (.int .u64 0) (Fr.of_bl HK7.out) GAW.out (by have := GAW.out; omega)
  go_upto_region 15 with (fail)
  have HK7' := Lib.hid (s3.bl (fun _ _ e => e) : Bl w (((((w7.setCell ⟨ga, 0, none⟩ (.int .u64 0)).setCell ⟨ga, 1, none⟩ (.int .i64 0)).setCell ⟨ga + 1, 0, none⟩ (.int .i64 0)).setCell ⟨ga + 1, 1, none⟩ (.int .i64 0)).setCell ⟨ga + 1, 2, none⟩ (.int .u64 0))); clear s3 HK7
  generalize (((((w7.setCell ⟨ga, 0, none⟩ (.int .u64 0)).setCell ⟨ga, 1, none⟩ (.int .i64 0)).setCell ⟨ga + 1, 0, none⟩ (.int .i64 0)).setCell ⟨ga + 1, 1, none⟩ (.int .i64 0)).setCell ⟨ga + 1, 2, none⟩ (.int .u64 0)) = W8 at *
  have EC' := Lib.hid s1; clear s1 EC
  have EU' := Lib.hid s2; clear s2 EU
  clear c0 c1 f0 f1 d0 d1 d2 r0 r1 r2
  obtain ⟨c0, c1, f0, f1⟩ := row2 EC'.out
  obtain ⟨d0, d1, d2, r0, r1, r2⟩ := row3 EU'.out
  have cld := two_load H7'.out A 8 (by have := HAN.out; omega) (by omega) (can_all HKI.out 1 (by omega) A 8 HAN.out.1 HAN.out.2.1)
  rw [HNUM2.out, show (((8 : Nat)) : Int) = 8 from rfl] at cld
  have CLD := Lib.hid cld; clear cld
  have hsh := fun z : Int => shl_shr z 0 (by omega)
  unfold addr0 at *
  go_wp2_with fail
  with_reducible refine CLD.out.mono ?_
  rintro e w9 ⟨rfl, k9⟩
  have k10 : Bl W8 (w9.alloc (.cells #[.int .i64 0, .int .u64 0] 41)) := k9.trans (Bl.new _ _)
  clear c0 c1 f0 f1 d0 d1 d2 r0 r1 r2
  obtain ⟨c0, c1, f0, f1⟩ := row2 (k10.at_ EC'.out)
  obtain ⟨d0, d1, d2, r0, r1, r2⟩ := row3 (k10.at_ EU'.out)
  have HK10 := Lib.hid (HK7'.out.trans k10); clear k10 k9
  unfold faultV
  go_upto_region 19 with (fail)
  generalize w9.alloc (.cells #[.int .i64 0, .int .u64 0] 41) = W10 at *
  have hx0 := HX.out.1
  have hx1 := HX.out.2
  have hy0 := HY.out.1
  have hy1 := HY.out.2
  go_wp2_with fail
  go_ret
  exact ⟨ret_bool (beq_iff_eq.2 (by omega)), HK10.out⟩
theorem once_walk (a0 a1 x y : Int) (wide : Bool) (w : World) (g0 : 0 ≤ a0 ∧ a0 ≤ 65535) (g1 : 0 ≤ a1 ∧ a1 ≤ 65535) (gx : 0 ≤ x ∧ x ≤ 18446744073709551615) (gy : 0 ≤ y ∧ y ≤ 18446744073709551615) :
    Calls Try.prog 6 #[.int .u16 a0, .int .u16 a1, .int .u64 x, .int .u64 y, .bool wide] w fun e w' => e = .returned (.bool true) ∧ Bl w w' := by
  rcases wide with _ | _
  · obtain ⟨A, hA⟩ : ∃ A : Nat, 4096 + a0 % 1500 * 4 = (A : Int) := ⟨(4096 + a0 % 1500 * 4).toNat, by omega⟩
    obtain ⟨B, hB⟩ : ∃ B : Nat, 4096 + a1 % 1500 * 4 = (B : Int) := ⟨(4096 + a1 % 1500 * 4).toNat, by omega⟩
    by_cases h : A = B
    · exact once4e a0 a1 x y w g0 g1 (by omega) (by omega) A B hA hB h
    · exact once4d a0 a1 x y w g0 g1 (by omega) (by omega) A B hA hB h
  · obtain ⟨A, hA⟩ : ∃ A : Nat, 4096 + a0 % 1500 * 8 = (A : Int) := ⟨(4096 + a0 % 1500 * 8).toNat, by omega⟩
    obtain ⟨B, hB⟩ : ∃ B : Nat, 4096 + a1 % 1500 * 8 = (B : Int) := ⟨(4096 + a1 % 1500 * 8).toNat, by omega⟩
    by_cases h : A = B
    · exact once8e a0 a1 x y w g0 g1 (by omega) (by omega) A B hA hB h
    · exact once8d a0 a1 x y w g0 g1 (by omega) (by omega) A B hA hB h
end Go.Proofs.Ytpalhkfipnbcnaa
