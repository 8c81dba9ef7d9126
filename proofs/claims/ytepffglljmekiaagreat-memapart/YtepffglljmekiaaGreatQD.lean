/-
  The walk of MemApart.
-/
import Derived.Test.YtepffglljmekiaaGreatQC
set_option linter.unusedVariables false
set_option linter.unusedSimpArgs false
namespace Go.Proofs.YtepffglljmekiaaGreat
open Go.RowKit
set_option maxRecDepth 100000
set_option maxHeartbeats 8000000 in
theorem apart_walk (a0 : Option Addr) (len0 cap0 : Nat) (a1 : Option Addr) (len1 cap1 : Nat) (ad n : Int) (w : World) (w0 : ActsZ w a0 len0) (hl0 : len0 ≤ 9223372036854775807) (w1 : ActsZ w a1 len1) (hl1 : len1 ≤ 9223372036854775807) (had : Wd ad) :
    Calls Tryz.prog 4 #[.slice a0 len0 cap0, .slice a1 len1 cap1, .int .u64 ad, .int .i64 n] w (BoolPost w true) := by
  have HA0 := Lib.hid w0; clear w0
  have HA1 := Lib.hid w1; clear w1
  obtain ⟨ad0, ad1⟩ := had
  have cn := mnew_any (from_ w.heap.size) 50 w (Nat.le_refl _) (by omega) (by omega)
  have CN := Lib.hid cn; clear cn
  unfold addr0 at *
  go_enter Tryz.func4, Tryz.ntmps4
  go_wp2_with fail
  refine CN.out.mono ?_
  rintro e w1 ⟨rfl, h1, k1, hs1⟩
  have H1 := Lib.hid h1; clear h1 hs1 CN
  have K1 := Lib.hid k1; clear k1
  go_wp2_with fail
  refine (manswers_any _).mono ?_
  rintro e w3 ⟨rfl, k3⟩
  have H3 := Lib.hid (H1.out.bl k3); clear H1
  have K3 := Lib.hid (K1.out.trans k3); clear k3 K1
  go_wp2_with fail
  refine (play_any H3.out (by omega) K3.out a0 len0 cap0 HA0.out hl0).mono ?_
  rintro e w4 ⟨rfl, ⟨n4, L4, M4, st4, ba4, en4, hn4, h4⟩, k4⟩
  have H4 := Lib.hid h4; clear h4 H3 K3
  have K4 := Lib.hid k4; clear k4
  have HN4 := Lib.hid hn4; clear hn4
  have cp := mpeek_any H4.out 0 80000 (by omega) (by omega) (by omega)
  rw [show ((0 : Nat) : Int) = 0 from rfl, show ((80000 : Nat) : Int) = 80000 from rfl] at cp
  unfold addr0 at cp
  have CP := Lib.hid cp; clear cp
  go_wp2_with fail
  refine CP.out.mono ?_
  rintro e w5 ⟨rfl, hb5, k5⟩
  have HB5 := Lib.hid hb5; clear hb5 CP
  have K5 := Lib.hid k5; clear k5
  have cr := mregions_any (H4.out.bl K5.out)
  unfold addr0 at cr
  have CR := Lib.hid cr; clear cr
  go_wp2_with fail
  refine CR.out.mono ?_
  rintro e w6 ⟨v6, rfl, r6, k6⟩
  obtain ⟨A6, cap6, hv6⟩ := r6.shape
  subst hv6
  have R6 := Lib.hid r6; clear r6 CR
  have K6 := Lib.hid k6; clear k6
  have H6 := Lib.hid (H4.out.bl (K5.out.trans K6.out))
  have K46 := Lib.hid (K4.out.trans (K5.out.trans K6.out))
  obtain ⟨nL, hnL⟩ : ∃ nL, nL = L4.length := ⟨_, rfl⟩
  have HFEW := Lib.hid H4.out.few
  rw [← hnL]
  have HNL := Lib.hid hnL; clear hnL
  have cc := mcopy_any H6.out (by have := HN4.out; omega)
  unfold addr0 at cc
  have CC := Lib.hid cc; clear cc
  go_wp2_with fail
  refine CC.out.mono ?_
  rintro e w7 ⟨sb2, rfl, h7, k7⟩
  have cpl := play_any h7 (by have := HN4.out; omega) k7 a1 len1 cap1 (HA1.out.bl K46.out) hl1
  unfold addr0 at cpl
  have CPL := Lib.hid cpl; clear cpl h7 k7 CC
  unfold addr0
  go_wp2_with fail
  refine CPL.out.mono ?_
  rintro e w8 ⟨rfl, _, k8⟩
  have K8 := Lib.hid k8; clear k8 CPL
  go_wp2_with fail
  refine (map_nil _ _ _ _ _).mono ?_
  rintro e w' ⟨rfl, rfl⟩
  go_wp2_with fail
  refine (load_nil _ _ _).mono ?_
  rintro e w9 ⟨rfl, k9⟩
  have K9 := Lib.hid (K8.out.trans k9); clear k9 K8
  unfold faultV
  go_wp2_with fail
  have HX1 := Lib.hid (heap_alloc_new w9 (.cells #[.int .i64 1, .int .u64 ad] 50))
  have KX1 := Lib.hid (K9.out.alloc (.cells #[.int .i64 1, .int .u64 ad] 50)); clear K9
  obtain ⟨x1, hx1⟩ : ∃ x1, x1 = w9.heap.size := ⟨_, rfl⟩
  rw [← hx1] at HX1 ⊢
  clear hx1
  generalize w9.alloc (.cells #[.int .i64 1, .int .u64 ad] 50) = W1 at *
  refine (fetch_nil _ ad0 _).mono ?_
  rintro e w10 ⟨rfl, k10⟩
  have HX1b := Lib.hid (k10.at_ HX1.out); clear HX1
  have K10 := Lib.hid (KX1.out.trans k10); clear k10 KX1
  unfold faultV
  go_wp2_with fail
  have HX1c := Lib.hid ((Bl.new w10 (.cells #[.int .i64 3, .int .u64 ad] 50)).at_ HX1b.out)
  have HX2 := Lib.hid (heap_alloc_new w10 (.cells #[.int .i64 3, .int .u64 ad] 50))
  have KX2 := Lib.hid (K10.out.alloc (.cells #[.int .i64 3, .int .u64 ad] 50)); clear K10 HX1b
  obtain ⟨x2, hx2⟩ : ∃ x2, x2 = w10.heap.size := ⟨_, rfl⟩
  rw [← hx2] at HX2 ⊢
  clear hx2
  generalize w10.alloc (.cells #[.int .i64 3, .int .u64 ad] 50) = W2 at *
  refine (in_nil _ _ _).mono ?_
  rintro e w' ⟨rfl, rfl⟩
  go_wp2_with fail
  refine (text_nil _ _ _).mono ?_
  rintro e w' ⟨rfl, rfl⟩
  go_wp2_with fail
  refine (setbrk_nil _ _).mono ?_
  rintro e w' ⟨rfl, rfl⟩
  go_wp2_with fail
  refine (put_nil _ _ _).mono ?_
  rintro e w' ⟨rfl, rfl⟩
  have HX1d := Lib.hid ((Bl.new W2 (.cells #[.int .u8 1] 5)).at_ HX1c.out)
  have HX2d := Lib.hid ((Bl.new W2 (.cells #[.int .u8 1] 5)).at_ HX2.out)
  have KX3 := Lib.hid (KX2.out.alloc (.cells #[.int .u8 1] 5)); clear KX2 HX1c HX2
  generalize W2.alloc (.cells #[.int .u8 1] 5) = W3 at *
  obtain ⟨d0, d1⟩ := two_cells HX1d.out
  obtain ⟨d2, d3⟩ := two_cells HX2d.out
  have q1 := fun W => fault_neq 1 ad W
  have q2 := fun W => fault_neq 2 ad W
  have q3 := fun W => fault_neq 3 ad W
  go_upto_region 16 with (fail)
  go_wp2_with (first | (go_at_call 23; refine (store_nil _ _ _ _).mono ?_; rintro e wS ⟨rfl, kS⟩; unfold faultV) | (go_at_call 24; with_reducible refine (out_nil _ _).mono ?_; rintro e w' ⟨rfl, rfl⟩) | (go_at_call 25; with_reducible refine (check_nil _ _ _ _).mono ?_; rintro e w' ⟨rfl, rfl⟩) | (go_at_call 26; with_reducible refine (brk_nil _ _).mono ?_; rintro e w' ⟨rfl, rfl⟩) | (go_at_call 27; with_reducible refine (unmap_nil _ _ _).mono ?_; rintro e w' ⟨rfl, rfl⟩) | (go_at_call 28; with_reducible refine (protect_nil _ _ _ _).mono ?_; rintro e w' ⟨rfl, rfl⟩) | (go_at_call 15; with_reducible refine (mcopy_nil _).mono ?_; rintro e w' ⟨rfl, rfl⟩) | (go_at_call 29; with_reducible refine (mpages_nil _).mono ?_; rintro e w' ⟨rfl, rfl⟩) | (go_at_call 14; with_reducible refine (mregions_nil _).mono ?_; rintro e w' ⟨rfl, rfl⟩) | (go_at_call 7; with_reducible refine (mstamp_nil _ _).mono ?_; rintro e w' ⟨rfl, rfl⟩) | (go_at_call 8; with_reducible refine (mpeek_nil _ _ _).mono ?_; rintro e w' ⟨rfl, rfl⟩))
  have KS := Lib.hid (KX3.out.trans kS); clear kS KX3
  have cp2 := mpeek_any (H6.out.bl KS.out) 0 80000 (by omega) (by omega) (by omega)
  rw [show ((0 : Nat) : Int) = 0 from rfl, show ((80000 : Nat) : Int) = 80000 from rfl] at cp2
  unfold addr0 at cp2
  refine cp2.mono ?_
  rintro e wP ⟨rfl, hbP, kP⟩
  clear cp2
  have rd1 := Rd.of_block hbP
  have rd2 := Rd.of_block (kP.at_ (KS.out.at_ (K6.out.at_ HB5.out)))
  have KP := Lib.hid (KS.out.trans kP); clear kP hbP KS
  have csm := sameB_any _ _ 80000 80000 80000 _ _ rd1 rd2 (bytesAt_length _ _ _) (by omega)
  have CSM := Lib.hid csm; clear csm rd1 rd2
  go_wp2_with fail
  refine CSM.out.mono ?_
  rintro e w' ⟨rfl, m, rfl⟩
  have KM := Lib.hid (KP.out.drewN m); clear KP CSM
  have cr2 := mregions_any (H6.out.bl KM.out)
  unfold addr0 at cr2
  have CR2 := Lib.hid cr2; clear cr2
  generalize wP.drewN m = wM at *
  go_wp2_with fail
  refine CR2.out.mono ?_
  rintro e wQ ⟨v7, rfl, r7, k7⟩
  have KQ := Lib.hid (KM.out.trans k7); clear k7 KM CR2
  have r6 := R6.out.bl KQ.out
  rw [← HNL.out] at r6
  have csr := sameR_any r7 r6 (by have := HFEW.out; omega)
  have CSR := Lib.hid csr; clear csr r6 r7
  go_wp2_with fail
  refine CSR.out.mono ?_
  rintro e wR ⟨rfl, kR⟩
  have KR := Lib.hid (K46.out.trans (KQ.out.trans kR)); clear kR
  go_wp2_with fail
  go_ret
  exact ⟨rfl, KR.out⟩
end Go.Proofs.YtepffglljmekiaaGreat
