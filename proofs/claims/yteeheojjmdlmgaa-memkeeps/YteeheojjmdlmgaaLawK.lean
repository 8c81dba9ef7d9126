/-
  The walk of MemKeeps.
-/
import Derived.Test.YteeheojjmdlmgaaKeepsM
import Derived.Deep.CutRange
import Derived.Deep.Cut
set_option linter.unusedVariables false
set_option linter.unusedSimpArgs false
namespace Go.Proofs.Yteeheojjmdlmgaa
open Go.RowKit
set_option maxRecDepth 100000
set_option maxHeartbeats 40000000 in
theorem keeps_walk (a0 : Option Addr) (len0 cap0 : Nat) (ad nb x : Int) (a4 : Option Addr) (len4 cap4 : Nat) (w : World) (pc : Nat → Int) (hz : Prots w a0 len0 pc) (hlen : len0 ≤ 9223372036854775807)
    (g0 : 0 ≤ ad) (g1 : ad ≤ 4294967295) (g2 : 0 ≤ nb) (g3 : nb ≤ 255) (g4 : 0 ≤ x) (g5 : x ≤ 18446744073709551615) (xs : List Int) (hrd : Rd w a4 xs) (hxl : xs.length = len4) (hlc4 : len4 ≤ cap4) (hxb : ∀ k, 0 ≤ xs.getD k 0 ∧ xs.getD k 0 ≤ 255) (hl4 : len4 ≤ 9223372036854775807) (hab4 : 0 < len4 → ∀ ad, a4 = some ad → ad.block < w.heap.size) :
    Calls Try.prog 3 #[.slice a0 len0 cap0, .int .u32 ad, .int .u8 nb, .int .u64 x, .slice a4 len4 cap4] w (BoolPost w true) := by
  have cn := mnew_any (from_ w.heap.size) 20 w (Nat.le_refl _) (by omega) (by omega)
  have CN := Lib.hid cn; clear cn
  have HZ := Lib.hid hz; clear hz
  have hlenI : (len0 : Int) ≤ 9223372036854775807 := by omega
  have hlen4I : (len4 : Int) ≤ 9223372036854775807 := by omega
  have HRD := Lib.hid hrd; clear hrd
  have HXL := Lib.hid hxl; clear hxl
  have HXB := Lib.hid hxb; clear hxb
  have HAB := Lib.hid hab4; clear hab4
  obtain ⟨pr, hpr⟩ : ∃ pr : Nat → Int, pr = fun k => pc k % 8 := ⟨_, rfl⟩
  have HPR := Lib.hid hpr; clear hpr
  go_enter Try.func3, Try.ntmps3
  go_wp2_with fail
  refine CN.out.mono ?_
  rintro e w1 ⟨rfl, h1, k1, hs1⟩
  have H1 := Lib.hid h1; clear h1
  have K1 := Lib.hid k1; clear k1 CN
  unfold addr0 at *
  go_wp2_with fail
  refine (manswers_any _).mono ?_
  rintro e w2 ⟨rfl, k2⟩
  have H2 := Lib.hid (H1.out.bl k2)
  have K2 := Lib.hid (K1.out.trans k2); clear k2 H1 K1 hs1
  by_cases hbig : 9000 < len4
  · have hbigI : (9000 : Int) < (len4 : Int) := by omega
    go_wp2_with fail
    refine (manswers_any _).mono ?_
    rintro e w3 ⟨rfl, k3⟩
    have K3 := Lib.hid (K2.out.trans k3); clear k3
    go_wp2_with fail
    go_ret
    exact ⟨rfl, K3.out⟩
  have hbigI : (len4 : Int) ≤ 9000 := by omega
  clear hbig
  go_wp2_with fail
  go_loopw [12, 13, 14] (fun iv _ _ wr => ∃ (k : Nat) (L : List Rg) (M st : Nat → Int), k ≤ 6 ∧ k ≤ len0 ∧ iv = .int .i64 k ∧ KI L pr k ∧ MS (from_ w.heap.size) wr w.heap.size (k * 40000) L M st 20 0 0 ∧ Bl w wr) (fun iv _ _ _ => 7 - (intOf iv).toNat)
  case atStart => exact ⟨0, [], _, _, by omega, by omega, rfl, KI.nil pr, H2.out, K2.out⟩
  case round =>
    obtain ⟨k, L, M, st, hk, hkl, rfl, hki, hm, hbl⟩ := hrel
    clear H2 K2
    have HM := Lib.hid hm; clear hm
    have HBL := Lib.hid hbl; clear hbl
    have HKI := Lib.hid hki; clear hki
    have hkI : (k : Int) ≤ 6 := by omega
    by_cases hgo : k < len0 ∧ k < 6
    · obtain ⟨q1, q2⟩ := hgo
      have q1I : (k : Int) < (len0 : Int) := by omega
      have q2I : (k : Int) < 6 := by omega
      obtain ⟨bb, off, ha, hcs⟩ := (HZ.out.bl HBL.out) (by omega)
      subst ha
      obtain ⟨hc, hc0, hc1⟩ := hcs k q1
      have hpk : pr k = pc k % 8 := by rw [HPR.out]
      obtain ⟨a, haa⟩ : ∃ a : Nat, a = (k + 1) * 4096 := ⟨_, rfl⟩
      have haI : ((k : Int) + 1) * 4096 = (a : Int) := by omega
      have cm := kmap HKI.out q2 HM.out a haa (by omega) (fun b hb => Nat.le_trans HBL.out.size hb)
      unfold addr0 at cm
      have CM := Lib.hid cm; clear cm hc hcs
      have HAI := Lib.hid haI; clear haI
      go_wp2_with fail
      rw [HAI.out]
      refine CM.out.mono ?_
      rintro e w3 ⟨⟨v, rfl⟩, L1, M1, st1, rs1, in1, h3, f3⟩
      have H3 := Lib.hid h3
      have K3 := Lib.hid (Fr.from_bl HBL.out f3)
      have RS1 := Lib.hid rs1
      have IN1 := Lib.hid in1
      clear h3 f3 rs1 in1 HM HBL CM
      have haI1 : (4096 : Int) ≤ (a : Int) := by omega
      have haI2 : (a : Int) ≤ 24576 := by omega
      go_wp2_with fail
      obtain ⟨V, hV⟩ : ∃ V, V = wr := ⟨_, rfl⟩
      subst hV
      go_loopw [14] (fun tv wr => ∃ (t : Nat) (M2 st2 : Nat → Int), t ≤ 586 ∧ tv = .int .i64 ((7 * t : Nat) : Int) ∧ MS (from_ w.heap.size) wr w.heap.size (k * 40000 + 8192 + 6 * t) L1 M2 st2 20 0 0 ∧ Bl w wr) (fun tv _ => 4200 - (intOf tv).toNat)
      case atStart => exact ⟨0, M1, st1, by omega, rfl, H3.out, K3.out⟩
      case round =>
        obtain ⟨t, M2, st2, ht, rfl, h4, k4⟩ := hrel
        clear H3 K3
        have H4 := Lib.hid h4; clear h4
        have K4 := Lib.hid k4; clear k4
        by_cases htt : 7 * t < 4096
        · have httI : ((7 * t : Nat) : Int) < 4096 := by omega
          obtain ⟨y, hy⟩ : ∃ y : Int, y = ((k : Int) + 7 * (t : Int)) % 256 := ⟨_, rfl⟩
          have cp := mput_one H4.out (a + 7 * t) y (by omega) (by omega) (by omega) (fun b hb => Nat.le_trans K4.out.size hb)
          have haI : ((a + 7 * t : Nat) : Int) = ((k : Int) + 1) * 4096 + 7 * (t : Int) := by omega
          unfold addr0 at cp
          rw [haI, hy] at cp
          have CP := Lib.hid cp; clear cp hy haI
          go_wp2_with fail
          with_reducible refine CP.out.mono ?_
          rintro e w5 ⟨rfl, M5, st5, h5, _, _, f5⟩
          have H5 := Lib.hid h5
          have K5 := Lib.hid (Fr.from_bl K4.out f5)
          clear h5 f5 CP H4 K4
          go_wp2_with fail
          exact ⟨⟨t + 1, M5, st5, by omega, (by first | rfl | (congr 1; omega)), H5.out, K5.out⟩, by simp only [intOf]; omega⟩
        · have httI : (4096 : Int) ≤ ((7 * t : Nat) : Int) := by omega
          obtain ⟨bb2, off2, ha2, hcs⟩ := (HZ.out.bl K4.out) (by omega)
          cases ha2
          obtain ⟨hc, _, _⟩ := hcs k q1
          clear hcs htt
          have cp := kprotect HKI.out q2 RS1.out a haa IN1.out (by rw [hpk]; omega) H4.out (by omega) (fun b hb => Nat.le_trans K4.out.size hb)
          rw [hpk, show (a : Int) = ((k : Int) + 1) * 4096 by omega] at cp
          unfold addr0 at cp
          have CP := Lib.hid cp; clear cp
          go_wp2_with fail
          with_reducible refine CP.out.mono ?_
          rintro e w5 ⟨⟨v5, rfl⟩, L5, st5, ki5, h5, f5⟩
          have H5 := Lib.hid h5
          have K5 := Lib.hid (Fr.from_bl K4.out f5)
          have KI5 := Lib.hid ki5
          clear h5 f5 CP H4 K4 ki5
          go_wp2_with fail
          exact ⟨⟨k + 1, L5, M2, st5, by omega, by omega, by go_num, KI5.out, H5.out.mono (by omega), K5.out⟩, by simp only [intOf]; omega⟩
    · have hm6 : 6 ≤ k ∨ len0 ≤ k := by omega
      clear hgo
      obtain ⟨V, hV⟩ : ∃ V, V = wr := ⟨_, rfl⟩
      subst hV
      go_upto_region 5 with (fail)
      go_cut [54] from 47 to 87 (fun v wx => v = .bool false ∧ V = wx)
      case first =>
        by_cases q1 : k < len0
        · obtain rfl : k = 6 := by omega
          have q1I : (6 : Int) < (len0 : Int) := by omega
          go_wp2_with fail
          go_meet
          exact ⟨rfl, rfl⟩
        · have q1I : (len0 : Int) ≤ (k : Int) := by omega
          go_wp2_with fail
          go_meet
          exact ⟨rfl, rfl⟩
      case rest =>
        obtain ⟨rfl, rfl⟩ := hcut
        have hkm : k = min len0 6 := by omega
        have cpk := mpeek_any HM.out 0 40000 (by omega) (by omega) (by omega)
        unfold addr0 at cpk
        have CPK := Lib.hid cpk; clear cpk
        obtain ⟨A, hA⟩ : ∃ A : Nat, (A : Int) = ad % 30000 := ⟨(ad % 30000).toNat, by omega⟩
        have hA1 : A < 30000 := by omega
        have HA := Lib.hid hA; clear hA
        go_wp2_with fail
        refine CPK.out.mono ?_
        rintro e w3 ⟨rfl, hb3, k3⟩
        have HB3 := Lib.hid hb3
        have K3 := Lib.hid k3
        clear hb3 k3 CPK
        go_upto_region 16 with (fail)
        rw [← HA.out]
        go_cut [17] from 93 to 97 (fun v wx => ∃ n : Nat, v = .int .i64 (n : Int) ∧ (n = 1 ∨ n = 2 ∨ n = 4 ∨ n = 8) ∧ w3.alloc (.cells #[.int .i64 1, .int .i64 2, .int .i64 4, .int .i64 8] 3) = wx)
        case first =>
          have hj4 : nb % 4 = 0 ∨ nb % 4 = 1 ∨ nb % 4 = 2 ∨ nb % 4 = 3 := by omega
          rcases hj4 with hj | hj | hj | hj
          · go_wp2_with fail
            go_meet
            exact ⟨1, rfl, by decide, rfl⟩
          · go_wp2_with fail
            go_meet
            exact ⟨2, rfl, by decide, rfl⟩
          · go_wp2_with fail
            go_meet
            exact ⟨4, rfl, by decide, rfl⟩
          · go_wp2_with fail
            go_meet
            exact ⟨8, rfl, by decide, rfl⟩
        case rest =>
          obtain ⟨n, rfl, hn, rfl⟩ := hcut
          have hn8 : n ≤ 8 := by omega
          have hn1 : 1 ≤ n := by omega
          have HN := Lib.hid hn; clear hn
          obtain ⟨w4, hw4⟩ : ∃ w4, w4 = w3.alloc (.cells #[.int .i64 1, .int .i64 2, .int .i64 4, .int .i64 8] 3) := ⟨_, rfl⟩
          rw [← hw4]
          have K4 : Hid (Bl V w4) := Lib.hid (by rw [hw4]; exact K3.out.alloc _)
          have HB4 : Hid (w4.heap[V.heap.size]? = some (.cells (asBytes (bytesAt M 0 40000)).toArray 5 (0, 0))) := Lib.hid (by rw [hw4]; exact (Bl.new w3 _).at_ HB3.out)
          have hlt4 : V.heap.size < w4.heap.size := lt_at HB4.out
          clear hw4 HB3 K3
          have h4 := HM.out.gap K4.out V.heap.size w4.heap.size (Nat.le_refl _)
          have hT4 : ∀ b, w4.heap.size ≤ b → gap (from_ w.heap.size) V.heap.size w4.heap.size b := gap_new (w := V) (fun b hb => Nat.le_trans HBL.out.size hb) _ K4.out.size
          have cs := storeK h4 A n x (by omega) HN.out (by omega) hT4
          unfold addr0 at cs
          have CS := Lib.hid cs; clear cs h4
          have HT4 := Lib.hid hT4; clear hT4
          go_wp2_with fail
          refine CS.out.mono ?_
          rintro e w5 ⟨kf, yf, M2, st2, rfl, h5, f5, c5⟩
          have hb5 := f5.at_ HB4.out (fun e => e.2 ⟨Nat.le_refl _, lt_at HB4.out⟩)
          have HB5 := Lib.hid hb5
          have H5 := Lib.hid h5
          have F5 := Lib.hid f5
          have C5 := Lib.hid c5
          clear hb5 h5 f5 c5 CS HB4
          unfold faultV
          obtain ⟨w6, hw6⟩ : ∃ w6, w6 = w5.alloc (.cells #[.int .i64 kf, .int .u64 yf] 36) := ⟨_, rfl⟩
          have K6 : Hid (Bl w5 w6) := Lib.hid (by rw [hw6]; exact Bl.new _ _)
          have HF6 : Hid (w6.heap[w5.heap.size]? = some (.cells #[.int .i64 kf, .int .u64 yf] 36 (0, 0))) := Lib.hid (by rw [hw6]; exact heap_alloc_new _ _)
          have h6 := H5.out.gap K6.out w5.heap.size w6.heap.size (Nat.le_refl _)
          have hT6 : ∀ b, w6.heap.size ≤ b → gap (gap (from_ w.heap.size) V.heap.size w4.heap.size) w5.heap.size w6.heap.size b := gap_new (w := w5) (fun b hb => HT4.out b (Nat.le_trans F5.out.size hb)) _ K6.out.size
          have kw6 : Bl w w6 := ((Fr.from_bl HBL.out ((Fr.of_bl K4.out).trans F5.out.ungap)).trans K6.out)
          have co := outK h6 A a4 len4 cap4 xs (HRD.out.below kw6) HXL.out hlc4 HXB.out (fun h0 ad e e2 => by
            have h8 := HAB.out h0 ad e
            have h9 : w.heap.size ≤ ad.block := e2.1.1
            omega) (by omega) (by omega) (by omega) hT6
          unfold addr0 at co
          have CO := Lib.hid co; clear co h6
          have HT6 := Lib.hid hT6; clear hT6
          have KW6 := Lib.hid kw6; clear kw6
          have HB6 := Lib.hid (K6.out.at_ HB5.out)
          have hlt5 : V.heap.size < w5.heap.size := lt_at HB5.out
          go_wp2_with fail
          rw [← hw6]
          refine CO.out.mono ?_
          rintro e w7 ⟨r, M3, st3, rfl, h7, f7, c7⟩
          have HB7 := Lib.hid (f7.at_ HB6.out (fun e => e.1.2 ⟨Nat.le_refl _, hlt4⟩))
          have HF7 := Lib.hid (f7.at_ HF6.out (fun e => e.2 ⟨Nat.le_refl _, lt_at HF6.out⟩))
          have KW7 := Lib.hid (Fr.from_bl KW6.out f7.ungap.ungap)
          have H7 := Lib.hid h7
          have C7 := Lib.hid c7
          clear h7 f7 c7 CO HB6 HF6 K6 HT6 KW6 HB5 H5 F5 hw6
          have cpk := mpeek_any H7.out 0 40000 (by omega) (by omega) (by omega)
          unfold addr0 at cpk
          have CPK := Lib.hid cpk; clear cpk
          go_wp2_with fail
          refine CPK.out.mono ?_
          rintro e w8 ⟨rfl, hb8, k8⟩
          have HA8 := Lib.hid hb8
          have HB8 := Lib.hid (k8.at_ HB7.out)
          have HF8 := Lib.hid (k8.at_ HF7.out)
          have KW8 := Lib.hid (KW7.out.trans k8)
          have H8 := Lib.hid (H7.out.bl k8)
          clear hb8 k8 CPK HB7 HF7 KW7 H7
          have hch : ∀ i : Nat, M i ≠ M3 i → Can L 2 i ∧ A ≤ i ∧ ((kf = 0 ∧ i < A + n) ∨ (r = 0 ∧ i < A + len4)) := fun i hi => by
            by_cases h2 : M2 i = M i
            · obtain ⟨e1, e2, e3, e4⟩ := C7.out i (by rw [h2]; exact fun e => hi e.symm)
              exact ⟨e4, e2, .inr ⟨e1, e3⟩⟩
            · obtain ⟨e1, e2, e3, e4⟩ := C5.out i h2
              exact ⟨e4, e2, .inl ⟨e1, e3⟩⟩
          have HCH := Lib.hid hch; clear hch C5 C7
          have hA1I : (A : Int) < 30000 := by omega
          have hn8I : (n : Int) ≤ 8 := by omega
          go_wp2_with fail
          go_loopw [21, 22, 23, 24] (fun iv _ _ _ wr => ∃ i : Nat, i ≤ 40000 ∧ iv = .int .i64 i ∧ Bl w8 wr) (fun iv _ _ _ _ => 40001 - (intOf iv).toNat)
          case atStart => exact ⟨0, by omega, rfl, Bl.refl _⟩
          case round =>
            obtain ⟨i, hi, rfl, hk9⟩ := hrel
            have K9 := Lib.hid hk9; clear hk9
            obtain ⟨V9, hV9⟩ : ∃ V9, V9 = wr := ⟨_, rfl⟩
            subst hV9
            by_cases hi4 : i < 40000
            · have hi4I : (i : Int) < 40000 := by omega
              have e1 := read_cell HB8.out K9.out i hi4
              have e2 := read_cell HA8.out K9.out i hi4
              obtain ⟨f1, f2⟩ := two_cells (K9.out.at_ HF8.out)
              clear f2
              have E1 := Lib.hid e1; clear e1
              have E2 := Lib.hid e2; clear e2
              have FF1 := Lib.hid f1; clear f1
              obtain ⟨P, hP⟩ : ∃ P : Int, P = (i : Int) / 4096 - 1 := ⟨_, rfl⟩
              have HP := Lib.hid hP; clear hP
              go_upto_region 24 with (fail)
              rw [← HP.out]
              go_cut [23] from 109 to 188 (fun v wx => ∃ m : Bool, v = .bool m ∧ (Can L 2 i → m = true) ∧ V9 = wx)
              case first =>
                by_cases p0 : P < 0
                · have hno : ¬ Can L 2 i := fun e => by
                    obtain ⟨j, j1, j2, j3, j4⟩ := (HKI.out.can 2 i).1 e
                    have h9 := HP.out
                    omega
                  have HNO := Lib.hid hno; clear hno
                  have tp : decide (0 ≤ P) = false := by simp; omega
                  clear p0
                  go_wp2_with fail
                  go_meet
                  exact ⟨_, rfl, fun e => absurd e HNO.out, rfl⟩
                · by_cases p1 : (len0 : Int) ≤ P
                  · have p00 : 0 ≤ P := by omega
                    have hno : ¬ Can L 2 i := fun e => by
                      obtain ⟨j, j1, j2, j3, j4⟩ := (HKI.out.can 2 i).1 e
                      have h9 := HP.out
                      omega
                    have HNO := Lib.hid hno; clear hno
                    have tp0 : decide (0 ≤ P) = true := by simp; omega
                    have tp : decide (P < (len0 : Int)) = false := by simp; omega
                    clear p0 p1 p00
                    go_wp2_with fail
                    go_meet
                    exact ⟨_, rfl, fun e => absurd e HNO.out, rfl⟩
                  · by_cases p2 : 6 ≤ P
                    · have p00 : 0 ≤ P := by omega
                      have p11 : P < (len0 : Int) := by omega
                      have hno : ¬ Can L 2 i := fun e => by
                        obtain ⟨j, j1, j2, j3, j4⟩ := (HKI.out.can 2 i).1 e
                        have h9 := HP.out
                        omega
                      have HNO := Lib.hid hno; clear hno
                      have tp0 : decide (0 ≤ P) = true := by simp; omega
                      have tp1 : decide (P < (len0 : Int)) = true := by simp; omega
                      have tp : decide (P < 6) = false := by simp; omega
                      clear p0 p1 p2 p00 p11
                      go_wp2_with fail
                      go_meet
                      exact ⟨_, rfl, fun e => absurd e HNO.out, rfl⟩
                    · obtain ⟨p, rfl⟩ := Int.eq_ofNat_of_zero_le (show 0 ≤ P by omega)
                      have p11 : (p : Int) < (len0 : Int) := by omega
                      have p22 : (p : Int) < 6 := by omega
                      obtain ⟨bb, off, ha, hcs⟩ := (HZ.out.bl (KW8.out.trans K9.out)) (by omega)
                      subst ha
                      obtain ⟨hc, hc0, hc1⟩ := hcs p (by omega)
                      have hbit := bit2 (pc p) hc0 hc1
                      clear hcs p0 p1 p2
                      have hcan : Can L 2 i → (bits .and .u8 (pc p) 2 != 0) = true := fun e => by
                        obtain ⟨j, j1, j2, j3, j4⟩ := (HKI.out.can 2 i).1 e
                        obtain rfl : j = p := by have := HP.out; omega
                        rw [HPR.out] at j4
                        exact hbit.1 j4
                      have HCAN := Lib.hid hcan; clear hcan hbit
                      rcases hbb : (bits .and .u8 (pc p) 2 != 0) with _ | _
                      · rw [hbb] at HCAN
                        go_wp2_with fail
                        go_meet
                        exact ⟨false, rfl, HCAN.out, rfl⟩
                      · rw [hbb] at HCAN
                        go_wp2_with fail
                        go_meet
                        exact ⟨true, rfl, fun _ => rfl, rfl⟩
              case rest =>
                obtain ⟨m, rfl, hm, rfl⟩ := hcut
                have HMM := Lib.hid hm; clear hm
                have f1 := FF1.out
                go_upto_region 25 with (fail)
                go_cut [24] from 109 to 188 (fun v wx => ∃ s : Bool, v = .bool s ∧ (M i ≠ M3 i → s = true) ∧ V9 = wx)
                case first =>
                  by_cases hai : A ≤ i
                  · have haiI : (A : Int) ≤ (i : Int) := by omega
                    by_cases hkf : kf = 0
                    · subst hkf
                      by_cases hin : i < A + n
                      · have hinI : (i : Int) < (A : Int) + (n : Int) := by omega
                        go_wp2_with fail
                        go_meet
                        exact ⟨_, rfl, fun e => by have h9 := HCH.out i e; first | (exfalso; omega) | (simp; done) | (simp; omega) | rfl, rfl⟩
                      · have hinI : (A : Int) + (n : Int) ≤ (i : Int) := by omega
                        by_cases hr : r = 0
                        · subst hr
                          by_cases hil : i < A + len4
                          · have hilI : (i : Int) < (A : Int) + (len4 : Int) := by omega
                            go_wp2_with fail
                            go_meet
                            exact ⟨_, rfl, fun e => by have h9 := HCH.out i e; first | (exfalso; omega) | (simp; done) | (simp; omega) | rfl, rfl⟩
                          · have hilI : (A : Int) + (len4 : Int) ≤ (i : Int) := by omega
                            go_wp2_with fail
                            go_meet
                            exact ⟨_, rfl, fun e => by have h9 := HCH.out i e; first | (exfalso; omega) | (simp; done) | (simp; omega) | rfl, rfl⟩
                        · have tr : (r == 0) = false := by simp [hr]
                          go_wp2_with fail
                          go_meet
                          exact ⟨_, rfl, fun e => by have h9 := HCH.out i e; first | (exfalso; omega) | (simp; done) | (simp; omega) | rfl, rfl⟩
                    · have tkf : (kf == 0) = false := by simp [hkf]
                      by_cases hr : r = 0
                      · subst hr
                        by_cases hil : i < A + len4
                        · have hilI : (i : Int) < (A : Int) + (len4 : Int) := by omega
                          go_wp2_with fail
                          go_meet
                          exact ⟨_, rfl, fun e => by have h9 := HCH.out i e; first | (exfalso; omega) | (simp; done) | (simp; omega) | rfl, rfl⟩
                        · have hilI : (A : Int) + (len4 : Int) ≤ (i : Int) := by omega
                          go_wp2_with fail
                          go_meet
                          exact ⟨_, rfl, fun e => by have h9 := HCH.out i e; first | (exfalso; omega) | (simp; done) | (simp; omega) | rfl, rfl⟩
                      · have tr : (r == 0) = false := by simp [hr]
                        go_wp2_with fail
                        go_meet
                        exact ⟨_, rfl, fun e => by have h9 := HCH.out i e; first | (exfalso; omega) | (simp; done) | (simp; omega) | rfl, rfl⟩
                  · have haiI : (i : Int) < (A : Int) := by omega
                    by_cases hkf : kf = 0
                    · subst hkf
                      by_cases hr : r = 0
                      · subst hr
                        go_wp2_with fail
                        go_meet
                        exact ⟨_, rfl, fun e => by have h9 := HCH.out i e; first | (exfalso; omega) | (simp; done) | (simp; omega) | rfl, rfl⟩
                      · have tr : (r == 0) = false := by simp [hr]
                        go_wp2_with fail
                        go_meet
                        exact ⟨_, rfl, fun e => by have h9 := HCH.out i e; first | (exfalso; omega) | (simp; done) | (simp; omega) | rfl, rfl⟩
                    · have tkf : (kf == 0) = false := by simp [hkf]
                      by_cases hr : r = 0
                      · subst hr
                        go_wp2_with fail
                        go_meet
                        exact ⟨_, rfl, fun e => by have h9 := HCH.out i e; first | (exfalso; omega) | (simp; done) | (simp; omega) | rfl, rfl⟩
                      · have tr : (r == 0) = false := by simp [hr]
                        go_wp2_with fail
                        go_meet
                        exact ⟨_, rfl, fun e => by have h9 := HCH.out i e; first | (exfalso; omega) | (simp; done) | (simp; omega) | rfl, rfl⟩
                case rest =>
                  obtain ⟨s, rfl, hs, rfl⟩ := hcut
                  have HSS := Lib.hid hs; clear hs f1
                  have e1 := E1.out
                  have e2 := E2.out
                  by_cases hbc : M i = M3 i
                  · rw [← hbc] at e2
                    go_upto_region 26 with (fail)
                    go_quiet (fail)
                    go_wp2_with fail
                    go_roundw
                    case rel => exact ⟨i + 1, by omega, by go_num, K9.out.drewN _⟩
                    case measure => simp [intOf]; omega
                  · have tb : (M i != M3 i) = true := by simp [hbc]
                    obtain rfl := HSS.out hbc
                    obtain rfl := HMM.out (HCH.out i hbc).1
                    go_upto_region 26 with (fail)
                    go_quiet (fail)
                    go_wp2_with fail
                    go_roundw
                    case rel => exact ⟨i + 1, by omega, by go_num, K9.out.drewN _⟩
                    case measure => simp [intOf]; omega
            · obtain rfl : i = 40000 := by omega
              have h9 := H8.out.bl K9.out
              have cl := load_any h9 A n (by omega) HN.out
              unfold addr0 at cl
              have CL := Lib.hid cl; clear cl h9
              go_wp2_with fail
              refine CL.out.mono ?_
              rintro e wA ⟨y, kg, xg, rfl, hg, kA⟩
              have KA := Lib.hid (K9.out.trans kA)
              clear kA CL
              unfold faultV
              obtain ⟨wB, hwB⟩ : ∃ wB, wB = wA.alloc (.cells #[.int .i64 kg, .int .u64 xg] 36) := ⟨_, rfl⟩
              have KB : Hid (Bl w8 wB) := Lib.hid (by rw [hwB]; exact KA.out.alloc _)
              have HGB : Hid (wB.heap[wA.heap.size]? = some (.cells #[.int .i64 kg, .int .u64 xg] 36 (0, 0))) := Lib.hid (by rw [hwB]; exact heap_alloc_new _ _)
              obtain ⟨gb, hgb⟩ : ∃ gb, gb = wA.heap.size := ⟨_, rfl⟩
              go_wp2_with fail
              rw [← hwB, ← hgb]
              rw [← hgb] at HGB
              clear hwB hgb KA
              have hyb : (kg = 1 ∧ y = 0 ∧ (A : Int) ≤ xg ∧ xg < (A : Int) + n) ∨ (kg = 0 ∧ y = numAt M3 A n) := by
                rcases hg with ⟨e1, e2, e3, e4, _⟩ | ⟨e1, _, e3, _⟩
                · exact .inl ⟨e1, e2, e3, e4⟩
                · exact .inr ⟨e1, e3⟩
              have hgc : ∀ z : Nat, z < n → (Can L 1 ((A : Int) + z) ↔ ¬ (kg = 1 ∧ xg ≤ (A : Int) + z ∧ xg = (A : Int) + z)) ∨ (kg = 1 ∧ xg < (A : Int) + z) := fun z hz => by
                rcases hg with ⟨e1, e2, e3, e4, e5, e6⟩ | ⟨e1, e2, e3, e4⟩
                · rcases Int.lt_trichotomy ((A : Int) + z) xg with h1 | h1 | h1
                  · exact .inl ⟨fun _ e => by omega, fun _ => e6 _ (by omega) h1⟩
                  · exact .inl ⟨fun c => absurd (h1 ▸ c) e5, fun e => absurd ⟨e1, by omega, h1.symm⟩ e⟩
                  · exact .inr ⟨e1, h1⟩
                · exact .inl ⟨fun _ e => by omega, fun _ => e4 _ (by omega) (by omega)⟩
              have HGC := Lib.hid hgc; clear hgc hg
              have HYB := Lib.hid hyb; clear hyb
              go_loopw [27, 28, 29] (fun zv _ _ wr => ∃ z : Nat, z ≤ n ∧ zv = .int .i64 z ∧ (kg = 1 → (A : Int) + z ≤ xg) ∧ Bl wB wr) (fun zv _ _ _ => 9 - (intOf zv).toNat)
              case atStart => exact ⟨0, by omega, rfl, fun e => by rcases HYB.out with h | h <;> omega, Bl.refl _⟩
              case round =>
                obtain ⟨z, hz, rfl, hzx, hkz⟩ := hrel
                have KZ := Lib.hid hkz; clear hkz
                have HZX := Lib.hid hzx; clear hzx
                obtain ⟨VZ, hVZ⟩ : ∃ VZ, VZ = wr := ⟨_, rfl⟩
                subst hVZ
                obtain ⟨f1, f2⟩ := two_cells (KZ.out.at_ HGB.out)
                have FF1 := Lib.hid f1; clear f1
                have FF2 := Lib.hid f2; clear f2
                by_cases hzn : z < n
                · have hznI : (z : Int) < (n : Int) := by omega
                  obtain ⟨P, hP⟩ : ∃ P : Int, P = ((A : Int) + (z : Int)) / 4096 - 1 := ⟨_, rfl⟩
                  have HP := Lib.hid hP; clear hP
                  go_upto_region 33 with (fail)
                  rw [← HP.out]
                  go_cut [29] from 196 to 239 (fun v wx => ∃ m : Bool, v = .bool m ∧ (m = true ↔ Can L 1 ((A : Int) + z)) ∧ VZ = wx)
                  case first =>
                    by_cases p0 : P < 0
                    · have hno : ¬ Can L 1 ((A : Int) + z) := fun e => by
                        obtain ⟨j, j1, j2, j3, j4⟩ := (HKI.out.can 1 ((A : Int) + z)).1 e
                        have h9 := HP.out
                        omega
                      have HNO := Lib.hid hno; clear hno
                      have tp : decide (0 ≤ P) = false := by simp; omega
                      clear p0
                      go_wp2_with fail
                      go_meet
                      exact ⟨_, rfl, ⟨fun h => by exfalso; first | (cases h; done) | (simp at h; done) | (simp at h; omega), fun e => absurd e HNO.out⟩, rfl⟩
                    · by_cases p1 : (len0 : Int) ≤ P
                      · have p00 : 0 ≤ P := by omega
                        have hno : ¬ Can L 1 ((A : Int) + z) := fun e => by
                          obtain ⟨j, j1, j2, j3, j4⟩ := (HKI.out.can 1 ((A : Int) + z)).1 e
                          have h9 := HP.out
                          omega
                        have HNO := Lib.hid hno; clear hno
                        have tp0 : decide (0 ≤ P) = true := by simp; omega
                        have tp : decide (P < (len0 : Int)) = false := by simp; omega
                        clear p0 p1 p00
                        go_wp2_with fail
                        go_meet
                        exact ⟨_, rfl, ⟨fun h => by exfalso; first | (cases h; done) | (simp at h; done) | (simp at h; omega), fun e => absurd e HNO.out⟩, rfl⟩
                      · by_cases p2 : 6 ≤ P
                        · have p00 : 0 ≤ P := by omega
                          have p11 : P < (len0 : Int) := by omega
                          have hno : ¬ Can L 1 ((A : Int) + z) := fun e => by
                            obtain ⟨j, j1, j2, j3, j4⟩ := (HKI.out.can 1 ((A : Int) + z)).1 e
                            have h9 := HP.out
                            omega
                          have HNO := Lib.hid hno; clear hno
                          have tp0 : decide (0 ≤ P) = true := by simp; omega
                          have tp1 : decide (P < (len0 : Int)) = true := by simp; omega
                          have tp : decide (P < 6) = false := by simp; omega
                          clear p0 p1 p2 p00 p11
                          go_wp2_with fail
                          go_meet
                          exact ⟨_, rfl, ⟨fun h => by exfalso; first | (cases h; done) | (simp at h; done) | (simp at h; omega), fun e => absurd e HNO.out⟩, rfl⟩
                        · obtain ⟨p, rfl⟩ := Int.eq_ofNat_of_zero_le (show 0 ≤ P by omega)
                          have p11 : (p : Int) < (len0 : Int) := by omega
                          have p22 : (p : Int) < 6 := by omega
                          obtain ⟨bb, off, ha, hcs⟩ := (HZ.out.bl (KW8.out.trans (KB.out.trans KZ.out))) (by omega)
                          subst ha
                          obtain ⟨hc, hc0, hc1⟩ := hcs p (by omega)
                          have hbit := bit1 (pc p) hc0 hc1
                          clear hcs p0 p1 p2
                          have hpk : p < k := by omega
                          have hcan : (bits .and .u8 (pc p) 1 != 0) = true ↔ Can L 1 ((A : Int) + z) := by
                            rw [HKI.out.can, ← hbit]
                            refine ⟨fun e => ⟨p, hpk, by have := HP.out; omega, by have := HP.out; omega, by rw [HPR.out]; exact e⟩, fun ⟨j, j1, j2, j3, j4⟩ => ?_⟩
                            obtain rfl : j = p := by have := HP.out; omega
                            rw [HPR.out] at j4
                            exact j4
                          have HCAN := Lib.hid hcan; clear hcan hbit
                          rcases hbb : (bits .and .u8 (pc p) 1 != 0) with _ | _
                          · rw [hbb] at HCAN
                            have HC2 : Hid (¬ Can L 1 ((A : Int) + z)) := Lib.hid (fun e => by have h9 := HCAN.out.2 e; cases h9)
                            clear HCAN
                            go_wp2_with fail
                            go_meet
                            exact ⟨false, rfl, ⟨fun h => (by cases h), fun e => absurd e HC2.out⟩, rfl⟩
                          · rw [hbb] at HCAN
                            have HC2 : Hid (Can L 1 ((A : Int) + z)) := Lib.hid (HCAN.out.1 rfl)
                            clear HCAN
                            go_wp2_with fail
                            go_meet
                            exact ⟨true, rfl, ⟨fun _ => HC2.out, fun _ => rfl⟩, rfl⟩
                  case rest =>
                    obtain ⟨m, rfl, hm, rfl⟩ := hcut
                    have f1 := FF1.out
                    have f2 := FF2.out
                    rcases m with _ | _
                    · have hno : ¬ Can L 1 ((A : Int) + z) := fun e => by have h9 := hm.2 e; cases h9
                      have hfin : kg = 1 ∧ xg = (A : Int) + z ∧ y = 0 := by
                        have h1 := HGC.out z hzn
                        have h2 := HZX.out
                        have h3 := HYB.out
                        rcases h1 with h1 | h1
                        · by_cases h4 : kg = 1 ∧ xg ≤ (A : Int) + z ∧ xg = (A : Int) + z
                          · rcases h3 with h3 | h3
                            · exact ⟨h4.1, h4.2.2, h3.2.1⟩
                            · omega
                          · exact absurd (h1.2 h4) hno
                        · have := h2 h1.1; omega
                      obtain ⟨rfl, rfl, rfl⟩ := hfin
                      clear hno hm HGC HZX HYB
                      go_wp2_with fail
                      go_ret
                      exact ⟨by simp, KW8.out.trans (KB.out.trans KZ.out)⟩
                    · have hyes : Can L 1 ((A : Int) + z) := hm.1 rfl
                      have hnx : kg = 1 → (A : Int) + ((z + 1 : Nat) : Int) ≤ xg := fun e => by
                        have h2 := HZX.out e
                        rcases HGC.out z hzn with h1 | h1
                        · have h3 := h1.1 hyes
                          rcases Int.lt_or_le ((A : Int) + z) xg with h4 | h4
                          · omega
                          · exact absurd ⟨e, h4, by omega⟩ h3
                        · omega
                      have HNX := Lib.hid hnx; clear hnx hyes hm
                      go_wp2_with fail
                      go_roundw
                      case rel => exact ⟨z + 1, by omega, by go_num, HNX.out, KZ.out⟩
                      case measure => simp [intOf]; omega
                · obtain rfl : z = n := by omega
                  have hfin : kg = 0 ∧ y = numAt M3 A z := by
                    have h2 := HZX.out
                    rcases HYB.out with h3 | h3
                    · have := h2 h3.1; omega
                    · exact h3
                  obtain ⟨rfl, rfl⟩ := hfin
                  have f1 := FF1.out
                  have hrow := rd_row ((KB.out.trans KZ.out).at_ HA8.out)
                  have hrd := hrow.drop A 40000 (by rw [bytesAt_length]; omega) (by rw [bytesAt_length]; omega)
                  rw [if_neg (by omega)] at hrd
                  have cg := refGet_in _ (40000 - A) (40000 - A) _ z VZ hrd (by rw [List.length_drop, bytesAt_length]) (by omega) (by omega) (by omega) (drop_bd H8.out.by_ A 40000)
                  rw [Nat.min_eq_left (by omega), numAt_drop M3 A z 40000 (by omega)] at cg
                  have CG := Lib.hid cg; clear cg hrd hrow HGC HZX HYB
                  have e9 : (⟨w7.heap.size, 0, none⟩ : Addr).add A = ⟨w7.heap.size, A, none⟩ := by unfold Addr.add; split <;> simp_all
                  have CG2 := CG.out
                  simp only [Option.map_some, e9] at CG2
                  have CG3 := Lib.hid CG2; clear CG2 CG e9
                  go_wp2_with fail
                  with_reducible refine CG3.out.mono ?_
                  rintro e wZ ⟨rfl, rfl⟩
                  go_wp2_with fail
                  go_ret
                  exact ⟨by simp, KW8.out.trans (KB.out.trans KZ.out)⟩
end Go.Proofs.Yteeheojjmdlmgaa
