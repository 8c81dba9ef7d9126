/-
  The walk of MemBytes.
-/
import Derived.Test.YteeheojjmdlmgaaMemG
import Derived.Test.YteeheojjmdlmgaaInts
set_option linter.unusedVariables false
set_option linter.unusedSimpArgs false
namespace Go.Proofs.Yteeheojjmdlmgaa
open Go.RowKit
set_option maxRecDepth 100000
set_option maxHeartbeats 4000000 in
theorem bytes_n (a0 x a2 : Int) (w : World) (A n : Nat) (hA : (A : Int) = 4096 + a0 % 12000 + 8) (hA1 : 4104 ≤ A) (hA2 : A ≤ 16103) (hn : n = 1 ∨ n = 2 ∨ n = 4 ∨ n = 8) (j : Int) (hnj : (j = 0 ∧ n = 1) ∨ (j = 1 ∧ n = 2) ∨ (j = 2 ∧ n = 4) ∨ (j = 3 ∧ n = 8)) (hj : a2 % 4 = j) (g00 : 0 ≤ a0) (g01 : a0 ≤ 65535) (g10 : 0 ≤ x) (g11 : x ≤ 18446744073709551615) (g20 : 0 ≤ a2) (g21 : a2 ≤ 255) :
    Calls Try.prog 5 #[.int .u16 a0, .int .u64 x, .int .u8 a2] w (BoolPost w true) := by
  have cn := mnew_any (from_ w.heap.size) 4 w (Nat.le_refl _) (by omega) (by omega)
  have CN := Lib.hid cn; clear cn
  have HA := Lib.hid hA; clear hA
  have HN := Lib.hid hn
  go_enter Try.func5, Try.ntmps5
  go_wp2_with fail
  refine CN.out.mono ?_
  rintro e w1 ⟨rfl, h1, k1, hs1⟩
  have cm := mmap_new h1 4096 16384 12288 3 (by omega) (by omega) (by omega) (by omega) (by omega) ⟨by omega, by omega, by omega, by omega⟩ (by omega) (by omega) (fun b hb => show w.heap.size ≤ b by omega)
  have CM := Lib.hid cm; clear cm
  have K1 := Lib.hid k1; clear k1 h1 CN
  unfold addr0 at *
  go_wp2_with fail
  refine CM.out.mono ?_
  rintro e w2 ⟨rfl, st2, h2, r2, f2⟩
  have h2 : MS (from_ w.heap.size) w2 w.heap.size (0 + 8192) rg3 _ st2 4 0 0 := h2
  have H2 := Lib.hid h2; clear h2 CM
  have K2 := Lib.hid (Fr.from_bl K1.out f2); clear f2 r2 K1
  rcases hnj with ⟨rfl, rfl⟩ | ⟨rfl, rfl⟩ | ⟨rfl, rfl⟩ | ⟨rfl, rfl⟩
  · go_wp2_with fail
    refine (manswers_any _).mono ?_
    rintro e w3 ⟨rfl, k3⟩
    have K3a := (K2.out.alloc (.cells #[.int .i64 1, .int .i64 2, .int .i64 4, .int .i64 8] 3)).trans k3
    have H3 := Lib.hid ((H2.out.bl (Bl.new w2 (.cells #[.int .i64 1, .int .i64 2, .int .i64 4, .int .i64 8] 3))).bl k3)
    have K3 := Lib.hid K3a; clear K3a k3 H2 K2 hn HN h2
    go_wp2_with fail
    have e1 : (4096 : Int) + a0 % 12000 = ((A - 8 : Nat) : Int) := by have := HA.out; omega
    rw [← HA.out, e1]
    have cs := store3 H3.out (A - 8) 8 18446744073709551615 (by omega) (by omega) (by decide) (by omega) (fun b hb => Nat.le_trans K3.out.size hb)
    unfold addr0 at cs
    refine cs.mono ?_
    rintro e w4 ⟨rfl, st4, h4, f4⟩
    have H4 := Lib.hid h4; clear h4 cs
    have K4 := Lib.hid (Fr.from_bl K3.out f4); clear f4 H3 K3
    have hfk := fun W => kind_run 0 0 W
    unfold faultV
    go_wp2_with fail
    have cs := store3 H4.out A 8 18446744073709551615 (by omega) (by omega) (by decide) (by omega) (fun b hb => Nat.le_trans K4.out.size hb)
    unfold addr0 at cs
    refine cs.mono ?_
    rintro e w5 ⟨rfl, st5, h5, f5⟩
    have H5 := Lib.hid h5; clear h5 cs
    have K5 := Lib.hid (Fr.from_bl K4.out f5); clear f5 H4 K4
    unfold faultV
    go_wp2_with fail
    have cs := store3 H5.out A 1 x (by omega) (by omega) (by decide) (by omega) (fun b hb => Nat.le_trans K5.out.size hb)
    unfold addr0 at cs
    refine cs.mono ?_
    rintro e w6 ⟨rfl, st6, h6, f6⟩
    have h6 : MS (from_ w.heap.size) w6 w.heap.size (0 + 8192 + 9 + 9 + 9) rg3 (bytesM (wiped (fun _ => 0) 4096 16384) A 1 x) st6 4 0 0 := h6
    have H6 := Lib.hid h6; clear h6 cs
    have K6 := Lib.hid (Fr.from_bl K5.out f6); clear f6 H5 K5
    have hw8 := whole8 (wiped (fun _ => 0) 4096 16384) A 1 x g10 g11 (by decide)
    have ha8 := ahead8 (wiped (fun _ => 0) 4096 16384) A 1 x (by omega)
    have hb8 := fun k hk => byte8 (wiped (fun _ => 0) 4096 16384) A 1 k x g10 g11 (by decide) hk
    generalize bytesM (wiped (fun _ => 0) 4096 16384) A 1 x = MM at *
    obtain ⟨b0, b1⟩ := wantN_bd 1 x (by decide)
    have y1 := and_m x 8 g10 g11 (by omega)
    have y2 := or_m (x % 256) 8 (by omega) (by show x % 256 < 256; omega) (by omega)
    have y1 : bits .and .u64 x 255 = x % 256 := y1
    have y3 : bits .xor .u64 IntKind.u64.max 255 = 18446744073709551360 := by decide
    have y2 : bits .or .u64 (x % 256) 18446744073709551360 = wantN 1 x := y2
    generalize wantN 1 x = V at *
    have HB8 := Lib.hid hb8; clear hb8
    have HW8 := Lib.hid hw8; clear hw8
    have HA8 := Lib.hid ha8; clear ha8
    unfold faultV
    go_wp2_with fail
    have cl := load3 H6.out A 8 (by omega) (by omega) (by decide)
    rw [HW8.out] at cl
    unfold addr0 at cl
    refine cl.mono ?_
    rintro e w7 ⟨rfl, k7⟩
    have H7 := Lib.hid (H6.out.bl k7)
    have K7 := Lib.hid (K6.out.trans k7); clear k7 cl H6 K6
    unfold faultV
    go_wp2_with fail
    have h7 := H7.out.bl (Bl.new w7 (.cells #[.int .i64 0, .int .u64 0] 36))
    have cl := load3 h7 (A - 8) 8 (by omega) (by omega) (by decide)
    rw [HA8.out] at cl
    have e3 : (A : Int) - 8 = ((A - 8 : Nat) : Int) := by omega
    unfold addr0 at cl
    rw [e3]
    refine cl.mono ?_
    rintro e w8 ⟨rfl, k8⟩
    have H8 := Lib.hid (h7.bl k8)
    have K8 := Lib.hid ((K7.out.alloc (.cells #[.int .i64 0, .int .u64 0] 36)).trans k8); clear k8 cl H7 K7 h7
    unfold faultV
    go_wp2_with fail
    have H9 := Lib.hid (H8.out.bl (Bl.new w8 (.cells #[.int .i64 0, .int .u64 0] 36)))
    have K9 := Lib.hid (K8.out.alloc (.cells #[.int .i64 0, .int .u64 0] 36))
    clear H8 K8 y1 y2 y3
    generalize w8.alloc (.cells #[.int .i64 0, .int .u64 0] 36) = W9 at *
    have hlv := fun (V : Int) (h0 : 0 ≤ V) (h1 : V ≤ 18446744073709551615) => and255 V h0 h1
    have HLV := Lib.hid hlv; clear hlv
    go_loopw [16, 17, 18] (fun i _ _ wr => ∃ k : Nat, k ≤ 8 ∧ i = .int .i64 k ∧ MS (from_ w.heap.size) wr w.heap.size (0 + 8192 + 9 + 9 + 9) rg3 MM st6 4 0 0 ∧ Bl w wr) (fun i _ _ _ => 9 - (intOf i).toNat)
    case atStart => exact ⟨0, by omega, rfl, H9.out, K9.out⟩
    case round =>
      obtain ⟨k, hk, rfl, hm, hbl⟩ := hrel
      clear H9 K9
      have HM := Lib.hid hm; clear hm
      have HBL := Lib.hid hbl; clear hbl
      by_cases hlt : k < 8
      · have cl := load3 HM.out (A + k) 1 (by omega) (by omega) (by decide)
        rw [HB8.out k hlt] at cl
        have e5 : (A : Int) + (k : Int) = ((A + k : Nat) : Int) := by omega
        rw [← e5] at cl
        unfold addr0 at cl
        have CL := Lib.hid cl; clear cl e5
        have hkk : k = 0 ∨ k = 1 ∨ k = 2 ∨ k = 3 ∨ k = 4 ∨ k = 5 ∨ k = 6 ∨ k = 7 := by omega
        clear hk hlt
        rcases hkk with rfl | rfl | rfl | rfl | rfl | rfl | rfl | rfl
        · have cl : Calls Try.prog 15 #[.pointer (some ⟨w.heap.size, 0, none⟩), .int .u64 ((A : Int)), .int .i64 1] wr fun e w' => e = .returned (.tuple #[.int .u64 (V % 256), faultV 0 0]) ∧ Bl wr w' := by
            have h9 := CL.out
            simpa using h9
          have hq := and255 (V) (by omega) (by omega)
          have CL2 := Lib.hid cl; clear cl CL
          go_wp2_with fail
          refine CL2.out.mono ?_
          rintro e w9 ⟨rfl, k9⟩
          have HM9 := Lib.hid (HM.out.bl k9)
          have K9 := Lib.hid (HBL.out.trans k9); clear k9 CL2 HM HBL
          unfold faultV
          go_wp2_with fail
          exact ⟨⟨1, by omega, rfl, HM9.out.bl (Bl.new _ _), K9.out.alloc _⟩, by simp only [intOf]; omega⟩
        · have cl : Calls Try.prog 15 #[.pointer (some ⟨w.heap.size, 0, none⟩), .int .u64 ((A : Int) + 1), .int .i64 1] wr fun e w' => e = .returned (.tuple #[.int .u64 (V / 256 % 256), faultV 0 0]) ∧ Bl wr w' := by
            have h9 := CL.out
            simpa using h9
          have hq := and255 (V / 256) (by omega) (by omega)
          have CL2 := Lib.hid cl; clear cl CL
          go_wp2_with fail
          refine CL2.out.mono ?_
          rintro e w9 ⟨rfl, k9⟩
          have HM9 := Lib.hid (HM.out.bl k9)
          have K9 := Lib.hid (HBL.out.trans k9); clear k9 CL2 HM HBL
          unfold faultV
          go_wp2_with fail
          exact ⟨⟨2, by omega, rfl, HM9.out.bl (Bl.new _ _), K9.out.alloc _⟩, by simp only [intOf]; omega⟩
        · have cl : Calls Try.prog 15 #[.pointer (some ⟨w.heap.size, 0, none⟩), .int .u64 ((A : Int) + 2), .int .i64 1] wr fun e w' => e = .returned (.tuple #[.int .u64 (V / 65536 % 256), faultV 0 0]) ∧ Bl wr w' := by
            have h9 := CL.out
            simpa using h9
          have hq := and255 (V / 65536) (by omega) (by omega)
          have CL2 := Lib.hid cl; clear cl CL
          go_wp2_with fail
          refine CL2.out.mono ?_
          rintro e w9 ⟨rfl, k9⟩
          have HM9 := Lib.hid (HM.out.bl k9)
          have K9 := Lib.hid (HBL.out.trans k9); clear k9 CL2 HM HBL
          unfold faultV
          go_wp2_with fail
          exact ⟨⟨3, by omega, rfl, HM9.out.bl (Bl.new _ _), K9.out.alloc _⟩, by simp only [intOf]; omega⟩
        · have cl : Calls Try.prog 15 #[.pointer (some ⟨w.heap.size, 0, none⟩), .int .u64 ((A : Int) + 3), .int .i64 1] wr fun e w' => e = .returned (.tuple #[.int .u64 (V / 16777216 % 256), faultV 0 0]) ∧ Bl wr w' := by
            have h9 := CL.out
            simpa using h9
          have hq := and255 (V / 16777216) (by omega) (by omega)
          have CL2 := Lib.hid cl; clear cl CL
          go_wp2_with fail
          refine CL2.out.mono ?_
          rintro e w9 ⟨rfl, k9⟩
          have HM9 := Lib.hid (HM.out.bl k9)
          have K9 := Lib.hid (HBL.out.trans k9); clear k9 CL2 HM HBL
          unfold faultV
          go_wp2_with fail
          exact ⟨⟨4, by omega, rfl, HM9.out.bl (Bl.new _ _), K9.out.alloc _⟩, by simp only [intOf]; omega⟩
        · have cl : Calls Try.prog 15 #[.pointer (some ⟨w.heap.size, 0, none⟩), .int .u64 ((A : Int) + 4), .int .i64 1] wr fun e w' => e = .returned (.tuple #[.int .u64 (V / 4294967296 % 256), faultV 0 0]) ∧ Bl wr w' := by
            have h9 := CL.out
            simpa using h9
          have hq := and255 (V / 4294967296) (by omega) (by omega)
          have CL2 := Lib.hid cl; clear cl CL
          go_wp2_with fail
          refine CL2.out.mono ?_
          rintro e w9 ⟨rfl, k9⟩
          have HM9 := Lib.hid (HM.out.bl k9)
          have K9 := Lib.hid (HBL.out.trans k9); clear k9 CL2 HM HBL
          unfold faultV
          go_wp2_with fail
          exact ⟨⟨5, by omega, rfl, HM9.out.bl (Bl.new _ _), K9.out.alloc _⟩, by simp only [intOf]; omega⟩
        · have cl : Calls Try.prog 15 #[.pointer (some ⟨w.heap.size, 0, none⟩), .int .u64 ((A : Int) + 5), .int .i64 1] wr fun e w' => e = .returned (.tuple #[.int .u64 (V / 1099511627776 % 256), faultV 0 0]) ∧ Bl wr w' := by
            have h9 := CL.out
            simpa using h9
          have hq := and255 (V / 1099511627776) (by omega) (by omega)
          have CL2 := Lib.hid cl; clear cl CL
          go_wp2_with fail
          refine CL2.out.mono ?_
          rintro e w9 ⟨rfl, k9⟩
          have HM9 := Lib.hid (HM.out.bl k9)
          have K9 := Lib.hid (HBL.out.trans k9); clear k9 CL2 HM HBL
          unfold faultV
          go_wp2_with fail
          exact ⟨⟨6, by omega, rfl, HM9.out.bl (Bl.new _ _), K9.out.alloc _⟩, by simp only [intOf]; omega⟩
        · have cl : Calls Try.prog 15 #[.pointer (some ⟨w.heap.size, 0, none⟩), .int .u64 ((A : Int) + 6), .int .i64 1] wr fun e w' => e = .returned (.tuple #[.int .u64 (V / 281474976710656 % 256), faultV 0 0]) ∧ Bl wr w' := by
            have h9 := CL.out
            simpa using h9
          have hq := and255 (V / 281474976710656) (by omega) (by omega)
          have CL2 := Lib.hid cl; clear cl CL
          go_wp2_with fail
          refine CL2.out.mono ?_
          rintro e w9 ⟨rfl, k9⟩
          have HM9 := Lib.hid (HM.out.bl k9)
          have K9 := Lib.hid (HBL.out.trans k9); clear k9 CL2 HM HBL
          unfold faultV
          go_wp2_with fail
          exact ⟨⟨7, by omega, rfl, HM9.out.bl (Bl.new _ _), K9.out.alloc _⟩, by simp only [intOf]; omega⟩
        · have cl : Calls Try.prog 15 #[.pointer (some ⟨w.heap.size, 0, none⟩), .int .u64 ((A : Int) + 7), .int .i64 1] wr fun e w' => e = .returned (.tuple #[.int .u64 (V / 72057594037927936 % 256), faultV 0 0]) ∧ Bl wr w' := by
            have h9 := CL.out
            simpa using h9
          have hq := and255 (V / 72057594037927936) (by omega) (by omega)
          have CL2 := Lib.hid cl; clear cl CL
          go_wp2_with fail
          refine CL2.out.mono ?_
          rintro e w9 ⟨rfl, k9⟩
          have HM9 := Lib.hid (HM.out.bl k9)
          have K9 := Lib.hid (HBL.out.trans k9); clear k9 CL2 HM HBL
          unfold faultV
          go_wp2_with fail
          exact ⟨⟨8, by omega, rfl, HM9.out.bl (Bl.new _ _), K9.out.alloc _⟩, by simp only [intOf]; omega⟩
      · obtain rfl : k = 8 := by omega
        go_wp2_with fail
        go_ret
        exact ⟨rfl, HBL.out⟩
  · go_wp2_with fail
    refine (manswers_any _).mono ?_
    rintro e w3 ⟨rfl, k3⟩
    have K3a := (K2.out.alloc (.cells #[.int .i64 1, .int .i64 2, .int .i64 4, .int .i64 8] 3)).trans k3
    have H3 := Lib.hid ((H2.out.bl (Bl.new w2 (.cells #[.int .i64 1, .int .i64 2, .int .i64 4, .int .i64 8] 3))).bl k3)
    have K3 := Lib.hid K3a; clear K3a k3 H2 K2 hn HN h2
    go_wp2_with fail
    have e1 : (4096 : Int) + a0 % 12000 = ((A - 8 : Nat) : Int) := by have := HA.out; omega
    rw [← HA.out, e1]
    have cs := store3 H3.out (A - 8) 8 18446744073709551615 (by omega) (by omega) (by decide) (by omega) (fun b hb => Nat.le_trans K3.out.size hb)
    unfold addr0 at cs
    refine cs.mono ?_
    rintro e w4 ⟨rfl, st4, h4, f4⟩
    have H4 := Lib.hid h4; clear h4 cs
    have K4 := Lib.hid (Fr.from_bl K3.out f4); clear f4 H3 K3
    have hfk := fun W => kind_run 0 0 W
    unfold faultV
    go_wp2_with fail
    have cs := store3 H4.out A 8 18446744073709551615 (by omega) (by omega) (by decide) (by omega) (fun b hb => Nat.le_trans K4.out.size hb)
    unfold addr0 at cs
    refine cs.mono ?_
    rintro e w5 ⟨rfl, st5, h5, f5⟩
    have H5 := Lib.hid h5; clear h5 cs
    have K5 := Lib.hid (Fr.from_bl K4.out f5); clear f5 H4 K4
    unfold faultV
    go_wp2_with fail
    have cs := store3 H5.out A 2 x (by omega) (by omega) (by decide) (by omega) (fun b hb => Nat.le_trans K5.out.size hb)
    unfold addr0 at cs
    refine cs.mono ?_
    rintro e w6 ⟨rfl, st6, h6, f6⟩
    have h6 : MS (from_ w.heap.size) w6 w.heap.size (0 + 8192 + 9 + 9 + 9) rg3 (bytesM (wiped (fun _ => 0) 4096 16384) A 2 x) st6 4 0 0 := h6
    have H6 := Lib.hid h6; clear h6 cs
    have K6 := Lib.hid (Fr.from_bl K5.out f6); clear f6 H5 K5
    have hw8 := whole8 (wiped (fun _ => 0) 4096 16384) A 2 x g10 g11 (by decide)
    have ha8 := ahead8 (wiped (fun _ => 0) 4096 16384) A 2 x (by omega)
    have hb8 := fun k hk => byte8 (wiped (fun _ => 0) 4096 16384) A 2 k x g10 g11 (by decide) hk
    generalize bytesM (wiped (fun _ => 0) 4096 16384) A 2 x = MM at *
    obtain ⟨b0, b1⟩ := wantN_bd 2 x (by decide)
    have y1 := and_m x 16 g10 g11 (by omega)
    have y2 := or_m (x % 65536) 16 (by omega) (by show x % 65536 < 65536; omega) (by omega)
    have y1 : bits .and .u64 x 65535 = x % 65536 := y1
    have y3 : bits .xor .u64 IntKind.u64.max 65535 = 18446744073709486080 := by decide
    have y2 : bits .or .u64 (x % 65536) 18446744073709486080 = wantN 2 x := y2
    generalize wantN 2 x = V at *
    have HB8 := Lib.hid hb8; clear hb8
    have HW8 := Lib.hid hw8; clear hw8
    have HA8 := Lib.hid ha8; clear ha8
    unfold faultV
    go_wp2_with fail
    have cl := load3 H6.out A 8 (by omega) (by omega) (by decide)
    rw [HW8.out] at cl
    unfold addr0 at cl
    refine cl.mono ?_
    rintro e w7 ⟨rfl, k7⟩
    have H7 := Lib.hid (H6.out.bl k7)
    have K7 := Lib.hid (K6.out.trans k7); clear k7 cl H6 K6
    unfold faultV
    go_wp2_with fail
    have h7 := H7.out.bl (Bl.new w7 (.cells #[.int .i64 0, .int .u64 0] 36))
    have cl := load3 h7 (A - 8) 8 (by omega) (by omega) (by decide)
    rw [HA8.out] at cl
    have e3 : (A : Int) - 8 = ((A - 8 : Nat) : Int) := by omega
    unfold addr0 at cl
    rw [e3]
    refine cl.mono ?_
    rintro e w8 ⟨rfl, k8⟩
    have H8 := Lib.hid (h7.bl k8)
    have K8 := Lib.hid ((K7.out.alloc (.cells #[.int .i64 0, .int .u64 0] 36)).trans k8); clear k8 cl H7 K7 h7
    unfold faultV
    go_wp2_with fail
    have H9 := Lib.hid (H8.out.bl (Bl.new w8 (.cells #[.int .i64 0, .int .u64 0] 36)))
    have K9 := Lib.hid (K8.out.alloc (.cells #[.int .i64 0, .int .u64 0] 36))
    clear H8 K8 y1 y2 y3
    generalize w8.alloc (.cells #[.int .i64 0, .int .u64 0] 36) = W9 at *
    have hlv := fun (V : Int) (h0 : 0 ≤ V) (h1 : V ≤ 18446744073709551615) => and255 V h0 h1
    have HLV := Lib.hid hlv; clear hlv
    go_loopw [16, 17, 18] (fun i _ _ wr => ∃ k : Nat, k ≤ 8 ∧ i = .int .i64 k ∧ MS (from_ w.heap.size) wr w.heap.size (0 + 8192 + 9 + 9 + 9) rg3 MM st6 4 0 0 ∧ Bl w wr) (fun i _ _ _ => 9 - (intOf i).toNat)
    case atStart => exact ⟨0, by omega, rfl, H9.out, K9.out⟩
    case round =>
      obtain ⟨k, hk, rfl, hm, hbl⟩ := hrel
      clear H9 K9
      have HM := Lib.hid hm; clear hm
      have HBL := Lib.hid hbl; clear hbl
      by_cases hlt : k < 8
      · have cl := load3 HM.out (A + k) 1 (by omega) (by omega) (by decide)
        rw [HB8.out k hlt] at cl
        have e5 : (A : Int) + (k : Int) = ((A + k : Nat) : Int) := by omega
        rw [← e5] at cl
        unfold addr0 at cl
        have CL := Lib.hid cl; clear cl e5
        have hkk : k = 0 ∨ k = 1 ∨ k = 2 ∨ k = 3 ∨ k = 4 ∨ k = 5 ∨ k = 6 ∨ k = 7 := by omega
        clear hk hlt
        rcases hkk with rfl | rfl | rfl | rfl | rfl | rfl | rfl | rfl
        · have cl : Calls Try.prog 15 #[.pointer (some ⟨w.heap.size, 0, none⟩), .int .u64 ((A : Int)), .int .i64 1] wr fun e w' => e = .returned (.tuple #[.int .u64 (V % 256), faultV 0 0]) ∧ Bl wr w' := by
            have h9 := CL.out
            simpa using h9
          have hq := and255 (V) (by omega) (by omega)
          have CL2 := Lib.hid cl; clear cl CL
          go_wp2_with fail
          refine CL2.out.mono ?_
          rintro e w9 ⟨rfl, k9⟩
          have HM9 := Lib.hid (HM.out.bl k9)
          have K9 := Lib.hid (HBL.out.trans k9); clear k9 CL2 HM HBL
          unfold faultV
          go_wp2_with fail
          exact ⟨⟨1, by omega, rfl, HM9.out.bl (Bl.new _ _), K9.out.alloc _⟩, by simp only [intOf]; omega⟩
        · have cl : Calls Try.prog 15 #[.pointer (some ⟨w.heap.size, 0, none⟩), .int .u64 ((A : Int) + 1), .int .i64 1] wr fun e w' => e = .returned (.tuple #[.int .u64 (V / 256 % 256), faultV 0 0]) ∧ Bl wr w' := by
            have h9 := CL.out
            simpa using h9
          have hq := and255 (V / 256) (by omega) (by omega)
          have CL2 := Lib.hid cl; clear cl CL
          go_wp2_with fail
          refine CL2.out.mono ?_
          rintro e w9 ⟨rfl, k9⟩
          have HM9 := Lib.hid (HM.out.bl k9)
          have K9 := Lib.hid (HBL.out.trans k9); clear k9 CL2 HM HBL
          unfold faultV
          go_wp2_with fail
          exact ⟨⟨2, by omega, rfl, HM9.out.bl (Bl.new _ _), K9.out.alloc _⟩, by simp only [intOf]; omega⟩
        · have cl : Calls Try.prog 15 #[.pointer (some ⟨w.heap.size, 0, none⟩), .int .u64 ((A : Int) + 2), .int .i64 1] wr fun e w' => e = .returned (.tuple #[.int .u64 (V / 65536 % 256), faultV 0 0]) ∧ Bl wr w' := by
            have h9 := CL.out
            simpa using h9
          have hq := and255 (V / 65536) (by omega) (by omega)
          have CL2 := Lib.hid cl; clear cl CL
          go_wp2_with fail
          refine CL2.out.mono ?_
          rintro e w9 ⟨rfl, k9⟩
          have HM9 := Lib.hid (HM.out.bl k9)
          have K9 := Lib.hid (HBL.out.trans k9); clear k9 CL2 HM HBL
          unfold faultV
          go_wp2_with fail
          exact ⟨⟨3, by omega, rfl, HM9.out.bl (Bl.new _ _), K9.out.alloc _⟩, by simp only [intOf]; omega⟩
        · have cl : Calls Try.prog 15 #[.pointer (some ⟨w.heap.size, 0, none⟩), .int .u64 ((A : Int) + 3), .int .i64 1] wr fun e w' => e = .returned (.tuple #[.int .u64 (V / 16777216 % 256), faultV 0 0]) ∧ Bl wr w' := by
            have h9 := CL.out
            simpa using h9
          have hq := and255 (V / 16777216) (by omega) (by omega)
          have CL2 := Lib.hid cl; clear cl CL
          go_wp2_with fail
          refine CL2.out.mono ?_
          rintro e w9 ⟨rfl, k9⟩
          have HM9 := Lib.hid (HM.out.bl k9)
          have K9 := Lib.hid (HBL.out.trans k9); clear k9 CL2 HM HBL
          unfold faultV
          go_wp2_with fail
          exact ⟨⟨4, by omega, rfl, HM9.out.bl (Bl.new _ _), K9.out.alloc _⟩, by simp only [intOf]; omega⟩
        · have cl : Calls Try.prog 15 #[.pointer (some ⟨w.heap.size, 0, none⟩), .int .u64 ((A : Int) + 4), .int .i64 1] wr fun e w' => e = .returned (.tuple #[.int .u64 (V / 4294967296 % 256), faultV 0 0]) ∧ Bl wr w' := by
            have h9 := CL.out
            simpa using h9
          have hq := and255 (V / 4294967296) (by omega) (by omega)
          have CL2 := Lib.hid cl; clear cl CL
          go_wp2_with fail
          refine CL2.out.mono ?_
          rintro e w9 ⟨rfl, k9⟩
          have HM9 := Lib.hid (HM.out.bl k9)
          have K9 := Lib.hid (HBL.out.trans k9); clear k9 CL2 HM HBL
          unfold faultV
          go_wp2_with fail
          exact ⟨⟨5, by omega, rfl, HM9.out.bl (Bl.new _ _), K9.out.alloc _⟩, by simp only [intOf]; omega⟩
        · have cl : Calls Try.prog 15 #[.pointer (some ⟨w.heap.size, 0, none⟩), .int .u64 ((A : Int) + 5), .int .i64 1] wr fun e w' => e = .returned (.tuple #[.int .u64 (V / 1099511627776 % 256), faultV 0 0]) ∧ Bl wr w' := by
            have h9 := CL.out
            simpa using h9
          have hq := and255 (V / 1099511627776) (by omega) (by omega)
          have CL2 := Lib.hid cl; clear cl CL
          go_wp2_with fail
          refine CL2.out.mono ?_
          rintro e w9 ⟨rfl, k9⟩
          have HM9 := Lib.hid (HM.out.bl k9)
          have K9 := Lib.hid (HBL.out.trans k9); clear k9 CL2 HM HBL
          unfold faultV
          go_wp2_with fail
          exact ⟨⟨6, by omega, rfl, HM9.out.bl (Bl.new _ _), K9.out.alloc _⟩, by simp only [intOf]; omega⟩
        · have cl : Calls Try.prog 15 #[.pointer (some ⟨w.heap.size, 0, none⟩), .int .u64 ((A : Int) + 6), .int .i64 1] wr fun e w' => e = .returned (.tuple #[.int .u64 (V / 281474976710656 % 256), faultV 0 0]) ∧ Bl wr w' := by
            have h9 := CL.out
            simpa using h9
          have hq := and255 (V / 281474976710656) (by omega) (by omega)
          have CL2 := Lib.hid cl; clear cl CL
          go_wp2_with fail
          refine CL2.out.mono ?_
          rintro e w9 ⟨rfl, k9⟩
          have HM9 := Lib.hid (HM.out.bl k9)
          have K9 := Lib.hid (HBL.out.trans k9); clear k9 CL2 HM HBL
          unfold faultV
          go_wp2_with fail
          exact ⟨⟨7, by omega, rfl, HM9.out.bl (Bl.new _ _), K9.out.alloc _⟩, by simp only [intOf]; omega⟩
        · have cl : Calls Try.prog 15 #[.pointer (some ⟨w.heap.size, 0, none⟩), .int .u64 ((A : Int) + 7), .int .i64 1] wr fun e w' => e = .returned (.tuple #[.int .u64 (V / 72057594037927936 % 256), faultV 0 0]) ∧ Bl wr w' := by
            have h9 := CL.out
            simpa using h9
          have hq := and255 (V / 72057594037927936) (by omega) (by omega)
          have CL2 := Lib.hid cl; clear cl CL
          go_wp2_with fail
          refine CL2.out.mono ?_
          rintro e w9 ⟨rfl, k9⟩
          have HM9 := Lib.hid (HM.out.bl k9)
          have K9 := Lib.hid (HBL.out.trans k9); clear k9 CL2 HM HBL
          unfold faultV
          go_wp2_with fail
          exact ⟨⟨8, by omega, rfl, HM9.out.bl (Bl.new _ _), K9.out.alloc _⟩, by simp only [intOf]; omega⟩
      · obtain rfl : k = 8 := by omega
        go_wp2_with fail
        go_ret
        exact ⟨rfl, HBL.out⟩
  · go_wp2_with fail
    refine (manswers_any _).mono ?_
    rintro e w3 ⟨rfl, k3⟩
    have K3a := (K2.out.alloc (.cells #[.int .i64 1, .int .i64 2, .int .i64 4, .int .i64 8] 3)).trans k3
    have H3 := Lib.hid ((H2.out.bl (Bl.new w2 (.cells #[.int .i64 1, .int .i64 2, .int .i64 4, .int .i64 8] 3))).bl k3)
    have K3 := Lib.hid K3a; clear K3a k3 H2 K2 hn HN h2
    go_wp2_with fail
    have e1 : (4096 : Int) + a0 % 12000 = ((A - 8 : Nat) : Int) := by have := HA.out; omega
    rw [← HA.out, e1]
    have cs := store3 H3.out (A - 8) 8 18446744073709551615 (by omega) (by omega) (by decide) (by omega) (fun b hb => Nat.le_trans K3.out.size hb)
    unfold addr0 at cs
    refine cs.mono ?_
    rintro e w4 ⟨rfl, st4, h4, f4⟩
    have H4 := Lib.hid h4; clear h4 cs
    have K4 := Lib.hid (Fr.from_bl K3.out f4); clear f4 H3 K3
    have hfk := fun W => kind_run 0 0 W
    unfold faultV
    go_wp2_with fail
    have cs := store3 H4.out A 8 18446744073709551615 (by omega) (by omega) (by decide) (by omega) (fun b hb => Nat.le_trans K4.out.size hb)
    unfold addr0 at cs
    refine cs.mono ?_
    rintro e w5 ⟨rfl, st5, h5, f5⟩
    have H5 := Lib.hid h5; clear h5 cs
    have K5 := Lib.hid (Fr.from_bl K4.out f5); clear f5 H4 K4
    unfold faultV
    go_wp2_with fail
    have cs := store3 H5.out A 4 x (by omega) (by omega) (by decide) (by omega) (fun b hb => Nat.le_trans K5.out.size hb)
    unfold addr0 at cs
    refine cs.mono ?_
    rintro e w6 ⟨rfl, st6, h6, f6⟩
    have h6 : MS (from_ w.heap.size) w6 w.heap.size (0 + 8192 + 9 + 9 + 9) rg3 (bytesM (wiped (fun _ => 0) 4096 16384) A 4 x) st6 4 0 0 := h6
    have H6 := Lib.hid h6; clear h6 cs
    have K6 := Lib.hid (Fr.from_bl K5.out f6); clear f6 H5 K5
    have hw8 := whole8 (wiped (fun _ => 0) 4096 16384) A 4 x g10 g11 (by decide)
    have ha8 := ahead8 (wiped (fun _ => 0) 4096 16384) A 4 x (by omega)
    have hb8 := fun k hk => byte8 (wiped (fun _ => 0) 4096 16384) A 4 k x g10 g11 (by decide) hk
    generalize bytesM (wiped (fun _ => 0) 4096 16384) A 4 x = MM at *
    obtain ⟨b0, b1⟩ := wantN_bd 4 x (by decide)
    have y1 := and_m x 32 g10 g11 (by omega)
    have y2 := or_m (x % 4294967296) 32 (by omega) (by show x % 4294967296 < 4294967296; omega) (by omega)
    have y1 : bits .and .u64 x 4294967295 = x % 4294967296 := y1
    have y3 : bits .xor .u64 IntKind.u64.max 4294967295 = 18446744069414584320 := by decide
    have y2 : bits .or .u64 (x % 4294967296) 18446744069414584320 = wantN 4 x := y2
    generalize wantN 4 x = V at *
    have HB8 := Lib.hid hb8; clear hb8
    have HW8 := Lib.hid hw8; clear hw8
    have HA8 := Lib.hid ha8; clear ha8
    unfold faultV
    go_wp2_with fail
    have cl := load3 H6.out A 8 (by omega) (by omega) (by decide)
    rw [HW8.out] at cl
    unfold addr0 at cl
    refine cl.mono ?_
    rintro e w7 ⟨rfl, k7⟩
    have H7 := Lib.hid (H6.out.bl k7)
    have K7 := Lib.hid (K6.out.trans k7); clear k7 cl H6 K6
    unfold faultV
    go_wp2_with fail
    have h7 := H7.out.bl (Bl.new w7 (.cells #[.int .i64 0, .int .u64 0] 36))
    have cl := load3 h7 (A - 8) 8 (by omega) (by omega) (by decide)
    rw [HA8.out] at cl
    have e3 : (A : Int) - 8 = ((A - 8 : Nat) : Int) := by omega
    unfold addr0 at cl
    rw [e3]
    refine cl.mono ?_
    rintro e w8 ⟨rfl, k8⟩
    have H8 := Lib.hid (h7.bl k8)
    have K8 := Lib.hid ((K7.out.alloc (.cells #[.int .i64 0, .int .u64 0] 36)).trans k8); clear k8 cl H7 K7 h7
    unfold faultV
    go_wp2_with fail
    have H9 := Lib.hid (H8.out.bl (Bl.new w8 (.cells #[.int .i64 0, .int .u64 0] 36)))
    have K9 := Lib.hid (K8.out.alloc (.cells #[.int .i64 0, .int .u64 0] 36))
    clear H8 K8 y1 y2 y3
    generalize w8.alloc (.cells #[.int .i64 0, .int .u64 0] 36) = W9 at *
    have hlv := fun (V : Int) (h0 : 0 ≤ V) (h1 : V ≤ 18446744073709551615) => and255 V h0 h1
    have HLV := Lib.hid hlv; clear hlv
    go_loopw [16, 17, 18] (fun i _ _ wr => ∃ k : Nat, k ≤ 8 ∧ i = .int .i64 k ∧ MS (from_ w.heap.size) wr w.heap.size (0 + 8192 + 9 + 9 + 9) rg3 MM st6 4 0 0 ∧ Bl w wr) (fun i _ _ _ => 9 - (intOf i).toNat)
    case atStart => exact ⟨0, by omega, rfl, H9.out, K9.out⟩
    case round =>
      obtain ⟨k, hk, rfl, hm, hbl⟩ := hrel
      clear H9 K9
      have HM := Lib.hid hm; clear hm
      have HBL := Lib.hid hbl; clear hbl
      by_cases hlt : k < 8
      · have cl := load3 HM.out (A + k) 1 (by omega) (by omega) (by decide)
        rw [HB8.out k hlt] at cl
        have e5 : (A : Int) + (k : Int) = ((A + k : Nat) : Int) := by omega
        rw [← e5] at cl
        unfold addr0 at cl
        have CL := Lib.hid cl; clear cl e5
        have hkk : k = 0 ∨ k = 1 ∨ k = 2 ∨ k = 3 ∨ k = 4 ∨ k = 5 ∨ k = 6 ∨ k = 7 := by omega
        clear hk hlt
        rcases hkk with rfl | rfl | rfl | rfl | rfl | rfl | rfl | rfl
        · have cl : Calls Try.prog 15 #[.pointer (some ⟨w.heap.size, 0, none⟩), .int .u64 ((A : Int)), .int .i64 1] wr fun e w' => e = .returned (.tuple #[.int .u64 (V % 256), faultV 0 0]) ∧ Bl wr w' := by
            have h9 := CL.out
            simpa using h9
          have hq := and255 (V) (by omega) (by omega)
          have CL2 := Lib.hid cl; clear cl CL
          go_wp2_with fail
          refine CL2.out.mono ?_
          rintro e w9 ⟨rfl, k9⟩
          have HM9 := Lib.hid (HM.out.bl k9)
          have K9 := Lib.hid (HBL.out.trans k9); clear k9 CL2 HM HBL
          unfold faultV
          go_wp2_with fail
          exact ⟨⟨1, by omega, rfl, HM9.out.bl (Bl.new _ _), K9.out.alloc _⟩, by simp only [intOf]; omega⟩
        · have cl : Calls Try.prog 15 #[.pointer (some ⟨w.heap.size, 0, none⟩), .int .u64 ((A : Int) + 1), .int .i64 1] wr fun e w' => e = .returned (.tuple #[.int .u64 (V / 256 % 256), faultV 0 0]) ∧ Bl wr w' := by
            have h9 := CL.out
            simpa using h9
          have hq := and255 (V / 256) (by omega) (by omega)
          have CL2 := Lib.hid cl; clear cl CL
          go_wp2_with fail
          refine CL2.out.mono ?_
          rintro e w9 ⟨rfl, k9⟩
          have HM9 := Lib.hid (HM.out.bl k9)
          have K9 := Lib.hid (HBL.out.trans k9); clear k9 CL2 HM HBL
          unfold faultV
          go_wp2_with fail
          exact ⟨⟨2, by omega, rfl, HM9.out.bl (Bl.new _ _), K9.out.alloc _⟩, by simp only [intOf]; omega⟩
        · have cl : Calls Try.prog 15 #[.pointer (some ⟨w.heap.size, 0, none⟩), .int .u64 ((A : Int) + 2), .int .i64 1] wr fun e w' => e = .returned (.tuple #[.int .u64 (V / 65536 % 256), faultV 0 0]) ∧ Bl wr w' := by
            have h9 := CL.out
            simpa using h9
          have hq := and255 (V / 65536) (by omega) (by omega)
          have CL2 := Lib.hid cl; clear cl CL
          go_wp2_with fail
          refine CL2.out.mono ?_
          rintro e w9 ⟨rfl, k9⟩
          have HM9 := Lib.hid (HM.out.bl k9)
          have K9 := Lib.hid (HBL.out.trans k9); clear k9 CL2 HM HBL
          unfold faultV
          go_wp2_with fail
          exact ⟨⟨3, by omega, rfl, HM9.out.bl (Bl.new _ _), K9.out.alloc _⟩, by simp only [intOf]; omega⟩
        · have cl : Calls Try.prog 15 #[.pointer (some ⟨w.heap.size, 0, none⟩), .int .u64 ((A : Int) + 3), .int .i64 1] wr fun e w' => e = .returned (.tuple #[.int .u64 (V / 16777216 % 256), faultV 0 0]) ∧ Bl wr w' := by
            have h9 := CL.out
            simpa using h9
          have hq := and255 (V / 16777216) (by omega) (by omega)
          have CL2 := Lib.hid cl; clear cl CL
          go_wp2_with fail
          refine CL2.out.mono ?_
          rintro e w9 ⟨rfl, k9⟩
          have HM9 := Lib.hid (HM.out.bl k9)
          have K9 := Lib.hid (HBL.out.trans k9); clear k9 CL2 HM HBL
          unfold faultV
          go_wp2_with fail
          exact ⟨⟨4, by omega, rfl, HM9.out.bl (Bl.new _ _), K9.out.alloc _⟩, by simp only [intOf]; omega⟩
        · have cl : Calls Try.prog 15 #[.pointer (some ⟨w.heap.size, 0, none⟩), .int .u64 ((A : Int) + 4), .int .i64 1] wr fun e w' => e = .returned (.tuple #[.int .u64 (V / 4294967296 % 256), faultV 0 0]) ∧ Bl wr w' := by
            have h9 := CL.out
            simpa using h9
          have hq := and255 (V / 4294967296) (by omega) (by omega)
          have CL2 := Lib.hid cl; clear cl CL
          go_wp2_with fail
          refine CL2.out.mono ?_
          rintro e w9 ⟨rfl, k9⟩
          have HM9 := Lib.hid (HM.out.bl k9)
          have K9 := Lib.hid (HBL.out.trans k9); clear k9 CL2 HM HBL
          unfold faultV
          go_wp2_with fail
          exact ⟨⟨5, by omega, rfl, HM9.out.bl (Bl.new _ _), K9.out.alloc _⟩, by simp only [intOf]; omega⟩
        · have cl : Calls Try.prog 15 #[.pointer (some ⟨w.heap.size, 0, none⟩), .int .u64 ((A : Int) + 5), .int .i64 1] wr fun e w' => e = .returned (.tuple #[.int .u64 (V / 1099511627776 % 256), faultV 0 0]) ∧ Bl wr w' := by
            have h9 := CL.out
            simpa using h9
          have hq := and255 (V / 1099511627776) (by omega) (by omega)
          have CL2 := Lib.hid cl; clear cl CL
          go_wp2_with fail
          refine CL2.out.mono ?_
          rintro e w9 ⟨rfl, k9⟩
          have HM9 := Lib.hid (HM.out.bl k9)
          have K9 := Lib.hid (HBL.out.trans k9); clear k9 CL2 HM HBL
          unfold faultV
          go_wp2_with fail
          exact ⟨⟨6, by omega, rfl, HM9.out.bl (Bl.new _ _), K9.out.alloc _⟩, by simp only [intOf]; omega⟩
        · have cl : Calls Try.prog 15 #[.pointer (some ⟨w.heap.size, 0, none⟩), .int .u64 ((A : Int) + 6), .int .i64 1] wr fun e w' => e = .returned (.tuple #[.int .u64 (V / 281474976710656 % 256), faultV 0 0]) ∧ Bl wr w' := by
            have h9 := CL.out
            simpa using h9
          have hq := and255 (V / 281474976710656) (by omega) (by omega)
          have CL2 := Lib.hid cl; clear cl CL
          go_wp2_with fail
          refine CL2.out.mono ?_
          rintro e w9 ⟨rfl, k9⟩
          have HM9 := Lib.hid (HM.out.bl k9)
          have K9 := Lib.hid (HBL.out.trans k9); clear k9 CL2 HM HBL
          unfold faultV
          go_wp2_with fail
          exact ⟨⟨7, by omega, rfl, HM9.out.bl (Bl.new _ _), K9.out.alloc _⟩, by simp only [intOf]; omega⟩
        · have cl : Calls Try.prog 15 #[.pointer (some ⟨w.heap.size, 0, none⟩), .int .u64 ((A : Int) + 7), .int .i64 1] wr fun e w' => e = .returned (.tuple #[.int .u64 (V / 72057594037927936 % 256), faultV 0 0]) ∧ Bl wr w' := by
            have h9 := CL.out
            simpa using h9
          have hq := and255 (V / 72057594037927936) (by omega) (by omega)
          have CL2 := Lib.hid cl; clear cl CL
          go_wp2_with fail
          refine CL2.out.mono ?_
          rintro e w9 ⟨rfl, k9⟩
          have HM9 := Lib.hid (HM.out.bl k9)
          have K9 := Lib.hid (HBL.out.trans k9); clear k9 CL2 HM HBL
          unfold faultV
          go_wp2_with fail
          exact ⟨⟨8, by omega, rfl, HM9.out.bl (Bl.new _ _), K9.out.alloc _⟩, by simp only [intOf]; omega⟩
      · obtain rfl : k = 8 := by omega
        go_wp2_with fail
        go_ret
        exact ⟨rfl, HBL.out⟩
  · go_wp2_with fail
    refine (manswers_any _).mono ?_
    rintro e w3 ⟨rfl, k3⟩
    have K3a := (K2.out.alloc (.cells #[.int .i64 1, .int .i64 2, .int .i64 4, .int .i64 8] 3)).trans k3
    have H3 := Lib.hid ((H2.out.bl (Bl.new w2 (.cells #[.int .i64 1, .int .i64 2, .int .i64 4, .int .i64 8] 3))).bl k3)
    have K3 := Lib.hid K3a; clear K3a k3 H2 K2 hn HN h2
    go_wp2_with fail
    have e1 : (4096 : Int) + a0 % 12000 = ((A - 8 : Nat) : Int) := by have := HA.out; omega
    rw [← HA.out, e1]
    have cs := store3 H3.out (A - 8) 8 18446744073709551615 (by omega) (by omega) (by decide) (by omega) (fun b hb => Nat.le_trans K3.out.size hb)
    unfold addr0 at cs
    refine cs.mono ?_
    rintro e w4 ⟨rfl, st4, h4, f4⟩
    have H4 := Lib.hid h4; clear h4 cs
    have K4 := Lib.hid (Fr.from_bl K3.out f4); clear f4 H3 K3
    have hfk := fun W => kind_run 0 0 W
    unfold faultV
    go_wp2_with fail
    have cs := store3 H4.out A 8 18446744073709551615 (by omega) (by omega) (by decide) (by omega) (fun b hb => Nat.le_trans K4.out.size hb)
    unfold addr0 at cs
    refine cs.mono ?_
    rintro e w5 ⟨rfl, st5, h5, f5⟩
    have H5 := Lib.hid h5; clear h5 cs
    have K5 := Lib.hid (Fr.from_bl K4.out f5); clear f5 H4 K4
    unfold faultV
    go_wp2_with fail
    have cs := store3 H5.out A 8 x (by omega) (by omega) (by decide) (by omega) (fun b hb => Nat.le_trans K5.out.size hb)
    unfold addr0 at cs
    refine cs.mono ?_
    rintro e w6 ⟨rfl, st6, h6, f6⟩
    have h6 : MS (from_ w.heap.size) w6 w.heap.size (0 + 8192 + 9 + 9 + 9) rg3 (bytesM (wiped (fun _ => 0) 4096 16384) A 8 x) st6 4 0 0 := h6
    have H6 := Lib.hid h6; clear h6 cs
    have K6 := Lib.hid (Fr.from_bl K5.out f6); clear f6 H5 K5
    have hw8 := whole8 (wiped (fun _ => 0) 4096 16384) A 8 x g10 g11 (by decide)
    have ha8 := ahead8 (wiped (fun _ => 0) 4096 16384) A 8 x (by omega)
    have hb8 := fun k hk => byte8 (wiped (fun _ => 0) 4096 16384) A 8 k x g10 g11 (by decide) hk
    generalize bytesM (wiped (fun _ => 0) 4096 16384) A 8 x = MM at *
    obtain ⟨b0, b1⟩ := wantN_bd 8 x (by decide)
    have y2 : wantN 8 x = x := by unfold wantN; simp only [Nat.reduceMul, Int.reducePow]; omega
    simp only [y2] at hw8 hb8 b0 b1
    clear y2
    have HB8 := Lib.hid hb8; clear hb8
    have HW8 := Lib.hid hw8; clear hw8
    have HA8 := Lib.hid ha8; clear ha8
    unfold faultV
    go_wp2_with fail
    have cl := load3 H6.out A 8 (by omega) (by omega) (by decide)
    rw [HW8.out] at cl
    unfold addr0 at cl
    refine cl.mono ?_
    rintro e w7 ⟨rfl, k7⟩
    have H7 := Lib.hid (H6.out.bl k7)
    have K7 := Lib.hid (K6.out.trans k7); clear k7 cl H6 K6
    unfold faultV
    go_wp2_with fail
    have h7 := H7.out.bl (Bl.new w7 (.cells #[.int .i64 0, .int .u64 0] 36))
    have cl := load3 h7 (A - 8) 8 (by omega) (by omega) (by decide)
    rw [HA8.out] at cl
    have e3 : (A : Int) - 8 = ((A - 8 : Nat) : Int) := by omega
    unfold addr0 at cl
    rw [e3]
    refine cl.mono ?_
    rintro e w8 ⟨rfl, k8⟩
    have H8 := Lib.hid (h7.bl k8)
    have K8 := Lib.hid ((K7.out.alloc (.cells #[.int .i64 0, .int .u64 0] 36)).trans k8); clear k8 cl H7 K7 h7
    unfold faultV
    go_wp2_with fail
    have H9 := Lib.hid (H8.out.bl (Bl.new w8 (.cells #[.int .i64 0, .int .u64 0] 36)))
    have K9 := Lib.hid (K8.out.alloc (.cells #[.int .i64 0, .int .u64 0] 36))
    clear H8 K8
    generalize w8.alloc (.cells #[.int .i64 0, .int .u64 0] 36) = W9 at *
    have hlv := fun (V : Int) (h0 : 0 ≤ V) (h1 : V ≤ 18446744073709551615) => and255 V h0 h1
    have HLV := Lib.hid hlv; clear hlv
    go_loopw [16, 17, 18] (fun i _ _ wr => ∃ k : Nat, k ≤ 8 ∧ i = .int .i64 k ∧ MS (from_ w.heap.size) wr w.heap.size (0 + 8192 + 9 + 9 + 9) rg3 MM st6 4 0 0 ∧ Bl w wr) (fun i _ _ _ => 9 - (intOf i).toNat)
    case atStart => exact ⟨0, by omega, rfl, H9.out, K9.out⟩
    case round =>
      obtain ⟨k, hk, rfl, hm, hbl⟩ := hrel
      clear H9 K9
      have HM := Lib.hid hm; clear hm
      have HBL := Lib.hid hbl; clear hbl
      by_cases hlt : k < 8
      · have cl := load3 HM.out (A + k) 1 (by omega) (by omega) (by decide)
        rw [HB8.out k hlt] at cl
        have e5 : (A : Int) + (k : Int) = ((A + k : Nat) : Int) := by omega
        rw [← e5] at cl
        unfold addr0 at cl
        have CL := Lib.hid cl; clear cl e5
        have hkk : k = 0 ∨ k = 1 ∨ k = 2 ∨ k = 3 ∨ k = 4 ∨ k = 5 ∨ k = 6 ∨ k = 7 := by omega
        clear hk hlt
        rcases hkk with rfl | rfl | rfl | rfl | rfl | rfl | rfl | rfl
        · have cl : Calls Try.prog 15 #[.pointer (some ⟨w.heap.size, 0, none⟩), .int .u64 ((A : Int)), .int .i64 1] wr fun e w' => e = .returned (.tuple #[.int .u64 (x % 256), faultV 0 0]) ∧ Bl wr w' := by
            have h9 := CL.out
            simpa using h9
          have hq := and255 (x) (by omega) (by omega)
          have CL2 := Lib.hid cl; clear cl CL
          go_wp2_with fail
          refine CL2.out.mono ?_
          rintro e w9 ⟨rfl, k9⟩
          have HM9 := Lib.hid (HM.out.bl k9)
          have K9 := Lib.hid (HBL.out.trans k9); clear k9 CL2 HM HBL
          unfold faultV
          go_wp2_with fail
          exact ⟨⟨1, by omega, rfl, HM9.out.bl (Bl.new _ _), K9.out.alloc _⟩, by simp only [intOf]; omega⟩
        · have cl : Calls Try.prog 15 #[.pointer (some ⟨w.heap.size, 0, none⟩), .int .u64 ((A : Int) + 1), .int .i64 1] wr fun e w' => e = .returned (.tuple #[.int .u64 (x / 256 % 256), faultV 0 0]) ∧ Bl wr w' := by
            have h9 := CL.out
            simpa using h9
          have hq := and255 (x / 256) (by omega) (by omega)
          have CL2 := Lib.hid cl; clear cl CL
          go_wp2_with fail
          refine CL2.out.mono ?_
          rintro e w9 ⟨rfl, k9⟩
          have HM9 := Lib.hid (HM.out.bl k9)
          have K9 := Lib.hid (HBL.out.trans k9); clear k9 CL2 HM HBL
          unfold faultV
          go_wp2_with fail
          exact ⟨⟨2, by omega, rfl, HM9.out.bl (Bl.new _ _), K9.out.alloc _⟩, by simp only [intOf]; omega⟩
        · have cl : Calls Try.prog 15 #[.pointer (some ⟨w.heap.size, 0, none⟩), .int .u64 ((A : Int) + 2), .int .i64 1] wr fun e w' => e = .returned (.tuple #[.int .u64 (x / 65536 % 256), faultV 0 0]) ∧ Bl wr w' := by
            have h9 := CL.out
            simpa using h9
          have hq := and255 (x / 65536) (by omega) (by omega)
          have CL2 := Lib.hid cl; clear cl CL
          go_wp2_with fail
          refine CL2.out.mono ?_
          rintro e w9 ⟨rfl, k9⟩
          have HM9 := Lib.hid (HM.out.bl k9)
          have K9 := Lib.hid (HBL.out.trans k9); clear k9 CL2 HM HBL
          unfold faultV
          go_wp2_with fail
          exact ⟨⟨3, by omega, rfl, HM9.out.bl (Bl.new _ _), K9.out.alloc _⟩, by simp only [intOf]; omega⟩
        · have cl : Calls Try.prog 15 #[.pointer (some ⟨w.heap.size, 0, none⟩), .int .u64 ((A : Int) + 3), .int .i64 1] wr fun e w' => e = .returned (.tuple #[.int .u64 (x / 16777216 % 256), faultV 0 0]) ∧ Bl wr w' := by
            have h9 := CL.out
            simpa using h9
          have hq := and255 (x / 16777216) (by omega) (by omega)
          have CL2 := Lib.hid cl; clear cl CL
          go_wp2_with fail
          refine CL2.out.mono ?_
          rintro e w9 ⟨rfl, k9⟩
          have HM9 := Lib.hid (HM.out.bl k9)
          have K9 := Lib.hid (HBL.out.trans k9); clear k9 CL2 HM HBL
          unfold faultV
          go_wp2_with fail
          exact ⟨⟨4, by omega, rfl, HM9.out.bl (Bl.new _ _), K9.out.alloc _⟩, by simp only [intOf]; omega⟩
        · have cl : Calls Try.prog 15 #[.pointer (some ⟨w.heap.size, 0, none⟩), .int .u64 ((A : Int) + 4), .int .i64 1] wr fun e w' => e = .returned (.tuple #[.int .u64 (x / 4294967296 % 256), faultV 0 0]) ∧ Bl wr w' := by
            have h9 := CL.out
            simpa using h9
          have hq := and255 (x / 4294967296) (by omega) (by omega)
          have CL2 := Lib.hid cl; clear cl CL
          go_wp2_with fail
          refine CL2.out.mono ?_
          rintro e w9 ⟨rfl, k9⟩
          have HM9 := Lib.hid (HM.out.bl k9)
          have K9 := Lib.hid (HBL.out.trans k9); clear k9 CL2 HM HBL
          unfold faultV
          go_wp2_with fail
          exact ⟨⟨5, by omega, rfl, HM9.out.bl (Bl.new _ _), K9.out.alloc _⟩, by simp only [intOf]; omega⟩
        · have cl : Calls Try.prog 15 #[.pointer (some ⟨w.heap.size, 0, none⟩), .int .u64 ((A : Int) + 5), .int .i64 1] wr fun e w' => e = .returned (.tuple #[.int .u64 (x / 1099511627776 % 256), faultV 0 0]) ∧ Bl wr w' := by
            have h9 := CL.out
            simpa using h9
          have hq := and255 (x / 1099511627776) (by omega) (by omega)
          have CL2 := Lib.hid cl; clear cl CL
          go_wp2_with fail
          refine CL2.out.mono ?_
          rintro e w9 ⟨rfl, k9⟩
          have HM9 := Lib.hid (HM.out.bl k9)
          have K9 := Lib.hid (HBL.out.trans k9); clear k9 CL2 HM HBL
          unfold faultV
          go_wp2_with fail
          exact ⟨⟨6, by omega, rfl, HM9.out.bl (Bl.new _ _), K9.out.alloc _⟩, by simp only [intOf]; omega⟩
        · have cl : Calls Try.prog 15 #[.pointer (some ⟨w.heap.size, 0, none⟩), .int .u64 ((A : Int) + 6), .int .i64 1] wr fun e w' => e = .returned (.tuple #[.int .u64 (x / 281474976710656 % 256), faultV 0 0]) ∧ Bl wr w' := by
            have h9 := CL.out
            simpa using h9
          have hq := and255 (x / 281474976710656) (by omega) (by omega)
          have CL2 := Lib.hid cl; clear cl CL
          go_wp2_with fail
          refine CL2.out.mono ?_
          rintro e w9 ⟨rfl, k9⟩
          have HM9 := Lib.hid (HM.out.bl k9)
          have K9 := Lib.hid (HBL.out.trans k9); clear k9 CL2 HM HBL
          unfold faultV
          go_wp2_with fail
          exact ⟨⟨7, by omega, rfl, HM9.out.bl (Bl.new _ _), K9.out.alloc _⟩, by simp only [intOf]; omega⟩
        · have cl : Calls Try.prog 15 #[.pointer (some ⟨w.heap.size, 0, none⟩), .int .u64 ((A : Int) + 7), .int .i64 1] wr fun e w' => e = .returned (.tuple #[.int .u64 (x / 72057594037927936 % 256), faultV 0 0]) ∧ Bl wr w' := by
            have h9 := CL.out
            simpa using h9
          have hq := and255 (x / 72057594037927936) (by omega) (by omega)
          have CL2 := Lib.hid cl; clear cl CL
          go_wp2_with fail
          refine CL2.out.mono ?_
          rintro e w9 ⟨rfl, k9⟩
          have HM9 := Lib.hid (HM.out.bl k9)
          have K9 := Lib.hid (HBL.out.trans k9); clear k9 CL2 HM HBL
          unfold faultV
          go_wp2_with fail
          exact ⟨⟨8, by omega, rfl, HM9.out.bl (Bl.new _ _), K9.out.alloc _⟩, by simp only [intOf]; omega⟩
      · obtain rfl : k = 8 := by omega
        go_wp2_with fail
        go_ret
        exact ⟨rfl, HBL.out⟩
end Go.Proofs.Yteeheojjmdlmgaa
