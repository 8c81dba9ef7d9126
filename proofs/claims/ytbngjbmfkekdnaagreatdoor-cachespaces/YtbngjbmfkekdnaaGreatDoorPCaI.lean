/-
  The walk of CacheMany.
-/
import Derived.Test.YtbngjbmfkekdnaaGreatDoorQ20
import Derived.Test.YtbngjbmfkekdnaaGreatDoorPInts
set_option linter.unusedVariables false
set_option linter.unusedSimpArgs false
namespace Go.Proofs.YtbngjbmfkekdnaaGreatDoor
open Go.RowKit
set_option maxRecDepth 100000
theorem half_bd (t : Int) (h0 : 0 ≤ t) (h1 : t ≤ 255) : 0 ≤ bits .or .u8 (bits .andNot .u8 t 3) 1 ∧ bits .or .u8 (bits .andNot .u8 t 3) 1 ≤ 255 := by
  have h : ∀ n : Fin 256, 0 ≤ bits .or .u8 (bits .andNot .u8 (n.val : Int) 3) 1 ∧ bits .or .u8 (bits .andNot .u8 (n.val : Int) 3) 1 ≤ 255 := by decide +kernel
  have := h ⟨t.toNat, by omega⟩
  rw [show ((⟨t.toNat, by omega⟩ : Fin 256).val : Int) = t by simp; omega] at this
  exact this
theorem bl_new {a b c : World} {S : Nat → Prop} (k : Bl a b) (f : Fr S b c) (h : ∀ x, S x → a.heap.size ≤ x) : Bl a c :=
  ⟨f.os.trans k.os, f.tape.trans k.tape, f.output.trans k.output, Nat.le_trans k.size f.size, fun x hx => (f.block x (Nat.lt_of_lt_of_le hx k.size) fun e => by have := h x e; omega).trans (k.block x hx)⟩
/-- Two boxes, made one behind the other. -/
theorem boxes {w : World} (a b : Array Value) (s t : TypeId) : ((w.alloc (.cells a s)).alloc (.cells b t)).heap[w.heap.size]? = some (.cells a s (0, 0)) ∧ ((w.alloc (.cells a s)).alloc (.cells b t)).heap[w.heap.size + 1]? = some (.cells b t (0, 0)) ∧ Bl w ((w.alloc (.cells a s)).alloc (.cells b t)) :=
  ⟨(Bl.new _ _).at_ (heap_alloc_new w _), new_next w _ _, (Bl.new _ _).alloc _⟩
set_option maxHeartbeats 4000000 in
theorem many_walk (n : Int) (hnI0 : 0 ≤ n) (hnI : n < 65536) (turn : Int) (ht0 : 0 ≤ turn) (ht1 : turn ≤ 255) (w : World) (hT : Td.TabsS w) :
    Calls Tryz.prog 5 #[.int .u16 n, .int .u8 turn] w fun e w' => e = .returned (.bool true) ∧ Bl w w' := by
  have hnw := mnew_any (fun b => w.heap.size ≤ b) 10 w (Nat.le_refl _) (by omega) (by omega)
  have h21 : 20 < w.heap.size := hT.lt (by decide)
  have HT := Lib.hid hT; clear hT
  have HV := Lib.hid (half_bd turn ht0 ht1)
  obtain ⟨v, hv⟩ : ∃ v, v = bits .or .u8 (bits .andNot .u8 turn 3) 1 := ⟨_, rfl⟩
  rw [← hv] at HV
  go_enter Tryz.func5, Tryz.ntmps5
  go_wp2_with fail
  with_reducible refine hnw.mono ?_
  rintro e w1 ⟨rfl, h1, k1, s1⟩
  have CAN := Lib.hid (canswers_any w1 (HT.out.bl k1))
  have K1 := Lib.hid k1; clear k1 hnw
  have H1 := Lib.hid h1; clear h1
  unfold addr0
  go_wp2_with fail
  with_reducible refine CAN.out.mono ?_
  rintro e w2 ⟨rfl, k2⟩
  have cm := mmap_new (H1.out.bl k2) 4096 20480 16384 5 (by omega) (by omega) (by omega) (by omega) (by omega) ⟨by omega, by omega, by omega, by omega⟩ (by omega) (by omega) (fun b hb => by have h := (K1.out.trans k2).size; show w.heap.size ≤ b; omega)
  rw [show ((4096 : Nat) : Int) = 4096 from rfl] at cm
  have CM := Lib.hid cm; clear cm
  have K2 := Lib.hid (K1.out.trans k2); clear k2 H1 CAN
  unfold addr0 at *
  obtain ⟨sb, hsb⟩ : ∃ sb, sb = w.heap.size := ⟨_, rfl⟩
  rw [← hsb] at CM
  have HSB := Lib.hid hsb; clear hsb
  go_wp2_with fail
  rw [← HSB.out]
  with_reducible refine CM.out.mono ?_
  rintro e w3 ⟨rfl, st3, h3, r3, f3⟩
  have f3' : Fr (from_ w.heap.size) w2 w3 := by rw [← HSB.out]; exact f3
  have K3 := Lib.hid (Fr.from_bl K2.out f3'); clear f3 f3' r3 CM K1
  obtain ⟨L, hL⟩ : ∃ L, [(⟨4096, ((20480 : Nat) : Int), 5⟩ : Rg)] = L := ⟨_, rfl⟩
  rw [hL] at h3
  clear hL
  have hs3 : w.heap.size ≤ w3.heap.size := K3.out.size
  go_upto_region 6 with (fail)
  rw [← hv]
  clear hv
  have kb := Bl.new w3 (.cells #[.int .u8 v, .int .u8 69] 5)
  have h4 := h3.gap kb w3.heap.size (w3.heap.size + 1) (Nat.le_refl _)
  have hrd : Rd (w3.alloc (.cells #[.int .u8 v, .int .u8 69] 5)) (some ⟨w3.heap.size, 0, none⟩) [v, 69] := rd_row (heap_alloc_new w3 _)
  have K4 := Lib.hid (K3.out.trans kb); clear kb h3
  have hs4 : (w3.alloc (.cells #[.int .u8 v, .int .u8 69] 5)).heap.size = w3.heap.size + 1 := by simp
  generalize w3.alloc (.cells #[.int .u8 v, .int .u8 69] 5) = w4 at *
  obtain ⟨T, hTe⟩ : ∃ T, gap (fun b => sb ≤ b) w3.heap.size (w3.heap.size + 1) = T := ⟨_, rfl⟩
  rw [hTe] at h4
  have HTE := Lib.hid hTe; clear hTe
  have HNEW : Hid (∀ b, w4.heap.size ≤ b → T b) := Lib.hid (fun b hb => by rw [← HTE.out]; exact ⟨by have := HSB.out; show sb ≤ b; omega, fun e => by omega⟩)
  have HLOW : Hid (∀ b, T b → w.heap.size ≤ b) := Lib.hid (fun b hb => by rw [← HTE.out] at hb; have h : sb ≤ b := hb.1; have := HSB.out; omega)
  have HNO : Hid (¬ T w3.heap.size) := Lib.hid (by rw [← HTE.out]; exact fun e => e.2 ⟨Nat.le_refl _, Nat.lt_succ_self _⟩)
  have HRD := Lib.hid hrd; clear hrd
  have H4 := Lib.hid h4; clear h4
  go_wp2_with fail
  go_loopw [7] (fun i wr => ∃ k : Nat, k ≤ 8192 ∧ i = .int .i64 k ∧ (∃ m M st, m ≤ 8192 + 12 * k ∧ MS T wr sb m L M st 10 0 0) ∧ Fr T w4 wr) (fun i _ => 8192 - (intOf i).toNat)
  case atStart => exact ⟨0, by omega, rfl, ⟨_, _, _, by omega, H4.out⟩, Fr.refl _ _⟩
  case round =>
    obtain ⟨k, hk, rfl, ⟨m, M, st, hm, h5⟩, f5⟩ := hrel
    have HM := Lib.hid hm; clear hm
    have H5 := Lib.hid h5; clear h5 H4
    have F5 := Lib.hid f5; clear f5
    by_cases hlt : k < 8192
    · have hltI : (k : Int) < 8192 := by omega
      have cp := mput_rel H5.out (4096 + 2 * k) (some ⟨w3.heap.size, 0, none⟩) 2 2 [v, 69] (HRD.out.fr F5.out (fun _ ad e h => by injection e with e; subst e; exact HNO.out h)) rfl (by omega) (two_bytes HV.out (by omega)) (fun _ ad e hTa => by injection e with e; subst e; exact HNO.out hTa) (by omega) (by omega) (by have := HM.out; omega) (fun b hb => HNEW.out b (by have := F5.out.size; omega))
      rw [show ((4096 + 2 * k : Nat) : Int) = 4096 + 2 * (k : Int) by omega] at cp
      have CP := Lib.hid cp; clear cp
      unfold addr0 at CP
      go_wp2_with fail
      with_reducible refine CP.out.mono ?_
      rintro e w6 ⟨rfl, M6, st6, h6, _, _, f6⟩
      have H6 := Lib.hid h6; clear h6
      have F6 := Lib.hid (F5.out.trans f6); clear f6
      go_wp2_with fail
      go_roundw
      case rel => exact ⟨k + 1, by omega, by go_num, ⟨_, M6, st6, by have := HM.out; omega, H6.out⟩, F6.out⟩
      case measure => simp [intOf]; omega
    · obtain rfl : k = 8192 := by omega
      clear hlt hk
      obtain ⟨V, hVV⟩ : ∃ V, V = wr := ⟨_, rfl⟩
      subst hVV
      have K5 := Lib.hid (bl_new K4.out F5.out HLOW.out)
      go_wp2_with fail
      with_reducible refine (cnew_on V).mono ?_
      rintro e w6 ⟨rfl, hc, k6, s6⟩
      have h6 := H5.out.gap k6 V.heap.size w6.heap.size (Nat.le_refl _)
      obtain ⟨B, hB⟩ : ∃ B, B = V.heap.size := ⟨_, rfl⟩
      obtain ⟨cb, hcb⟩ : ∃ cb, cb = V.heap.size + 1 := ⟨_, rfl⟩
      rw [← hcb, ← hB] at hc
      have hnB : ¬ gap T V.heap.size w6.heap.size B := fun e => e.2 ⟨by omega, by omega⟩
      obtain ⟨T2, hT2⟩ : ∃ T2, gap T V.heap.size w6.heap.size = T2 := ⟨_, rfl⟩
      rw [hT2] at h6 hnB
      clear hT2
      have K6 := Lib.hid (K5.out.trans k6)
      have HTT := Lib.hid (HT.out.bl K6.out)
      have HC := Lib.hid hc
      have HNB := Lib.hid hnB; clear hnB
      have HM6 := Lib.hid h6; clear h6
      have hB0 : w.heap.size ≤ B := by have := K5.out.size; omega
      have HBZ := Lib.hid hB0
      obtain ⟨R, hR⟩ : ∃ R, R = oneR sb L M st := ⟨_, rfl⟩
      have HRE := Lib.hid hR; clear hR
      have hB21 : 21 ≤ B := by omega
      clear hc k6 s6 F5 H5 HRD HNEW HNO HM HV
      rw [← hcb]
      have HCB := Lib.hid hcb; clear hcb
      have HBE := Lib.hid hB; clear hB hB0
      obtain ⟨N, hN⟩ : ∃ N : Nat, N = (n % 9000).toNat := ⟨_, rfl⟩
      have hNI : n % 9000 = (N : Int) := by omega
      have hN9 : N < 9000 := by omega
      have hN9I : (N : Int) < 9000 := by omega
      have HN9 := Lib.hid hN9; clear hN9 hN
      have cfe : ∀ W g q, CA W cb B g q → q ≤ 4096 → Inv R g → Fr (only B) w6 W → ∀ pc : Nat, pc < 2 ^ 64 → Calls Tryz.prog 23 #[addr0 cb, addr0 sb, .int .u64 (pc : Int)] W (OnPost R L M cb B pc W) := fun W g q h1 h2 h3 h4 pc hpc => by
        have hm := HM6.out.kept h4 (fun b hb e => HNB.out (by rw [← show b = B from e]; exact hb))
        rw [HRE.out] at h3 ⊢
        exact fetch_on h1 h2 h3 (oneR_sole _ _ _ _) (oneR_blocks hm) HNB.out hB21 hm (HTT.out.fr h4 (fun g hg e => by have e' : g = B := e; omega)) pc hpc
      have cfn : ∀ W, Fr (only B) w6 W → ∀ pc : Nat, pc < 2 ^ 64 → Calls Tryz.prog 23 #[.pointer none, addr0 sb, .int .u64 (pc : Int)] W (OffPost L M pc W) := fun W h4 pc hpc =>
        fetch_nil (HM6.out.kept h4 (fun b hb e => HNB.out (by rw [← show b = B from e]; exact hb))) (HTT.out.fr h4 (fun g hg e => by have e' : g = B := e; omega)) pc hpc
      have CFE := Lib.hid cfe; clear cfe
      have CFN := Lib.hid cfn; clear cfn
      unfold addr0 at *
      go_wp2_with fail
      go_loopw [10, 11, 12, 13, 14, 15] (fun i _ _ _ _ _ wr => ∃ k : Nat, k ≤ N ∧ i = .int .i64 k ∧ (∃ g q, CA wr cb B g q ∧ q ≤ 4096 ∧ Inv R g) ∧ Fr (only B) w6 wr) (fun i _ _ _ _ _ _ => N - (intOf i).toNat)
      case atStart => exact ⟨0, by omega, rfl, ⟨_, _, HC.out, by omega, Inv.none_ _⟩, Fr.refl _ _⟩
      case round =>
        obtain ⟨k, hk, rfl, ⟨g, q, hc, hq, hi⟩, f7⟩ := hrel
        clear HC
        by_cases hlt : k < N
        · have hltI : (k : Int) < (N : Int) := by omega
          have cf := CFE.out wr g q hc hq hi f7 (4096 + 2 * k) (by have := HN9.out; omega)
          rw [show ((4096 + 2 * k : Nat) : Int) = 4096 + 2 * (k : Int) by omega] at cf
          have CF := Lib.hid cf; clear cf hc hi
          have F7 := Lib.hid f7; clear f7
          go_wp2_with fail
          with_reducible refine CF.out.mono ?_
          rintro e w8 ⟨⟨⟨a0, a1, a2, a3, a4, a5, a6⟩, sk, fk, fa⟩, hA, rfl, ⟨g8, q8, hc8, hq8, hi8⟩, f8⟩
          unfold Ans.v stopC Td.Ins.cells
          have HA := Lib.hid hA; clear hA
          obtain ⟨b1, b2, b3⟩ := boxes (w := w8) (Td.I7 a0 a1 a2 a3 a4 a5 a6) #[.int .i64 sk, .int .i64 fk, .int .u64 fa] 47 49
          have HC9 := Lib.hid (hc8.bl b3)
          have HI8 := Lib.hid hi8
          have F9 := Lib.hid ((F7.out.trans f8).trans (Fr.of_bl b3))
          clear CF hc8 hi8 f8 F7 b3
          go_upto_region 17 with (fail)
          obtain ⟨g8s, hg8s⟩ : ∃ z, z = w8.heap.size := ⟨_, rfl⟩
          rw [← hg8s] at b1 b2 ⊢
          clear hg8s
          generalize (w8.alloc (.cells (Td.I7 a0 a1 a2 a3 a4 a5 a6) 47)).alloc (.cells #[.int .i64 sk, .int .i64 fk, .int .u64 fa] 49) = w9 at *
          have cn := CFN.out w9 F9.out (4096 + 2 * k) (by have := HN9.out; omega)
          rw [show ((4096 + 2 * k : Nat) : Int) = 4096 + 2 * (k : Int) by omega] at cn
          have CN := Lib.hid cn; clear cn
          have HB1 := Lib.hid b1; clear b1
          have HB2 := Lib.hid b2; clear b2
          have hqI : (q8 : Int) ≤ 4096 := by omega
          by_cases h97 : (k : Int) % 97 = 0
          · have t97 : ((k : Int) % 97 == 0) = true := by simp [h97]
            clear h97
            go_wp2_with fail
            with_reducible refine CN.out.mono ?_
            rintro e w10 ⟨A, hA, rfl, k10⟩
            obtain rfl := hA.one HA.out
            unfold Ans.v stopC Td.Ins.cells
            obtain ⟨c1, c2, c3⟩ := boxes (w := w10) (Td.I7 a0 a1 a2 a3 a4 a5 a6) #[.int .i64 sk, .int .i64 fk, .int .u64 fa] 47 49
            have D1 := Lib.hid ((k10.trans c3).at_ HB1.out)
            have D2 := Lib.hid ((k10.trans c3).at_ HB2.out)
            have HC10 := Lib.hid (HC9.out.bl (k10.trans c3))
            have F10 := Lib.hid (F9.out.trans (Fr.of_bl (k10.trans c3)))
            clear CN hA k10 c3
            go_upto_region 19 with (fail)
            obtain ⟨g9s, hg9s⟩ : ∃ z, z = w10.heap.size := ⟨_, rfl⟩
            rw [← hg9s] at c1 c2 ⊢
            clear hg9s
            generalize (w10.alloc (.cells (Td.I7 a0 a1 a2 a3 a4 a5 a6) 47)).alloc (.cells #[.int .i64 sk, .int .i64 fk, .int .u64 fa] 49) = w11 at *
            obtain ⟨d0, d1, d2, d3, d4, d5, d6⟩ := seven_at D1.out
            obtain ⟨e0, e1, e2⟩ := three_at D2.out
            obtain ⟨u0, u1, u2, u3, u4, u5, u6⟩ := seven_at c1
            obtain ⟨v0, v1, v2⟩ := three_at c2
            clear c1 c2
            have cl := clen_on HC10.out
            have CL := Lib.hid cl; clear cl
            unfold addr0 at CL
            go_wp2_with fail
            with_reducible refine CL.out.mono ?_
            rintro e w12 ⟨rfl, rfl⟩
            clear d0 d1 d2 d3 d4 d5 d6 e0 e1 e2 u0 u1 u2 u3 u4 u5 u6 v0 v1 v2
            go_wp2_with fail
            go_roundw
            case rel => exact ⟨k + 1, by omega, by go_num, ⟨_, _, HC10.out, hq8, HI8.out⟩, F10.out⟩
            case measure => simp [intOf]; omega
          · have t97 : ((k : Int) % 97 == 0) = false := by simp [h97]
            clear h97 CN
            have cl := clen_on HC9.out
            have CL := Lib.hid cl; clear cl
            unfold addr0 at CL
            go_wp2_with fail
            with_reducible refine CL.out.mono ?_
            rintro e w12 ⟨rfl, rfl⟩
            go_wp2_with fail
            go_roundw
            case rel => exact ⟨k + 1, by omega, by go_num, ⟨_, _, HC9.out, hq8, HI8.out⟩, F9.out⟩
            case measure => simp [intOf]; omega
        · obtain rfl : k = N := by omega
          have HF := Lib.hid (Fr.only_new K6.out f7 HBZ.out)
          clear f7 hc hi CFE CFN
          go_wp2_with fail
          go_ret
          exact ⟨rfl, HF.out⟩
end Go.Proofs.YtbngjbmfkekdnaaGreatDoor
