/-
  The walk of CacheSpaces.
-/
import Derived.Test.YtbngjbmfkekdnaaGreatDoorPCaJ
set_option linter.unusedVariables false
set_option linter.unusedSimpArgs false
namespace Go.Proofs.YtbngjbmfkekdnaaGreatDoor
open Go.RowKit
set_option maxRecDepth 100000
section
variable {K : Nat → Prop} {w w' : World} {s t n n2 : Nat} {L L2 : List Rg} {M st M2 st2 : Nat → Int} {mo mo2 : Int}
theorem Duo.less (h : Duo K w s n L M st mo t n2 L2 M2 st2 mo2) {J : Nat → Prop} (hJ : ∀ b, J b → K b) : Duo J w s n L M st mo t n2 L2 M2 st2 mo2 := by
  obtain ⟨T1, T2, h1, h2, h3, h4, h5⟩ := h.ex
  exact ⟨T1, T2, h1, h2, h3, fun b hb => h4 b (hJ b hb), h5⟩
theorem duo_start {w w1 w2 : World} {m m2 : Int} (h1 : MS (fun b => w.heap.size ≤ b) w1 w.heap.size 0 [] (fun _ => 0) (fun _ => 0) m 0 0) (s1 : w1.heap.size = w.heap.size + 1) (k2 : Bl w1 w2) (h2 : MS (fun b => w1.heap.size ≤ b) w2 w1.heap.size 0 [] (fun _ => 0) (fun _ => 0) m2 0 0) (s2 : w2.heap.size = w1.heap.size + 1) :
    Duo (fun b => b < w.heap.size) w2 w.heap.size 0 [] (fun _ => 0) (fun _ => 0) m (w.heap.size + 1) 0 [] (fun _ => 0) (fun _ => 0) m2 := by
  rw [s1] at h2 s2
  refine ⟨fun b => w.heap.size ≤ b ∧ (b = w.heap.size ∨ w2.heap.size ≤ b), fun b => w.heap.size + 1 ≤ b, ?_, h2, fun b hb e1 e2 => ?_, fun b hb => ⟨fun e => by omega, fun e => by omega⟩, fun b hb => ⟨⟨by omega, .inr hb⟩, by omega⟩⟩
  · exact (h1.among (U := fun b => w.heap.size ≤ b ∧ (b = w.heap.size ∨ w2.heap.size ≤ b)) (fun b hb e => ⟨e, .inl (by omega)⟩)).bl k2
  · omega
theorem duo_map (h : Duo K w s n [] M st mo t n2 L2 M2 st2 mo2) (hmo : 1 ≤ mo) (hn : n < 80000000) :
    Calls Tryz.prog 9 #[addr0 s, .int .u64 4096, .int .u64 4096, .int .i64 7, .bool true] w fun e w' => e = .returned (.tuple #[.int .u64 4096, .int .i64 0]) ∧ (∃ M' st', Duo K w' s (n + 8192) [⟨4096, 8192, 7⟩] M' st' mo t n2 L2 M2 st2 mo2) ∧ Fr (fun b => ¬ K b) w w' := by
  obtain ⟨T1, hm, hT, _, hcl⟩ := h.call1
  refine (map7 hm hmo hn hT).mono ?_
  rintro e w' ⟨rfl, ⟨M', st', g1⟩, g2⟩
  obtain ⟨q1, q2⟩ := hcl _ _ _ _ _ g1 g2
  exact ⟨rfl, ⟨M', st', q1⟩, q2⟩
theorem duo_put (h : Duo K w s n L M st mo t n2 L2 M2 st2 mo2) (a : Nat) {A : Option Addr} {l c : Nat} {xs : List Int} (hb : BytesIn w A l c xs) (hK : 0 < l → ∀ ad, A = some ad → K ad.block) (ha : a ≤ 100000000) (hl : l ≤ 100000) (hn : n < 10000000) :
    Calls Tryz.prog 11 #[addr0 s, .int .u64 (a : Int), .slice A l c] w fun e w' => e = .returned (.tuple #[]) ∧ (∃ M' st', Duo K w' s (n + 6 * l) L M' st' mo t n2 L2 M2 st2 mo2) ∧ Fr (fun b => ¬ K b) w w' := by
  obtain ⟨T1, hm, hT, hKT, hcl⟩ := h.call1
  refine (mput_rel hm a A l c xs hb.rd hb.len hb.cap hb.bd (fun h0 ad e => hKT _ (hK h0 ad e)) (by omega) hl hn hT).mono ?_
  rintro e w' ⟨rfl, M', st', g1, _, _, g2⟩
  obtain ⟨q1, q2⟩ := hcl _ _ _ _ _ g1 g2
  exact ⟨rfl, ⟨M', st', q1⟩, q2⟩
end
set_option maxHeartbeats 8000000 in
theorem spaces_walk {A1 A2 A3 : Option Addr} {l1 l2 l3 c1 c2 c3 : Nat} {xs ys zs : List Int} (w : World) (hx : BytesIn w A1 l1 c1 xs) (hy : BytesIn w A2 l2 c2 ys) (hz : BytesIn w A3 l3 c3 zs) (hT : Td.TabsS w) :
    Calls Tryz.prog 4 #[.slice A1 l1 c1, .slice A2 l2 c2, .slice A3 l3 c3] w fun e w' => e = .returned (.bool true) ∧ Bl w w' := by
  have hnw := mnew_any (fun b => w.heap.size ≤ b) 2 w (Nat.le_refl _) (by omega) (by omega)
  have hnx := fun w1 : World => mnew_any (fun b => w1.heap.size ≤ b) 2 w1 (Nat.le_refl _) (by omega) (by omega)
  have h21 : 20 < w.heap.size := hT.lt (by decide)
  have HT := Lib.hid hT; clear hT
  have HX := Lib.hid hx
  have HY := Lib.hid hy
  have HZ := Lib.hid hz
  have hl1 : (l1 : Int) ≤ 9223372036854775807 := by have := hx.le; omega
  have hl2 : (l2 : Int) ≤ 9223372036854775807 := by have := hy.le; omega
  have hl3 : (l3 : Int) ≤ 9223372036854775807 := by have := hz.le; omega
  clear hx hy hz
  go_enter Tryz.func4, Tryz.ntmps4
  go_wp2_with fail
  with_reducible refine hnw.mono ?_
  rintro e w1 ⟨rfl, h1, k1, s1⟩
  go_wp2_with fail
  with_reducible refine (hnx w1).mono ?_
  rintro e w2 ⟨rfl, h2, k2, s2⟩
  have hd := duo_start h1 s1 k2 h2 s2
  have K2 := Lib.hid (k1.trans k2)
  obtain ⟨sb, hsb⟩ : ∃ sb, sb = w.heap.size := ⟨_, rfl⟩
  obtain ⟨tb, htb⟩ : ∃ tb, tb = w.heap.size + 1 := ⟨_, rfl⟩
  obtain ⟨K, hKe⟩ : ∃ K : Nat → Prop, K = fun b => b < w.heap.size := ⟨_, rfl⟩
  rw [← hKe, ← htb, ← hsb] at hd
  have HKE : Hid (∀ b, b < w.heap.size → K b) := Lib.hid (fun b hb => by rw [hKe]; exact hb)
  rw [s1]
  unfold addr0
  rw [← htb, ← hsb]
  have HST : Hid (sb ≠ tb) := Lib.hid (by omega)
  have CAN := Lib.hid (fun W (k : Bl w W) => canswers_any W (HT.out.bl k))
  have HD := Lib.hid hd
  clear hd h1 h2 k1 k2 s1 s2 hnw hnx hsb htb hKe
  by_cases hbig : 4000 < l1 ∨ 4000 < l2
  · have hq : ((4000 : Int) < (l1 : Int)) ∨ ((l1 : Int) ≤ 4000 ∧ (4000 : Int) < (l2 : Int)) := by omega
    clear hbig HD
    rcases hq with q1 | ⟨q1, q2⟩
    all_goals
      go_wp2_with fail
      with_reducible refine (CAN.out _ K2.out).mono ?_
      rintro e w3 ⟨rfl, k3⟩
      have K3 := Lib.hid (K2.out.trans k3)
      clear k3
      go_wp2_with fail
      with_reducible refine (CAN.out _ K3.out).mono ?_
      rintro e w4 ⟨rfl, k4⟩
      have K4 := Lib.hid (K3.out.trans k4)
      clear k4
      go_wp2_with fail
      go_ret
      exact ⟨rfl, K4.out⟩
  · have q1 : (l1 : Int) ≤ 4000 := by omega
    have q2 : (l2 : Int) ≤ 4000 := by omega
    clear hbig
    go_wp2_with fail
    with_reducible refine (CAN.out _ K2.out).mono ?_
    rintro e w3 ⟨rfl, k3⟩
    have K3 := Lib.hid (K2.out.trans k3)
    have hd3 := (HD.out.bl k3).less (J := K) fun b hb => .inl hb
    have cm := duo_map hd3 (by omega) (by omega)
    have CM := Lib.hid cm
    clear cm hd3 k3 HD CAN
    unfold addr0 at CM
    go_wp2_with fail
    with_reducible refine CM.out.mono ?_
    rintro e w4 ⟨rfl, ⟨M1, st1, hd4⟩, f4⟩
    have K4 := Lib.hid (duo_new K3.out f4 HKE.out)
    have cm := duo_map hd4.swap (by omega) (by omega)
    have CM := Lib.hid cm
    clear cm hd4 f4
    unfold addr0 at CM
    go_wp2_with fail
    with_reducible refine CM.out.mono ?_
    rintro e w5 ⟨rfl, ⟨M2, st2, hd5⟩, f5⟩
    have K5 := Lib.hid (duo_new K4.out f5 HKE.out)
    have cp := duo_put hd5.swap 4096 (HX.out.bl K5.out) (fun h0 ad e => HKE.out _ (HX.out.lt h0 ad e)) (by omega) (by omega) (by omega)
    rw [show ((4096 : Nat) : Int) = 4096 from rfl] at cp
    have CP := Lib.hid cp
    clear cp hd5 f5 CM
    unfold addr0 at CP
    go_wp2_with fail
    with_reducible refine CP.out.mono ?_
    rintro e w6 ⟨rfl, ⟨M, st, hd6⟩, f6⟩
    have K6 := Lib.hid (duo_new K5.out f6 HKE.out)
    have cp := duo_put hd6.swap 4096 (HY.out.bl K6.out) (fun h0 ad e => HKE.out _ (HY.out.lt h0 ad e)) (by omega) (by omega) (by omega)
    rw [show ((4096 : Nat) : Int) = 4096 from rfl] at cp
    have CP := Lib.hid cp
    clear cp hd6 f6
    unfold addr0 at CP
    go_wp2_with fail
    with_reducible refine CP.out.mono ?_
    rintro e w7 ⟨rfl, ⟨M2', st2', hd7⟩, f7⟩
    have K7 := Lib.hid (duo_new K6.out f7 HKE.out)
    have HD7 := Lib.hid hd7.swap
    clear hd7 f7 CP
    obtain ⟨L, hL⟩ : ∃ L, [(⟨4096, 8192, 7⟩ : Rg)] = L := ⟨_, rfl⟩
    rw [hL] at HD7
    clear hL
    go_wp2_with fail
    with_reducible refine (cnew_on w7).mono ?_
    rintro e w8 ⟨rfl, hc, k8, s8⟩
    have hd8 := HD7.out.bl k8
    obtain ⟨T1, T2, hm1, hm2, _, hKT, _⟩ := hd8.ex
    obtain ⟨B, hB⟩ : ∃ B, B = w7.heap.size := ⟨_, rfl⟩
    obtain ⟨cb, hcb⟩ : ∃ cb, cb = w7.heap.size + 1 := ⟨_, rfl⟩
    rw [← hcb, ← hB] at hc
    have hnB := hKT B (.inr ⟨by omega, by omega⟩)
    have K8 := Lib.hid (K7.out.trans k8)
    have HTT := Lib.hid (HT.out.bl K8.out)
    have HC := Lib.hid hc
    have HNB := Lib.hid hnB
    have HM1 := Lib.hid hm1
    have HM2 := Lib.hid hm2
    have hB0 : w.heap.size ≤ B := by have := K7.out.size; omega
    have HBZ := Lib.hid hB0
    have hB21 : 21 ≤ B := by omega
    clear hc k8 s8 hd8 hKT hm1 hm2 hnB HD7
    unfold addr0
    rw [← hcb]
    clear hcb hB hB0
    obtain ⟨R, hR⟩ : ∃ R, R = twoR sb L M st tb L M2' st2' := ⟨_, rfl⟩
    have HRE := Lib.hid hR; clear hR
    have kp1 : ∀ W, Fr (only B) w8 W → MS T1 W sb _ L M st 2 0 0 := fun W h4 => HM1.out.kept h4 (fun b hb e => HNB.out.1 (by rw [← show b = B from e]; exact hb))
    have kp2 : ∀ W, Fr (only B) w8 W → MS T2 W tb _ L M2' st2' 2 0 0 := fun W h4 => HM2.out.kept h4 (fun b hb e => HNB.out.2 (by rw [← show b = B from e]; exact hb))
    have kpt : ∀ W, Fr (only B) w8 W → Td.TabsS W := fun W h4 => HTT.out.fr h4 (fun g hg e => by have e' : g = B := e; omega)
    have cfs : ∀ W g q, CA W cb B g q → q ≤ 4096 → Inv R g → Fr (only B) w8 W → ∀ pc : Nat, pc < 2 ^ 64 → Calls Tryz.prog 23 #[addr0 cb, addr0 sb, .int .u64 (pc : Int)] W (OnPost R L M cb B pc W) := fun W g q h1 h2 h3 h4 pc hpc => by
      rw [HRE.out] at h3 ⊢
      exact fetch_on h1 h2 h3 (twoR_first HST.out _ _ _ _ _ _) (twoR_blocks (kp1 W h4) (kp2 W h4)) HNB.out.1 hB21 (kp1 W h4) (kpt W h4) pc hpc
    have cft : ∀ W g q, CA W cb B g q → q ≤ 4096 → Inv R g → Fr (only B) w8 W → ∀ pc : Nat, pc < 2 ^ 64 → Calls Tryz.prog 23 #[addr0 cb, addr0 tb, .int .u64 (pc : Int)] W (OnPost R L M2' cb B pc W) := fun W g q h1 h2 h3 h4 pc hpc => by
      rw [HRE.out] at h3 ⊢
      exact fetch_on h1 h2 h3 (twoR_second HST.out _ _ _ _ _ _) (twoR_blocks (kp1 W h4) (kp2 W h4)) HNB.out.2 hB21 (kp2 W h4) (kpt W h4) pc hpc
    have cns : ∀ W, Fr (only B) w8 W → ∀ pc : Nat, pc < 2 ^ 64 → Calls Tryz.prog 23 #[.pointer none, addr0 sb, .int .u64 (pc : Int)] W (OffPost L M pc W) := fun W h4 pc hpc => fetch_nil (kp1 W h4) (kpt W h4) pc hpc
    have cnt : ∀ W, Fr (only B) w8 W → ∀ pc : Nat, pc < 2 ^ 64 → Calls Tryz.prog 23 #[.pointer none, addr0 tb, .int .u64 (pc : Int)] W (OffPost L M2' pc W) := fun W h4 pc hpc => fetch_nil (kp2 W h4) (kpt W h4) pc hpc
    have CFS := Lib.hid cfs
    have CFT := Lib.hid cft
    have CNS := Lib.hid cns
    have CNT := Lib.hid cnt
    clear cfs cft cns cnt kp1 kp2 kpt
    unfold addr0 at *
    have HZ8 := Lib.hid (HZ.out.bl K8.out)
    have HZL : Hid (0 < l3 → ∀ ad, A3 = some ad → ad.block ≠ B) := Lib.hid (fun h0 ad e => by have := HZ.out.lt h0 ad e; have := HBZ.out; omega)
    clear HX HY HZ
    go_wp2_with fail
    go_loopw [11, 12, 13, 14, 15, 16, 17] (fun i _ _ _ _ _ _ wr => ∃ k : Nat, k ≤ 100 ∧ k ≤ l3 ∧ i = .int .i64 k ∧ (∃ g q, CA wr cb B g q ∧ q ≤ 4096 ∧ Inv R g) ∧ Fr (only B) w8 wr) (fun i _ _ _ _ _ _ _ => 100 - (intOf i).toNat)
    case atStart => exact ⟨0, by omega, by omega, rfl, ⟨_, _, HC.out, by omega, Inv.none_ _⟩, Fr.refl _ _⟩
    case round =>
      obtain ⟨k, hk, hk3, rfl, ⟨g, q, hc, hq, hi⟩, f7⟩ := hrel
      clear HC
      by_cases hlt : k < 100 ∧ k < l3
      · obtain ⟨hlt1, hlt2⟩ := hlt
        have hltI : (k : Int) < 100 := by omega
        have hltJ : (k : Int) < (l3 : Int) := by omega
        obtain ⟨b3, o3, rfl, hcell⟩ := (HZ8.out.rd.fr f7 (fun h0 ad e h => HZL.out (by rw [← HZ8.out.len]; exact h0) ad e h)).at_ k (by rw [HZ8.out.len]; exact hlt2)
        have hbd := HZ8.out.bd k
        obtain ⟨m, hm⟩ := Int.eq_ofNat_of_zero_le hbd.1
        rw [hm] at hcell hbd
        have hm255 : (m : Int) ≤ 255 := hbd.2
        have hm0 : (0 : Int) ≤ (m : Int) := by omega
        obtain ⟨ad, had⟩ : ∃ ad : Nat, ad = 4096 + m / 2 * 2 := ⟨_, rfl⟩
        have HADI : Hid ((ad : Int) = 4096 + (m : Int) / 2 * 2) := Lib.hid (by omega)
        have HAD : Hid (ad < 10000) := Lib.hid (by omega)
        clear had hm hbd hlt1 hlt2
        by_cases hodd : (m : Int) % 2 = 1
        · have t1 : ((m : Int) % 2 == 1) = true := by simp [hodd]
          clear hodd
          have cf := CFT.out wr g q hc hq hi f7 ad (by have := HAD.out; omega)
          rw [HADI.out] at cf
          have CF := Lib.hid cf; clear cf hc hi
          have F7 := Lib.hid f7; clear f7
          go_wp2_with fail
          with_reducible refine CF.out.mono ?_
          rintro e w8 ⟨⟨⟨a0, a1, a2, a3, a4, a5, a6⟩, sk, fk, fa⟩, hA, rfl, ⟨g8, q8, hc8, hq8, hi8⟩, f8⟩
          unfold Ans.v stopC Td.Ins.cells
          have HA := Lib.hid hA; clear hA
          obtain ⟨b1, b2, b3⟩ := boxes (w := w8) (Td.I7 a0 a1 a2 a3 a4 a5 a6) #[.int .i64 sk, .int .i64 fk, .int .u64 fa] 47 49
          have HC9 := Lib.hid (hc8.bl b3)
          have HI8 := Lib.hid hi8
          have F9 := Lib.hid ((F7.out.trans f8).trans (Fr.of_bl b3))
          clear CF hc8 hi8 f8 F7 b3 hcell
          go_upto_region 18 with (fail)
          obtain ⟨g8s, hg8s⟩ : ∃ z, z = w8.heap.size := ⟨_, rfl⟩
          rw [← hg8s] at b1 b2 ⊢
          clear hg8s
          generalize (w8.alloc (.cells (Td.I7 a0 a1 a2 a3 a4 a5 a6) 47)).alloc (.cells #[.int .i64 sk, .int .i64 fk, .int .u64 fa] 49) = w9 at *
          have cn := CNT.out w9 F9.out ad (by have := HAD.out; omega)
          rw [HADI.out] at cn
          have CN := Lib.hid cn; clear cn
          have HB1 := Lib.hid b1; clear b1
          have HB2 := Lib.hid b2; clear b2
          go_wp2_with fail
          with_reducible refine CN.out.mono ?_
          rintro e w10 ⟨A, hA, rfl, k10⟩
          obtain rfl := hA.one HA.out
          unfold Ans.v stopC Td.Ins.cells
          obtain ⟨c1, c2, c3⟩ := boxes (w := w10) (Td.I7 a0 a1 a2 a3 a4 a5 a6) #[.int .i64 sk, .int .i64 fk, .int .u64 fa] 47 49
          have D1 := Lib.hid ((k10.trans c3).at_ HB1.out)
          have D2 := Lib.hid ((k10.trans c3).at_ HB2.out)
          have HC10 := Lib.hid (HC9.out.bl (k10.trans c3))
          have F10 := Lib.hid (F9.out.trans (Fr.of_bl (k10.trans c3)))
          clear CN hA k10 c3
          go_upto_region 19 with (fail)
          obtain ⟨g9s, hg9s⟩ : ∃ z, z = w10.heap.size := ⟨_, rfl⟩
          rw [← hg9s] at c1 c2 ⊢
          clear hg9s
          generalize (w10.alloc (.cells (Td.I7 a0 a1 a2 a3 a4 a5 a6) 47)).alloc (.cells #[.int .i64 sk, .int .i64 fk, .int .u64 fa] 49) = w11 at *
          obtain ⟨d0, d1, d2, d3, d4, d5, d6⟩ := seven_at D1.out
          obtain ⟨e0, e1, e2⟩ := three_at D2.out
          obtain ⟨u0, u1, u2, u3, u4, u5, u6⟩ := seven_at c1
          obtain ⟨v0, v1, v2⟩ := three_at c2
          clear c1 c2
          go_wp2_with fail
          go_roundw
          case rel => exact ⟨k + 1, by omega, by omega, by go_num, ⟨_, _, HC10.out, hq8, HI8.out⟩, F10.out⟩
          case measure => simp [intOf]; omega
        · have t1 : ((m : Int) % 2 == 1) = false := by simp [hodd]
          clear hodd
          have cf := CFS.out wr g q hc hq hi f7 ad (by have := HAD.out; omega)
          rw [HADI.out] at cf
          have CF := Lib.hid cf; clear cf hc hi
          have F7 := Lib.hid f7; clear f7
          go_wp2_with fail
          with_reducible refine CF.out.mono ?_
          rintro e w8 ⟨⟨⟨a0, a1, a2, a3, a4, a5, a6⟩, sk, fk, fa⟩, hA, rfl, ⟨g8, q8, hc8, hq8, hi8⟩, f8⟩
          unfold Ans.v stopC Td.Ins.cells
          have HA := Lib.hid hA; clear hA
          obtain ⟨b1, b2, b3⟩ := boxes (w := w8) (Td.I7 a0 a1 a2 a3 a4 a5 a6) #[.int .i64 sk, .int .i64 fk, .int .u64 fa] 47 49
          have HC9 := Lib.hid (hc8.bl b3)
          have HI8 := Lib.hid hi8
          have F9 := Lib.hid ((F7.out.trans f8).trans (Fr.of_bl b3))
          clear CF hc8 hi8 f8 F7 b3 hcell
          go_upto_region 18 with (fail)
          obtain ⟨g8s, hg8s⟩ : ∃ z, z = w8.heap.size := ⟨_, rfl⟩
          rw [← hg8s] at b1 b2 ⊢
          clear hg8s
          generalize (w8.alloc (.cells (Td.I7 a0 a1 a2 a3 a4 a5 a6) 47)).alloc (.cells #[.int .i64 sk, .int .i64 fk, .int .u64 fa] 49) = w9 at *
          have cn := CNS.out w9 F9.out ad (by have := HAD.out; omega)
          rw [HADI.out] at cn
          have CN := Lib.hid cn; clear cn
          have HB1 := Lib.hid b1; clear b1
          have HB2 := Lib.hid b2; clear b2
          go_wp2_with fail
          with_reducible refine CN.out.mono ?_
          rintro e w10 ⟨A, hA, rfl, k10⟩
          obtain rfl := hA.one HA.out
          unfold Ans.v stopC Td.Ins.cells
          obtain ⟨c1, c2, c3⟩ := boxes (w := w10) (Td.I7 a0 a1 a2 a3 a4 a5 a6) #[.int .i64 sk, .int .i64 fk, .int .u64 fa] 47 49
          have D1 := Lib.hid ((k10.trans c3).at_ HB1.out)
          have D2 := Lib.hid ((k10.trans c3).at_ HB2.out)
          have HC10 := Lib.hid (HC9.out.bl (k10.trans c3))
          have F10 := Lib.hid (F9.out.trans (Fr.of_bl (k10.trans c3)))
          clear CN hA k10 c3
          go_upto_region 19 with (fail)
          obtain ⟨g9s, hg9s⟩ : ∃ z, z = w10.heap.size := ⟨_, rfl⟩
          rw [← hg9s] at c1 c2 ⊢
          clear hg9s
          generalize (w10.alloc (.cells (Td.I7 a0 a1 a2 a3 a4 a5 a6) 47)).alloc (.cells #[.int .i64 sk, .int .i64 fk, .int .u64 fa] 49) = w11 at *
          obtain ⟨d0, d1, d2, d3, d4, d5, d6⟩ := seven_at D1.out
          obtain ⟨e0, e1, e2⟩ := three_at D2.out
          obtain ⟨u0, u1, u2, u3, u4, u5, u6⟩ := seven_at c1
          obtain ⟨v0, v1, v2⟩ := three_at c2
          clear c1 c2
          go_wp2_with fail
          go_roundw
          case rel => exact ⟨k + 1, by omega, by omega, by go_num, ⟨_, _, HC10.out, hq8, HI8.out⟩, F10.out⟩
          case measure => simp [intOf]; omega
      · have HF := Lib.hid (Fr.only_new K8.out f7 HBZ.out)
        clear hc hi f7 CFS CFT CNS CNT
        have hc2 : (¬ (k : Int) < (l3 : Int)) ∨ ((k : Int) < (l3 : Int) ∧ ¬ (k : Int) < 100) := by omega
        clear hlt
        rcases hc2 with hc2 | ⟨hc2, hc3⟩
        · have hc2' : (l3 : Int) ≤ (k : Int) := by omega
          clear hc2
          go_wp2_with fail
          go_ret
          exact ⟨rfl, HF.out⟩
        · have hc3' : (100 : Int) ≤ (k : Int) := by omega
          clear hc3
          go_wp2_with fail
          go_ret
          exact ⟨rfl, HF.out⟩
end Go.Proofs.YtbngjbmfkekdnaaGreatDoor
