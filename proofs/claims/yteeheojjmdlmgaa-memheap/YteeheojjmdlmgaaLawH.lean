/-
  The walk of MemHeap.
-/
import Derived.Test.YteeheojjmdlmgaaMemK
set_option linter.unusedVariables false
set_option linter.unusedSimpArgs false
namespace Go.Proofs.Yteeheojjmdlmgaa
open Go.RowKit
set_option maxRecDepth 100000
theorem HI.inn {L : List Rg} {M : Nat → Int} {y at_ : Int} (h : HI L M y at_) {z : Int} (h1 : 8192 ≤ z) (h2 : z < (y + 4095) / 4096 * 4096) : In L z 3 := (h.pl z 3).2 ⟨rfl, .inl ⟨h1, h2⟩⟩
/-- The byte ahead of the end: seven, seven, nought. -/
theorem HI.byte {L : List Rg} {M : Nat → Int} {y at_ : Int} (h : HI L M y at_) (e : Nat) : HI L (lay (lay (lay M e [7]) e (putB 7 1)) e [0]) y at_ :=
  ⟨h.rs, h.pl, fun x hx => by
    by_cases he : x = e
    · subst he
      have := lay_at (lay (lay M x [7]) x (putB 7 1)) x [0] 0 (by simp)
      simpa using this
    · rw [lay_out _ _ _ _ (by simp; omega), lay_out _ _ _ _ (by rw [putB_length]; omega), lay_out _ _ _ _ (by simp; omega)]
      exact h.zero x hx, h.e0, h.e1, h.a0, h.a1⟩
theorem HI.wall {L : List Rg} {M : Nat → Int} {y at_ : Int} (h : HI L M y at_) (u : Nat) (hu : at_ ≤ (u : Int)) (cs : List Int) : HI L (lay M u cs) y at_ :=
  ⟨h.rs, h.pl, fun x hx => by rw [lay_out _ _ _ _ (by omega)]; exact h.zero x hx, h.e0, h.e1, h.a0, h.a1⟩
theorem can_of {L : List Rg} {z : Int} (h : In L z 3) : Can L 2 z := ⟨3, h, by decide⟩
/-- A store of one byte where that may be. -/
theorem store_one {T : Nat → Prop} {w : World} {sb n0 : Nat} {L : List Rg} {M st : Nat → Int} {mo ba en : Int} (h : MS T w sb n0 L M st mo ba en) (a : Nat) (x : Int) (hc : Can L 2 a) (ha : a < 2 ^ 64) (hn0 : n0 < 80000000) (hT : ∀ b, w.heap.size ≤ b → T b) :
    Calls Try.prog 13 #[addr0 sb, .int .u64 (a : Int), .int .i64 1, .int .u64 x] w fun e w' => e = .returned (faultV 0 0) ∧ ∃ st', MS T w' sb (n0 + 9) L (lay M a (putB x 1)) st' mo ba en ∧ Fr T w w' := by
  refine (mstore_any h a 1 x ha (by decide) hn0 hT).mono ?_
  rintro e w' ⟨k, y, rfl, hh⟩
  rcases hh with ⟨_, hy1, hy2, hno, _⟩ | ⟨rfl, rfl, _, st', h3, _, f3⟩
  · obtain rfl : y = a := by omega
    exact absurd hc hno
  · exact ⟨rfl, st', h3, f3⟩
/-- A store of one byte where that may not be. -/
theorem store_not {T : Nat → Prop} {w : World} {sb n0 : Nat} {L : List Rg} {M st : Nat → Int} {mo ba en : Int} (h : MS T w sb n0 L M st mo ba en) (a : Nat) (x : Int) (hc : ¬ Can L 2 a) (ha : a < 2 ^ 64) (hn0 : n0 < 80000000) (hT : ∀ b, w.heap.size ≤ b → T b) :
    Calls Try.prog 13 #[addr0 sb, .int .u64 (a : Int), .int .i64 1, .int .u64 x] w fun e w' => e = .returned (faultV 2 a) ∧ Bl w w' := by
  refine (mstore_any h a 1 x ha (by decide) hn0 hT).mono ?_
  rintro e w' ⟨k, y, rfl, hh⟩
  rcases hh with ⟨rfl, hy1, hy2, hno, _, k⟩ | ⟨_, _, hx, _⟩
  · obtain rfl : y = a := by omega
    exact ⟨rfl, k⟩
  · exact absurd (hx a (by omega) (by omega)) hc
def at0 (wall : Int) : Int := (12 + wall % 20) * 4096
set_option maxHeartbeats 8000000 in
theorem heap_walk (a0 : Option Addr) (len0 cap0 : Nat) (wall : Int) (w : World) (hz : Nums .u32 w a0 len0) (hlen : len0 ≤ 9223372036854775807) (g0 : 0 ≤ wall) (g1 : wall ≤ 255) :
    Calls Try.prog 4 #[.slice a0 len0 cap0, .int .u8 wall] w (BoolPost w true) := by
  have cn := mnew_any (from_ w.heap.size) 40 w (Nat.le_refl _) (by omega) (by omega)
  have CN := Lib.hid cn; clear cn
  have HZ := Lib.hid hz; clear hz
  have hlenI : (len0 : Int) ≤ 9223372036854775807 := by omega
  obtain ⟨at_, hat⟩ : ∃ at_ : Nat, (at_ : Int) = (12 + wall % 20) * 4096 := ⟨((12 + wall % 20) * 4096).toNat, by omega⟩
  have a1 : 49152 ≤ at_ := by omega
  have a2 : at_ ≤ 126976 := by omega
  have a3 : at_ % 4096 = 0 := by omega
  have HAT := Lib.hid hat; clear hat
  go_enter Try.func4, Try.ntmps4
  go_wp2_with fail
  refine CN.out.mono ?_
  rintro e w1 ⟨rfl, h1, k1, hs1⟩
  have H1 := Lib.hid h1; clear h1
  have K1 := Lib.hid k1; clear k1 CN
  unfold addr0 at *
  go_wp2_with fail
  refine (manswers_any _).mono ?_
  rintro e w2 ⟨rfl, k2⟩
  have H2 := Lib.hid (H1.out.bl k2)
  have K2 := Lib.hid (K1.out.trans k2); clear k2 H1 K1 hs1
  have cs := msetbrk_any H2.out 8000 (by omega) (by omega)
  unfold addr0 at cs
  go_wp2_with fail
  refine cs.mono ?_
  rintro e w3 ⟨rfl, h3, f3⟩
  have h3 : MS (from_ w.heap.size) w3 w.heap.size 0 [] (fun _ => 0) (fun _ => 0) 40 8192 8192 := h3
  have H3 := Lib.hid h3
  have K3 := Lib.hid (Fr.from_bl K2.out f3); clear f3 cs H2 K2 h3
  have cb := mbrk_any H3.out 0 (by omega) (by omega) (fun b hb => Nat.le_trans K3.out.size hb) (fun W L' q1 q2 q3 q4 q5 q6 => mclear_any q6 _ _ q1 q2 q3 q4 (by have h8 : upN 8192 = 8192 := (by decide); omega) (by omega) (fun b hb => Nat.le_trans K3.out.size (Nat.le_trans q5 hb)))
  unfold addr0 at cb
  go_wp2_with fail
  refine cb.mono ?_
  rintro e w4 ⟨y, rfl, hb⟩
  have hb4 : y = 8192 ∧ Bl w3 w4 := by
    rcases hb with ⟨_, e1, e2⟩ | ⟨e1, _⟩
    · exact ⟨e1, e2⟩
    · omega
  obtain ⟨rfl, k4⟩ := hb4
  have H4 := Lib.hid (H3.out.bl k4)
  have K4 := Lib.hid (K3.out.trans k4); clear k4 cb H3 K3 hb
  have cm := mmap_new H4.out at_ (at_ + 4096) 4096 3 (by omega) (by omega) (by omega) (by omega) (by omega) ⟨by omega, by omega, by omega, by omega⟩ (by omega) (by omega) (fun b hb => Nat.le_trans K4.out.size hb)
  unfold addr0 at cm
  go_wp2_with fail
  rw [← HAT.out]
  refine cm.mono ?_
  rintro e w5 ⟨rfl, st5, h5, r5, f5⟩
  have hi5 : HI [⟨(at_ : Int), ((at_ + 4096 : Nat) : Int), 3⟩] (wiped (fun _ => 0) at_ (at_ + 4096)) 8192 at_ := by
    refine ⟨one_rs (by omega) ⟨by omega, by omega, by omega, by omega⟩, fun x q => ?_, fun x hx => ?_, by omega, by omega, by omega, by omega⟩
    · rw [In_one]; simp only; omega
    · simp only [wiped]; split <;> rfl
  have H5 := Lib.hid h5
  have HI5 := Lib.hid hi5
  have K5 := Lib.hid (Fr.from_bl K4.out f5)
  clear h5 hi5 f5 r5 cm H4 K4
  have a1I : (49152 : Int) ≤ (at_ : Int) := by omega
  have a2I : (at_ : Int) ≤ 126976 := by omega
  go_wp2_with fail
  go_loopw [8, 9, 10, 11, 12] (fun ev i _ _ _ wr => ∃ (k : Nat) (en : Int) (L : List Rg) (M st : Nat → Int), k ≤ 40 ∧ i = .int .i64 k ∧ ev = .int .u64 en ∧ HI L M en at_ ∧ MS (from_ w.heap.size) wr w.heap.size (8192 + k * 8300) L M st 40 8192 en ∧ Bl w wr) (fun _ i _ _ _ _ => 41 - (intOf i).toNat)
  case atStart => exact ⟨0, 8192, _, _, _, by omega, rfl, rfl, HI5.out, H5.out, K5.out⟩
  case round =>
    obtain ⟨k, en, L, M, st, hk, rfl, rfl, hhi, hm, hbl⟩ := hrel
    clear H5 K5 HI5
    have hE0 := hhi.e0
    have hE1 := hhi.e1
    have hEa : en ≤ 126976 := by omega
    clear hE1
    have HM := Lib.hid hm; clear hm
    have HBL := Lib.hid hbl; clear hbl
    have HHI := Lib.hid hhi; clear hhi
    have hkI : (k : Int) ≤ 40 := by omega
    have hfk := fun W => kind_run 0 0 W
    have hfk2 := fun y W => kind_run 2 y W
    by_cases hgo : k < len0 ∧ k < 40
    · obtain ⟨g2, g3⟩ := hgo
      obtain ⟨bb, off, ha, hcs⟩ := (HZ.out.bl HBL.out) (by omega)
      subst ha
      obtain ⟨c, hc, cw⟩ := hcs k g2
      obtain ⟨c0, c1⟩ := u32_in cw
      clear hcs cw
      have g2I : (k : Int) < (len0 : Int) := by omega
      have g3I : (k : Int) < 40 := by omega
      obtain ⟨x, hx⟩ : ∃ x, x = c % 200000 := ⟨_, rfl⟩
      have x0 : 0 ≤ x := by omega
      have x1 : x < 200000 := by omega
      have HX := Lib.hid hx; clear hx
      have cb := heap_brk HHI.out HM.out x x0 x1 (by omega) (fun b hb => Nat.le_trans HBL.out.size hb)
      unfold addr0 at cb
      obtain ⟨ux, hux⟩ : ∃ ux, ux = (x + 4095) / 4096 * 4096 := ⟨_, rfl⟩
      have ux0 : 0 ≤ ux := by omega
      have ux1 : ux ≤ 204800 := by omega
      have cu := fun W => refUp_any x W x0 (by omega)
      rw [← hux] at cu cb
      have CU := Lib.hid cu; clear cu
      have HUX := Lib.hid hux; clear hux
      have CB := Lib.hid cb; clear cb
      go_wp2_with fail
      rw [← HX.out]
      refine CB.out.mono ?_
      rintro e w6 ⟨y, L', M', st', rfl, hcase, hi6, h6, f6⟩
      have H6 := Lib.hid h6
      have HI6 := Lib.hid hi6
      have K6 := Lib.hid (Fr.from_bl HBL.out f6)
      clear h6 hi6 f6 HM HBL HHI CB
      rcases hcase with ⟨q1, q2, rfl⟩ | ⟨q1, rfl⟩
      · have q1I : 8192 ≤ y := q1
        clear q1I
        go_wp2_with fail
        refine (CU.out _).mono ?_
        rintro e w' ⟨rfl, rfl⟩
        by_cases hgt : en < y
        · have cp := mpeek_any H6.out (y - 1).toNat 1 (by omega) (by omega) (by omega)
          rw [show (((y - 1).toNat : Nat) : Int) = y - 1 by omega] at cp
          unfold addr0 at cp
          have CPK := Lib.hid cp; clear cp
          have hzero : bytesAt M' (y - 1).toNat 1 = [0] := by
            have h9 := HI6.out.zero (y - 1).toNat (by have := HI6.out.e1; omega)
            show [M' ((y - 1).toNat + 0)] = [0]
            rw [Nat.add_zero, h9]
          have HZERO := Lib.hid hzero; clear hzero
          go_wp2_with fail
          refine CPK.out.mono ?_
          rintro e w7 ⟨rfl, hb7, k7⟩
          rw [HZERO.out] at hb7
          have d7 : w7.cell? ⟨w6.heap.size, 0, none⟩ = some (.int .u8 0) := by rw [cell_of_row w7 _ 0 _ _ _ hb7]; rfl
          have H7 := Lib.hid (H6.out.bl k7)
          have K7 := Lib.hid (K6.out.trans k7)
          clear k7 hb7 CPK H6 K6
          have yE0 := HI6.out.e0
          have yE1 := HI6.out.e1
          by_cases hy : 8192 < y
          · obtain ⟨e, he⟩ : ∃ e : Nat, (e : Int) = y - 1 := ⟨(y - 1).toNat, by omega⟩
            have hin : In L' (e : Int) 3 := HI6.out.inn (by omega) (by omega)
            have cp := mput_one H7.out e 7 (by omega) (by omega) (by omega) (fun b hb => Nat.le_trans K7.out.size hb)
            unfold addr0 at cp
            have CP := Lib.hid cp; clear cp
            have HEE := Lib.hid he
            have he2 : e < 200000 := by omega
            have HIN := Lib.hid hin; clear hin he yE1
            go_wp2_with fail
            rw [← HEE.out]
            refine CP.out.mono ?_
            rintro _ w8 ⟨rfl, M8, st8, h8, m8, _, f8⟩
            obtain rfl := m8 ⟨3, HIN.out⟩
            have H8 := Lib.hid h8
            have K8 := Lib.hid (Fr.from_bl K7.out f8)
            clear h8 f8 CP H7 K7 m8
            have cs := store_one H8.out e 7 (can_of HIN.out) (by omega) (by omega) (fun b hb => Nat.le_trans K8.out.size hb)
            unfold addr0 at cs
            have CS := Lib.hid cs; clear cs
            go_wp2_with fail
            (try rw [← HEE.out])
            refine CS.out.mono ?_
            rintro _ w9 ⟨rfl, st9, h9, f9⟩
            have H9 := Lib.hid h9
            have K9 := Lib.hid (Fr.from_bl K8.out f9)
            clear h9 f9 CS H8 K8
            have cp := mput_one H9.out e 0 (by omega) (by omega) (by omega) (fun b hb => Nat.le_trans K9.out.size hb)
            unfold addr0 at cp
            have CP := Lib.hid cp; clear cp
            unfold faultV
            go_wp2_with fail
            (try rw [← HEE.out])
            refine CP.out.mono ?_
            rintro _ wA ⟨rfl, MA, stA, hA, mA, _, fA⟩
            obtain rfl := mA ⟨3, HIN.out⟩
            have HA := Lib.hid hA
            have KA := Lib.hid (Fr.from_bl K9.out fA)
            have HIA := Lib.hid (HI6.out.byte e)
            clear hA fA CP H9 K9 mA
            obtain ⟨u, hu⟩ : ∃ u : Nat, (u : Int) = ((y : Int) + 4095) / 4096 * 4096 := ⟨(((y : Int) + 4095) / 4096 * 4096).toNat, by omega⟩
            have hu1 := HIA.out.e1
            have hu2 : u ≤ at_ := by omega
            have cu := fun W => refUp_any y W (by omega) (by omega)
            rw [← hu] at cu
            have CU2 := Lib.hid cu; clear cu
            have HU := Lib.hid hu; clear hu hu1
            by_cases hua : u = at_
            · subst hua
              have cs := store_one HA.out u 1 (can_of ((HIA.out.pl u 3).2 ⟨rfl, .inr (by omega)⟩)) (by omega) (by omega) (fun b hb => Nat.le_trans KA.out.size hb)
              unfold addr0 at cs
              have CS := Lib.hid cs; clear cs
              go_wp2_with fail
              refine (CU2.out _).mono ?_
              rintro e w' ⟨rfl, rfl⟩
              go_wp2_with fail
              refine CS.out.mono ?_
              rintro e wE ⟨rfl, stE, hE, fE⟩
              have HE := Lib.hid hE
              have KE := Lib.hid (Fr.from_bl KA.out fE)
              have HIE := Lib.hid (HIA.out.wall u (Int.le_refl _) (putB 1 1))
              clear hE fE CS HA HIA KA
              unfold faultV
              go_wp2_with fail
              refine (CU2.out _).mono ?_
              rintro e w' ⟨rfl, rfl⟩
              go_wp2_with fail
              exact ⟨⟨k + 1, y, _, _, stE, by omega, by go_num, rfl, HIE.out, HE.out.mono (by omega), KE.out⟩, by simp only [intOf]; omega⟩
            · have hno : ¬ Can L' 2 (u : Int) := fun ⟨q, hq, _⟩ => by
                have := (HIA.out.pl u q).1 hq
                have := HU.out
                omega
              have cs := store_not HA.out u 1 hno (by omega) (by omega) (fun b hb => Nat.le_trans KA.out.size hb)
              unfold addr0 at cs
              have CS := Lib.hid cs; clear cs hno hua
              go_wp2_with fail
              refine (CU2.out _).mono ?_
              rintro e w' ⟨rfl, rfl⟩
              go_wp2_with fail
              refine CS.out.mono ?_
              rintro e wE ⟨rfl, kE⟩
              have HE := Lib.hid (HA.out.bl kE)
              have KE := Lib.hid (KA.out.trans kE)
              clear kE CS HA KA
              unfold faultV
              go_wp2_with fail
              exact ⟨⟨k + 1, y, _, _, _, by omega, by go_num, rfl, HIA.out, HE.out.mono (by omega), KE.out⟩, by simp only [intOf]; omega⟩
          · have hy2 : y = 8192 := by omega
            clear hy yE0
            subst hy2
            obtain ⟨u, hu⟩ : ∃ u : Nat, (u : Int) = ((8192 : Int) + 4095) / 4096 * 4096 := ⟨(((8192 : Int) + 4095) / 4096 * 4096).toNat, by omega⟩
            have hu1 := HI6.out.e1
            have hu2 : u ≤ at_ := by omega
            have cu := fun W => refUp_any 8192 W (by omega) (by omega)
            rw [← hu] at cu
            have CU2 := Lib.hid cu; clear cu
            have HU := Lib.hid hu; clear hu hu1
            by_cases hua : u = at_
            · subst hua
              have cs := store_one H7.out u 1 (can_of ((HI6.out.pl u 3).2 ⟨rfl, .inr (by omega)⟩)) (by omega) (by omega) (fun b hb => Nat.le_trans K7.out.size hb)
              unfold addr0 at cs
              have CS := Lib.hid cs; clear cs
              go_wp2_with fail
              refine (CU2.out _).mono ?_
              rintro e w' ⟨rfl, rfl⟩
              go_wp2_with fail
              refine CS.out.mono ?_
              rintro e wE ⟨rfl, stE, hE, fE⟩
              have HE := Lib.hid hE
              have KE := Lib.hid (Fr.from_bl K7.out fE)
              have HIE := Lib.hid (HI6.out.wall u (Int.le_refl _) (putB 1 1))
              clear hE fE CS H7 HI6 K7
              unfold faultV
              go_wp2_with fail
              refine (CU2.out _).mono ?_
              rintro e w' ⟨rfl, rfl⟩
              go_wp2_with fail
              exact ⟨⟨k + 1, 8192, _, _, stE, by omega, by go_num, rfl, HIE.out, HE.out.mono (by omega), KE.out⟩, by simp only [intOf]; omega⟩
            · have hno : ¬ Can L' 2 (u : Int) := fun ⟨q, hq, _⟩ => by
                have := (HI6.out.pl u q).1 hq
                have := HU.out
                omega
              have cs := store_not H7.out u 1 hno (by omega) (by omega) (fun b hb => Nat.le_trans K7.out.size hb)
              unfold addr0 at cs
              have CS := Lib.hid cs; clear cs hno hua
              go_wp2_with fail
              refine (CU2.out _).mono ?_
              rintro e w' ⟨rfl, rfl⟩
              go_wp2_with fail
              refine CS.out.mono ?_
              rintro e wE ⟨rfl, kE⟩
              have HE := Lib.hid (H7.out.bl kE)
              have KE := Lib.hid (K7.out.trans kE)
              clear kE CS H7 K7
              unfold faultV
              go_wp2_with fail
              exact ⟨⟨k + 1, 8192, _, _, _, by omega, by go_num, rfl, HI6.out, HE.out.mono (by omega), KE.out⟩, by simp only [intOf]; omega⟩
        · have hle : y ≤ en := by omega
          clear hgt
          have yE0 := HI6.out.e0
          have yE1 := HI6.out.e1
          by_cases hy : 8192 < y
          · obtain ⟨e, he⟩ : ∃ e : Nat, (e : Int) = y - 1 := ⟨(y - 1).toNat, by omega⟩
            have hin : In L' (e : Int) 3 := HI6.out.inn (by omega) (by omega)
            have cp := mput_one H6.out e 7 (by omega) (by omega) (by omega) (fun b hb => Nat.le_trans K6.out.size hb)
            unfold addr0 at cp
            have CP := Lib.hid cp; clear cp
            have HEE := Lib.hid he
            have he2 : e < 200000 := by omega
            have HIN := Lib.hid hin; clear hin he yE1
            go_wp2_with fail
            rw [← HEE.out]
            refine CP.out.mono ?_
            rintro _ w8 ⟨rfl, M8, st8, h8, m8, _, f8⟩
            obtain rfl := m8 ⟨3, HIN.out⟩
            have H8 := Lib.hid h8
            have K8 := Lib.hid (Fr.from_bl K6.out f8)
            clear h8 f8 CP H6 K6 m8
            have cs := store_one H8.out e 7 (can_of HIN.out) (by omega) (by omega) (fun b hb => Nat.le_trans K8.out.size hb)
            unfold addr0 at cs
            have CS := Lib.hid cs; clear cs
            go_wp2_with fail
            (try rw [← HEE.out])
            refine CS.out.mono ?_
            rintro _ w9 ⟨rfl, st9, h9, f9⟩
            have H9 := Lib.hid h9
            have K9 := Lib.hid (Fr.from_bl K8.out f9)
            clear h9 f9 CS H8 K8
            have cp := mput_one H9.out e 0 (by omega) (by omega) (by omega) (fun b hb => Nat.le_trans K9.out.size hb)
            unfold addr0 at cp
            have CP := Lib.hid cp; clear cp
            unfold faultV
            go_wp2_with fail
            (try rw [← HEE.out])
            refine CP.out.mono ?_
            rintro _ wA ⟨rfl, MA, stA, hA, mA, _, fA⟩
            obtain rfl := mA ⟨3, HIN.out⟩
            have HA := Lib.hid hA
            have KA := Lib.hid (Fr.from_bl K9.out fA)
            have HIA := Lib.hid (HI6.out.byte e)
            clear hA fA CP H9 K9 mA
            obtain ⟨u, hu⟩ : ∃ u : Nat, (u : Int) = ((y : Int) + 4095) / 4096 * 4096 := ⟨(((y : Int) + 4095) / 4096 * 4096).toNat, by omega⟩
            have hu1 := HIA.out.e1
            have hu2 : u ≤ at_ := by omega
            have cu := fun W => refUp_any y W (by omega) (by omega)
            rw [← hu] at cu
            have CU2 := Lib.hid cu; clear cu
            have HU := Lib.hid hu; clear hu hu1
            by_cases hua : u = at_
            · subst hua
              have cs := store_one HA.out u 1 (can_of ((HIA.out.pl u 3).2 ⟨rfl, .inr (by omega)⟩)) (by omega) (by omega) (fun b hb => Nat.le_trans KA.out.size hb)
              unfold addr0 at cs
              have CS := Lib.hid cs; clear cs
              go_wp2_with fail
              refine (CU2.out _).mono ?_
              rintro e w' ⟨rfl, rfl⟩
              go_wp2_with fail
              refine CS.out.mono ?_
              rintro e wE ⟨rfl, stE, hE, fE⟩
              have HE := Lib.hid hE
              have KE := Lib.hid (Fr.from_bl KA.out fE)
              have HIE := Lib.hid (HIA.out.wall u (Int.le_refl _) (putB 1 1))
              clear hE fE CS HA HIA KA
              unfold faultV
              go_wp2_with fail
              refine (CU2.out _).mono ?_
              rintro e w' ⟨rfl, rfl⟩
              go_wp2_with fail
              exact ⟨⟨k + 1, y, _, _, stE, by omega, by go_num, rfl, HIE.out, HE.out.mono (by omega), KE.out⟩, by simp only [intOf]; omega⟩
            · have hno : ¬ Can L' 2 (u : Int) := fun ⟨q, hq, _⟩ => by
                have := (HIA.out.pl u q).1 hq
                have := HU.out
                omega
              have cs := store_not HA.out u 1 hno (by omega) (by omega) (fun b hb => Nat.le_trans KA.out.size hb)
              unfold addr0 at cs
              have CS := Lib.hid cs; clear cs hno hua
              go_wp2_with fail
              refine (CU2.out _).mono ?_
              rintro e w' ⟨rfl, rfl⟩
              go_wp2_with fail
              refine CS.out.mono ?_
              rintro e wE ⟨rfl, kE⟩
              have HE := Lib.hid (HA.out.bl kE)
              have KE := Lib.hid (KA.out.trans kE)
              clear kE CS HA KA
              unfold faultV
              go_wp2_with fail
              exact ⟨⟨k + 1, y, _, _, _, by omega, by go_num, rfl, HIA.out, HE.out.mono (by omega), KE.out⟩, by simp only [intOf]; omega⟩
          · have hy2 : y = 8192 := by omega
            clear hy yE0
            subst hy2
            obtain ⟨u, hu⟩ : ∃ u : Nat, (u : Int) = ((8192 : Int) + 4095) / 4096 * 4096 := ⟨(((8192 : Int) + 4095) / 4096 * 4096).toNat, by omega⟩
            have hu1 := HI6.out.e1
            have hu2 : u ≤ at_ := by omega
            have cu := fun W => refUp_any 8192 W (by omega) (by omega)
            rw [← hu] at cu
            have CU2 := Lib.hid cu; clear cu
            have HU := Lib.hid hu; clear hu hu1
            by_cases hua : u = at_
            · subst hua
              have cs := store_one H6.out u 1 (can_of ((HI6.out.pl u 3).2 ⟨rfl, .inr (by omega)⟩)) (by omega) (by omega) (fun b hb => Nat.le_trans K6.out.size hb)
              unfold addr0 at cs
              have CS := Lib.hid cs; clear cs
              go_wp2_with fail
              refine (CU2.out _).mono ?_
              rintro e w' ⟨rfl, rfl⟩
              go_wp2_with fail
              refine CS.out.mono ?_
              rintro e wE ⟨rfl, stE, hE, fE⟩
              have HE := Lib.hid hE
              have KE := Lib.hid (Fr.from_bl K6.out fE)
              have HIE := Lib.hid (HI6.out.wall u (Int.le_refl _) (putB 1 1))
              clear hE fE CS H6 HI6 K6
              unfold faultV
              go_wp2_with fail
              refine (CU2.out _).mono ?_
              rintro e w' ⟨rfl, rfl⟩
              go_wp2_with fail
              exact ⟨⟨k + 1, 8192, _, _, stE, by omega, by go_num, rfl, HIE.out, HE.out.mono (by omega), KE.out⟩, by simp only [intOf]; omega⟩
            · have hno : ¬ Can L' 2 (u : Int) := fun ⟨q, hq, _⟩ => by
                have := (HI6.out.pl u q).1 hq
                have := HU.out
                omega
              have cs := store_not H6.out u 1 hno (by omega) (by omega) (fun b hb => Nat.le_trans K6.out.size hb)
              unfold addr0 at cs
              have CS := Lib.hid cs; clear cs hno hua
              go_wp2_with fail
              refine (CU2.out _).mono ?_
              rintro e w' ⟨rfl, rfl⟩
              go_wp2_with fail
              refine CS.out.mono ?_
              rintro e wE ⟨rfl, kE⟩
              have HE := Lib.hid (H6.out.bl kE)
              have KE := Lib.hid (K6.out.trans kE)
              clear kE CS H6 K6
              unfold faultV
              go_wp2_with fail
              exact ⟨⟨k + 1, 8192, _, _, _, by omega, by go_num, rfl, HI6.out, HE.out.mono (by omega), KE.out⟩, by simp only [intOf]; omega⟩
      · by_cases q3 : 8192 ≤ x
        · have q4 : (at_ : Int) < ux := by omega
          clear q1
          go_wp2_with fail
          refine (CU.out _).mono ?_
          rintro e w' ⟨rfl, rfl⟩
          have yE0 := HI6.out.e0
          have yE1 := HI6.out.e1
          by_cases hy : 8192 < y
          · obtain ⟨e, he⟩ : ∃ e : Nat, (e : Int) = y - 1 := ⟨(y - 1).toNat, by omega⟩
            have hin : In L' (e : Int) 3 := HI6.out.inn (by omega) (by omega)
            have cp := mput_one H6.out e 7 (by omega) (by omega) (by omega) (fun b hb => Nat.le_trans K6.out.size hb)
            unfold addr0 at cp
            have CP := Lib.hid cp; clear cp
            have HEE := Lib.hid he
            have he2 : e < 200000 := by omega
            have HIN := Lib.hid hin; clear hin he yE1
            go_wp2_with fail
            rw [← HEE.out]
            refine CP.out.mono ?_
            rintro _ w8 ⟨rfl, M8, st8, h8, m8, _, f8⟩
            obtain rfl := m8 ⟨3, HIN.out⟩
            have H8 := Lib.hid h8
            have K8 := Lib.hid (Fr.from_bl K6.out f8)
            clear h8 f8 CP H6 K6 m8
            have cs := store_one H8.out e 7 (can_of HIN.out) (by omega) (by omega) (fun b hb => Nat.le_trans K8.out.size hb)
            unfold addr0 at cs
            have CS := Lib.hid cs; clear cs
            go_wp2_with fail
            (try rw [← HEE.out])
            refine CS.out.mono ?_
            rintro _ w9 ⟨rfl, st9, h9, f9⟩
            have H9 := Lib.hid h9
            have K9 := Lib.hid (Fr.from_bl K8.out f9)
            clear h9 f9 CS H8 K8
            have cp := mput_one H9.out e 0 (by omega) (by omega) (by omega) (fun b hb => Nat.le_trans K9.out.size hb)
            unfold addr0 at cp
            have CP := Lib.hid cp; clear cp
            unfold faultV
            go_wp2_with fail
            (try rw [← HEE.out])
            refine CP.out.mono ?_
            rintro _ wA ⟨rfl, MA, stA, hA, mA, _, fA⟩
            obtain rfl := mA ⟨3, HIN.out⟩
            have HA := Lib.hid hA
            have KA := Lib.hid (Fr.from_bl K9.out fA)
            have HIA := Lib.hid (HI6.out.byte e)
            clear hA fA CP H9 K9 mA
            obtain ⟨u, hu⟩ : ∃ u : Nat, (u : Int) = ((y : Int) + 4095) / 4096 * 4096 := ⟨(((y : Int) + 4095) / 4096 * 4096).toNat, by omega⟩
            have hu1 := HIA.out.e1
            have hu2 : u ≤ at_ := by omega
            have cu := fun W => refUp_any y W (by omega) (by omega)
            rw [← hu] at cu
            have CU2 := Lib.hid cu; clear cu
            have HU := Lib.hid hu; clear hu hu1
            by_cases hua : u = at_
            · subst hua
              have cs := store_one HA.out u 1 (can_of ((HIA.out.pl u 3).2 ⟨rfl, .inr (by omega)⟩)) (by omega) (by omega) (fun b hb => Nat.le_trans KA.out.size hb)
              unfold addr0 at cs
              have CS := Lib.hid cs; clear cs
              go_wp2_with fail
              refine (CU2.out _).mono ?_
              rintro e w' ⟨rfl, rfl⟩
              go_wp2_with fail
              refine CS.out.mono ?_
              rintro e wE ⟨rfl, stE, hE, fE⟩
              have HE := Lib.hid hE
              have KE := Lib.hid (Fr.from_bl KA.out fE)
              have HIE := Lib.hid (HIA.out.wall u (Int.le_refl _) (putB 1 1))
              clear hE fE CS HA HIA KA
              unfold faultV
              go_wp2_with fail
              refine (CU2.out _).mono ?_
              rintro e w' ⟨rfl, rfl⟩
              go_wp2_with fail
              exact ⟨⟨k + 1, y, _, _, stE, by omega, by go_num, rfl, HIE.out, HE.out.mono (by omega), KE.out⟩, by simp only [intOf]; omega⟩
            · have hno : ¬ Can L' 2 (u : Int) := fun ⟨q, hq, _⟩ => by
                have := (HIA.out.pl u q).1 hq
                have := HU.out
                omega
              have cs := store_not HA.out u 1 hno (by omega) (by omega) (fun b hb => Nat.le_trans KA.out.size hb)
              unfold addr0 at cs
              have CS := Lib.hid cs; clear cs hno hua
              go_wp2_with fail
              refine (CU2.out _).mono ?_
              rintro e w' ⟨rfl, rfl⟩
              go_wp2_with fail
              refine CS.out.mono ?_
              rintro e wE ⟨rfl, kE⟩
              have HE := Lib.hid (HA.out.bl kE)
              have KE := Lib.hid (KA.out.trans kE)
              clear kE CS HA KA
              unfold faultV
              go_wp2_with fail
              exact ⟨⟨k + 1, y, _, _, _, by omega, by go_num, rfl, HIA.out, HE.out.mono (by omega), KE.out⟩, by simp only [intOf]; omega⟩
          · have hy2 : y = 8192 := by omega
            clear hy yE0
            subst hy2
            obtain ⟨u, hu⟩ : ∃ u : Nat, (u : Int) = ((8192 : Int) + 4095) / 4096 * 4096 := ⟨(((8192 : Int) + 4095) / 4096 * 4096).toNat, by omega⟩
            have hu1 := HI6.out.e1
            have hu2 : u ≤ at_ := by omega
            have cu := fun W => refUp_any 8192 W (by omega) (by omega)
            rw [← hu] at cu
            have CU2 := Lib.hid cu; clear cu
            have HU := Lib.hid hu; clear hu hu1
            by_cases hua : u = at_
            · subst hua
              have cs := store_one H6.out u 1 (can_of ((HI6.out.pl u 3).2 ⟨rfl, .inr (by omega)⟩)) (by omega) (by omega) (fun b hb => Nat.le_trans K6.out.size hb)
              unfold addr0 at cs
              have CS := Lib.hid cs; clear cs
              go_wp2_with fail
              refine (CU2.out _).mono ?_
              rintro e w' ⟨rfl, rfl⟩
              go_wp2_with fail
              refine CS.out.mono ?_
              rintro e wE ⟨rfl, stE, hE, fE⟩
              have HE := Lib.hid hE
              have KE := Lib.hid (Fr.from_bl K6.out fE)
              have HIE := Lib.hid (HI6.out.wall u (Int.le_refl _) (putB 1 1))
              clear hE fE CS H6 HI6 K6
              unfold faultV
              go_wp2_with fail
              refine (CU2.out _).mono ?_
              rintro e w' ⟨rfl, rfl⟩
              go_wp2_with fail
              exact ⟨⟨k + 1, 8192, _, _, stE, by omega, by go_num, rfl, HIE.out, HE.out.mono (by omega), KE.out⟩, by simp only [intOf]; omega⟩
            · have hno : ¬ Can L' 2 (u : Int) := fun ⟨q, hq, _⟩ => by
                have := (HI6.out.pl u q).1 hq
                have := HU.out
                omega
              have cs := store_not H6.out u 1 hno (by omega) (by omega) (fun b hb => Nat.le_trans K6.out.size hb)
              unfold addr0 at cs
              have CS := Lib.hid cs; clear cs hno hua
              go_wp2_with fail
              refine (CU2.out _).mono ?_
              rintro e w' ⟨rfl, rfl⟩
              go_wp2_with fail
              refine CS.out.mono ?_
              rintro e wE ⟨rfl, kE⟩
              have HE := Lib.hid (H6.out.bl kE)
              have KE := Lib.hid (K6.out.trans kE)
              clear kE CS H6 K6
              unfold faultV
              go_wp2_with fail
              exact ⟨⟨k + 1, 8192, _, _, _, by omega, by go_num, rfl, HI6.out, HE.out.mono (by omega), KE.out⟩, by simp only [intOf]; omega⟩
        · have q4 : x < 8192 := by omega
          clear q1 q3
          have yE0 := HI6.out.e0
          have yE1 := HI6.out.e1
          by_cases hy : 8192 < y
          · obtain ⟨e, he⟩ : ∃ e : Nat, (e : Int) = y - 1 := ⟨(y - 1).toNat, by omega⟩
            have hin : In L' (e : Int) 3 := HI6.out.inn (by omega) (by omega)
            have cp := mput_one H6.out e 7 (by omega) (by omega) (by omega) (fun b hb => Nat.le_trans K6.out.size hb)
            unfold addr0 at cp
            have CP := Lib.hid cp; clear cp
            have HEE := Lib.hid he
            have he2 : e < 200000 := by omega
            have HIN := Lib.hid hin; clear hin he yE1
            go_wp2_with fail
            rw [← HEE.out]
            refine CP.out.mono ?_
            rintro _ w8 ⟨rfl, M8, st8, h8, m8, _, f8⟩
            obtain rfl := m8 ⟨3, HIN.out⟩
            have H8 := Lib.hid h8
            have K8 := Lib.hid (Fr.from_bl K6.out f8)
            clear h8 f8 CP H6 K6 m8
            have cs := store_one H8.out e 7 (can_of HIN.out) (by omega) (by omega) (fun b hb => Nat.le_trans K8.out.size hb)
            unfold addr0 at cs
            have CS := Lib.hid cs; clear cs
            go_wp2_with fail
            (try rw [← HEE.out])
            refine CS.out.mono ?_
            rintro _ w9 ⟨rfl, st9, h9, f9⟩
            have H9 := Lib.hid h9
            have K9 := Lib.hid (Fr.from_bl K8.out f9)
            clear h9 f9 CS H8 K8
            have cp := mput_one H9.out e 0 (by omega) (by omega) (by omega) (fun b hb => Nat.le_trans K9.out.size hb)
            unfold addr0 at cp
            have CP := Lib.hid cp; clear cp
            unfold faultV
            go_wp2_with fail
            (try rw [← HEE.out])
            refine CP.out.mono ?_
            rintro _ wA ⟨rfl, MA, stA, hA, mA, _, fA⟩
            obtain rfl := mA ⟨3, HIN.out⟩
            have HA := Lib.hid hA
            have KA := Lib.hid (Fr.from_bl K9.out fA)
            have HIA := Lib.hid (HI6.out.byte e)
            clear hA fA CP H9 K9 mA
            obtain ⟨u, hu⟩ : ∃ u : Nat, (u : Int) = ((y : Int) + 4095) / 4096 * 4096 := ⟨(((y : Int) + 4095) / 4096 * 4096).toNat, by omega⟩
            have hu1 := HIA.out.e1
            have hu2 : u ≤ at_ := by omega
            have cu := fun W => refUp_any y W (by omega) (by omega)
            rw [← hu] at cu
            have CU2 := Lib.hid cu; clear cu
            have HU := Lib.hid hu; clear hu hu1
            by_cases hua : u = at_
            · subst hua
              have cs := store_one HA.out u 1 (can_of ((HIA.out.pl u 3).2 ⟨rfl, .inr (by omega)⟩)) (by omega) (by omega) (fun b hb => Nat.le_trans KA.out.size hb)
              unfold addr0 at cs
              have CS := Lib.hid cs; clear cs
              go_wp2_with fail
              refine (CU2.out _).mono ?_
              rintro e w' ⟨rfl, rfl⟩
              go_wp2_with fail
              refine CS.out.mono ?_
              rintro e wE ⟨rfl, stE, hE, fE⟩
              have HE := Lib.hid hE
              have KE := Lib.hid (Fr.from_bl KA.out fE)
              have HIE := Lib.hid (HIA.out.wall u (Int.le_refl _) (putB 1 1))
              clear hE fE CS HA HIA KA
              unfold faultV
              go_wp2_with fail
              refine (CU2.out _).mono ?_
              rintro e w' ⟨rfl, rfl⟩
              go_wp2_with fail
              exact ⟨⟨k + 1, y, _, _, stE, by omega, by go_num, rfl, HIE.out, HE.out.mono (by omega), KE.out⟩, by simp only [intOf]; omega⟩
            · have hno : ¬ Can L' 2 (u : Int) := fun ⟨q, hq, _⟩ => by
                have := (HIA.out.pl u q).1 hq
                have := HU.out
                omega
              have cs := store_not HA.out u 1 hno (by omega) (by omega) (fun b hb => Nat.le_trans KA.out.size hb)
              unfold addr0 at cs
              have CS := Lib.hid cs; clear cs hno hua
              go_wp2_with fail
              refine (CU2.out _).mono ?_
              rintro e w' ⟨rfl, rfl⟩
              go_wp2_with fail
              refine CS.out.mono ?_
              rintro e wE ⟨rfl, kE⟩
              have HE := Lib.hid (HA.out.bl kE)
              have KE := Lib.hid (KA.out.trans kE)
              clear kE CS HA KA
              unfold faultV
              go_wp2_with fail
              exact ⟨⟨k + 1, y, _, _, _, by omega, by go_num, rfl, HIA.out, HE.out.mono (by omega), KE.out⟩, by simp only [intOf]; omega⟩
          · have hy2 : y = 8192 := by omega
            clear hy yE0
            subst hy2
            obtain ⟨u, hu⟩ : ∃ u : Nat, (u : Int) = ((8192 : Int) + 4095) / 4096 * 4096 := ⟨(((8192 : Int) + 4095) / 4096 * 4096).toNat, by omega⟩
            have hu1 := HI6.out.e1
            have hu2 : u ≤ at_ := by omega
            have cu := fun W => refUp_any 8192 W (by omega) (by omega)
            rw [← hu] at cu
            have CU2 := Lib.hid cu; clear cu
            have HU := Lib.hid hu; clear hu hu1
            by_cases hua : u = at_
            · subst hua
              have cs := store_one H6.out u 1 (can_of ((HI6.out.pl u 3).2 ⟨rfl, .inr (by omega)⟩)) (by omega) (by omega) (fun b hb => Nat.le_trans K6.out.size hb)
              unfold addr0 at cs
              have CS := Lib.hid cs; clear cs
              go_wp2_with fail
              refine (CU2.out _).mono ?_
              rintro e w' ⟨rfl, rfl⟩
              go_wp2_with fail
              refine CS.out.mono ?_
              rintro e wE ⟨rfl, stE, hE, fE⟩
              have HE := Lib.hid hE
              have KE := Lib.hid (Fr.from_bl K6.out fE)
              have HIE := Lib.hid (HI6.out.wall u (Int.le_refl _) (putB 1 1))
              clear hE fE CS H6 HI6 K6
              unfold faultV
              go_wp2_with fail
              refine (CU2.out _).mono ?_
              rintro e w' ⟨rfl, rfl⟩
              go_wp2_with fail
              exact ⟨⟨k + 1, 8192, _, _, stE, by omega, by go_num, rfl, HIE.out, HE.out.mono (by omega), KE.out⟩, by simp only [intOf]; omega⟩
            · have hno : ¬ Can L' 2 (u : Int) := fun ⟨q, hq, _⟩ => by
                have := (HI6.out.pl u q).1 hq
                have := HU.out
                omega
              have cs := store_not H6.out u 1 hno (by omega) (by omega) (fun b hb => Nat.le_trans K6.out.size hb)
              unfold addr0 at cs
              have CS := Lib.hid cs; clear cs hno hua
              go_wp2_with fail
              refine (CU2.out _).mono ?_
              rintro e w' ⟨rfl, rfl⟩
              go_wp2_with fail
              refine CS.out.mono ?_
              rintro e wE ⟨rfl, kE⟩
              have HE := Lib.hid (H6.out.bl kE)
              have KE := Lib.hid (K6.out.trans kE)
              clear kE CS H6 K6
              unfold faultV
              go_wp2_with fail
              exact ⟨⟨k + 1, 8192, _, _, _, by omega, by go_num, rfl, HI6.out, HE.out.mono (by omega), KE.out⟩, by simp only [intOf]; omega⟩
    · by_cases g2 : k < len0
      · have g3 : k = 40 := by omega
        subst g3
        have g2I : (40 : Int) < (len0 : Int) := by omega
        clear hgo
        go_wp2_with fail
        go_ret
        exact ⟨rfl, HBL.out⟩
      · have g2I : (len0 : Int) ≤ (k : Int) := by omega
        clear hgo
        go_wp2_with fail
        go_ret
        exact ⟨rfl, HBL.out⟩
end Go.Proofs.Yteeheojjmdlmgaa
