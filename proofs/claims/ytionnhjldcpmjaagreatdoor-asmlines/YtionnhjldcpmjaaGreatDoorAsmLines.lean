/-
  Law AsmLines: for all words and numbers the law returns true: the bytes of lines are those of each line, one behind the other. Tied card; the listed variables are those of the program text.
-/
import Derived.Test.YtionnhjldcpmjaaGreatDoorPackW
import Derived.Test.YtionnhjldcpmjaaGreatDoorRefTy
import Derived.Test.YtionnhjldcpmjaaGreatDoorTie
import Derived.Test.YtionnhjldcpmjaaGreatDoorCards
import Derived.SevenTiedAt
set_option linter.unusedVariables false
set_option linter.unusedSimpArgs false
namespace Go.Proofs.YtionnhjldcpmjaaGreatDoor
open Go.RowKit

open Go.ChangeShapes Go.WideShapes Go.ChangeAt
theorem laidOut : laidOutB Tryz.prog = true := by kernel_rfl
/-- The names of data, as the law lays them. -/
def dataV : Array Value := #[.string ⟨#[46, 98, 121, 116, 101, 32]⟩, .string ⟨#[46, 104, 97, 108, 102, 32]⟩, .string ⟨#[46, 119, 111, 114, 100, 32]⟩, .string ⟨#[46, 100, 119, 111, 114, 100, 32]⟩]
theorem dataV_at0 (u : World) : (u.alloc (.cells #[.string ⟨#[46, 98, 121, 116, 101, 32]⟩, .string ⟨#[46, 104, 97, 108, 102, 32]⟩, .string ⟨#[46, 119, 111, 114, 100, 32]⟩, .string ⟨#[46, 100, 119, 111, 114, 100, 32]⟩] 9)).cell? ⟨u.heap.size, 0, none⟩ = some (.string ⟨#[46, 98, 121, 116, 101, 32]⟩) := by
  rw [World.cell?_alloc_new]
  rfl
theorem dataV_at1 (u : World) : (u.alloc (.cells #[.string ⟨#[46, 98, 121, 116, 101, 32]⟩, .string ⟨#[46, 104, 97, 108, 102, 32]⟩, .string ⟨#[46, 119, 111, 114, 100, 32]⟩, .string ⟨#[46, 100, 119, 111, 114, 100, 32]⟩] 9)).cell? ⟨u.heap.size, 1, none⟩ = some (.string ⟨#[46, 104, 97, 108, 102, 32]⟩) := by
  rw [World.cell?_alloc_new]
  rfl
theorem dataV_at2 (u : World) : (u.alloc (.cells #[.string ⟨#[46, 98, 121, 116, 101, 32]⟩, .string ⟨#[46, 104, 97, 108, 102, 32]⟩, .string ⟨#[46, 119, 111, 114, 100, 32]⟩, .string ⟨#[46, 100, 119, 111, 114, 100, 32]⟩] 9)).cell? ⟨u.heap.size, 2, none⟩ = some (.string ⟨#[46, 119, 111, 114, 100, 32]⟩) := by
  rw [World.cell?_alloc_new]
  rfl
theorem dataV_at3 (u : World) : (u.alloc (.cells #[.string ⟨#[46, 98, 121, 116, 101, 32]⟩, .string ⟨#[46, 104, 97, 108, 102, 32]⟩, .string ⟨#[46, 119, 111, 114, 100, 32]⟩, .string ⟨#[46, 100, 119, 111, 114, 100, 32]⟩] 9)).cell? ⟨u.heap.size, 3, none⟩ = some (.string ⟨#[46, 100, 119, 111, 114, 100, 32]⟩) := by
  rw [World.cell?_alloc_new]
  rfl
theorem bl_undrew {w w' : World} (k : Bl w.drew w') : Bl w w' := ⟨k.os, k.tape, k.output, k.size, k.block⟩
theorem bl_wr (w : World) {w' : World} (k : Bl w.drew w') : Bl w w' := bl_undrew k
theorem bl_wa (w : World) {w' : World} {c : Array Value} {t : TypeId} (k : Bl (w.alloc (.cells c t)).drew w') : Bl w w' := ((Bl.refl w).alloc c t).trans (bl_undrew k)

set_option maxRecDepth 100000 in
set_option maxHeartbeats 8000000 in
/-- The law's text returns true. -/
theorem asmLines_walk (Ax : Option Addr) (lx cx : Nat) (zx : List Int) (Ay : Option Addr) (ly cy : Nat) (zy : List Int) (ends : Bool) (a : Addr) (w : World) (hE : Env a w) (hx : RowK .u32 w Ax lx zx) (hy : RowK .u64 w Ay ly zy) :
    Calls Tryz.prog 6 #[.slice Ax lx cx, .slice Ay ly cy, .bool ends] w fun e w' => e = .returned (.bool true) ∧ Bl w w' := by
  by_cases hbx : (200 : Int) < (lx : Int)
  · have hA := answers_any a w hE
    have hA2 := fun w hE => answers_any a w hE
    have HA2 := Lib.hid hA2
    have HE := Lib.hid hE
    clear hE hA2 hx hy
    go_enter Tryz.func6, Tryz.ntmps6
    go_wp2_with fail
    refine hA.mono ?_
    rintro e w1 ⟨rfl, k1⟩
    have K1 := Lib.hid k1
    clear k1 hA
    go_wp2_with fail
    refine (HA2.out _ (HE.out.bl K1.out)).mono ?_
    rintro e w2 ⟨rfl, k2⟩
    have K2 := Lib.hid (K1.out.trans k2)
    clear k2
    go_wp2
    go_ret
    exact ⟨rfl, K2.out⟩
  by_cases hby : (200 : Int) < (ly : Int)
  · have hA := answers_any a w hE
    have hA2 := fun w hE => answers_any a w hE
    have HA2 := Lib.hid hA2
    have HE := Lib.hid hE
    clear hE hA2 hx hy
    go_enter Tryz.func6, Tryz.ntmps6
    go_wp2_with fail
    refine hA.mono ?_
    rintro e w1 ⟨rfl, k1⟩
    have K1 := Lib.hid k1
    clear k1 hA
    go_wp2_with fail
    refine (HA2.out _ (HE.out.bl K1.out)).mono ?_
    rintro e w2 ⟨rfl, k2⟩
    have K2 := Lib.hid (K1.out.trans k2)
    clear k2
    go_wp2
    go_ret
    exact ⟨rfl, K2.out⟩
  have hA := answers_any a w hE
  have HE := Lib.hid hE
  have HX := Lib.hid hx
  have HY := Lib.hid hy
  have hlx : lx ≤ 200 := by omega
  have hly : ly ≤ 200 := by omega
  clear hE hx hy
  go_enter Tryz.func6, Tryz.ntmps6
  go_wp2_with fail
  refine hA.mono ?_
  rintro e w1 ⟨rfl, k1⟩
  have K1 := Lib.hid k1
  clear k1 hA
  go_wp2_with fail
  go_loopw [7, 8, 9] (fun tv bv iv wr => ∃ (k : Nat) (t : List UInt8) (acc : List Int) (B : Option Addr) (c n : Nat), k ≤ lx ∧ tv = str t ∧ bv = .slice B n c ∧ iv = .int .i64 (k : Int) ∧ t.length ≤ 100 * k ∧ n ≤ 4 * k ∧ Hid (acc.length = n) ∧ Hid (Qd t acc) ∧ Hid (Rd wr B acc) ∧ Hid (B = none → c = 0) ∧ Hid (Bl w wr)) (fun tv bv iv wr => lx - (intOf iv).toNat)
  case atStart => exact ⟨0, [], [], none, 0, 0, by omega, rfl, rfl, rfl, by simp, by omega, Lib.hid rfl, Lib.hid Qd.nil, Lib.hid Rd.nil_, Lib.hid (fun _ => rfl), K1⟩
  case round =>
    obtain ⟨k, t, acc, B, c, n, hk, rfl, rfl, rfl, htl, hnl, HN, HQ, HRd, HC, KW⟩ := hrel
    by_cases hlt : k < lx
    · obtain ⟨b, off, hAx, hcell0, hwf⟩ := (HX.out.bl KW.out).2 k hlt
      subst hAx
      obtain ⟨s, hs, hsm⟩ := wf_nat hwf rfl
      have hs32 : s < 4294967296 := by have : IntKind.u32.max = 4294967295 := rfl; omega
      rw [hs] at hcell0
      have hcell := hcell0
      have hcl : ∀ w', Bl wr w' → w'.cell? ⟨b, off + k, none⟩ = some (.int .u32 (s : Int)) := fun w' hb => hb.cell hcell0
      have HCL := Lib.hid hcl
      have hkl : (k : Int) < (lx : Int) := by omega
      clear hcell0 hwf hs hsm hcl
      by_cases hw : opW s ≠ 0 ∧ opW s ≠ 85 ∧ opW s ≠ 86
      · obtain ⟨hB, hT⟩ := word_line s hs32 hw.1 hw.2.1 hw.2.2
        have hg := good_of hB
        have hop := dec_op hw.1
        have hD := ref_any s wr hs32
        have hR := fun w => refText_any (dec s) hg w
        have hTl := textL_len (dec s) hg.in64
        have n85 : (dec s).op ≠ 85 := by rw [hop]; exact hw.2.1
        have n86 : (dec s).op ≠ 86 := by rw [hop]; exact hw.2.2
        have q85 : ((dec s).op != 85) = true := by rw [bne_iff_ne]; exact n85
        have q86 : ((dec s).op != 86) = true := by rw [bne_iff_ne]; exact n86
        have hDD : Calls Tryz.prog 16 #[.int .u32 (s : Int)] wr fun e w' => e = .returned (.tuple #[.agg (dec s).cells, .bool true]) ∧ Kp none wr w' := by
          refine hD.mono ?_
          rintro e w' ⟨h1, h2⟩
          exact ⟨by rw [h1]; simp [hw.1], h2⟩
        generalize textL (dec s) = T at *
        generalize dec s = I at *
        obtain ⟨y1, hy1⟩ : ∃ z, z = t ++ T := ⟨_, rfl⟩
        obtain ⟨y2, hy2⟩ : ∃ z, z = y1 ++ [10] := ⟨_, rfl⟩
        have hl1 : y1.length = t.length + T.length := by rw [hy1, List.length_append]
        have hl2 : y2.length = y1.length + 1 := by rw [hy2]; simp
        have ad1 : ∀ w : World, (Op.stringOp .add ⟨t.toArray⟩ ⟨T.toArray⟩).run Tryz.prog w = .ok (str y1) w := by
          rw [hy1]
          exact add_run t T ⟨by omega, by omega⟩
        have ad2 : ∀ w : World, (Op.stringOp .add ⟨y1.toArray⟩ ⟨#[10]⟩).run Tryz.prog w = .ok (str y2) w := by
          rw [hy2]
          exact add_run y1 [10] ⟨by omega, by simp⟩
        have hQ2 : Qd y2 (acc ++ putB (s : Int) 4) := by
          rw [hy2, hy1]
          exact HQ.out.step hT
        have HQ2 := Lib.hid hQ2
        have HR2 := Lib.hid hR
        have hyl : y2.length ≤ 100 * (k + 1) := by omega
        clear hB hT hg hop hD hTl hw hQ2 hR hy1 hy2 hl1 hl2
        go_wp2_with fail
        refine hDD.mono ?_
        rintro e w2 ⟨rfl, k2⟩
        have k3 := (Bl.refl w2).alloc I.cells 28
        have K3 := Lib.hid (KW.out.trans (k2.bl.trans k3))
        have G3 := Lib.hid (k2.bl.trans k3)
        obtain ⟨b0, b1, b2, b3, b4, b5, b6⟩ := (Has.new w2 I.cells 28).seven
        clear k2 k3 hDD hcell
        go_wp2_with fail
        refine (HR2.out _).mono ?_
        rintro e w4 ⟨rfl, k4⟩
        have K4 := Lib.hid (K3.out.trans k4)
        have hcell := HCL.out _ (G3.out.trans k4)
        have HR4 := Lib.hid (HRd.out.below (G3.out.trans k4))
        clear k4 b0 b1 b2 b3 b4 b5 b6
        go_wp2_with fail
        refine (refPut_in B n c acc (s : Int) 4 _ HR4.out HN.out HC.out (by omega) (by omega) (by omega)).mono ?_
        rintro e w5 ⟨B5, c5, rfl, rd5, k5, hc5⟩
        have K5 := Lib.hid (K4.out.trans k5)
        have RD5 := Lib.hid rd5
        have HC5 := Lib.hid hc5
        clear k5 rd5 hc5 hcell
        go_wp2
        go_roundw
        case rel => exact ⟨k + 1, y2, acc ++ putB (s : Int) 4, B5, c5, n + 4, by omega, rfl, by go_num, by go_num, hyl, by omega, Lib.hid (by rw [List.length_append, putB_length, HN.out]), HQ2, RD5, HC5, K5⟩
        case measure => simp [intOf] <;> omega

      · by_cases h0 : opW s = 0
        · have hD := ref_any s wr hs32
          have hDD : Calls Tryz.prog 16 #[.int .u32 (s : Int)] wr fun e w' => e = .returned (.tuple #[.agg (dec s).cells, .bool false]) ∧ Kp none wr w' := by
            refine hD.mono ?_
            rintro e w' ⟨h1, h2⟩
            exact ⟨by rw [h1]; simp [h0], h2⟩
          clear hD h0 hw
          generalize dec s = I at *
          obtain ⟨y2, hy2⟩ : ∃ z, z = t ++ [10] := ⟨_, rfl⟩
          have hl2 : y2.length = t.length + 1 := by rw [hy2]; simp
          have ad2 : ∀ w : World, (Op.stringOp .add ⟨t.toArray⟩ ⟨#[10]⟩).run Tryz.prog w = .ok (str y2) w := by
            rw [hy2]
            exact add_run t [10] ⟨by omega, by simp⟩
          have hQ2 : Qd y2 acc := by
            have := HQ.out.step asmT_nil
            rw [hy2]
            simpa using this
          have HQ2 := Lib.hid hQ2
          have hyl : y2.length ≤ 100 * (k + 1) := by omega
          clear hQ2 hy2 hl2
          go_wp2_with fail
          refine hDD.mono ?_
          rintro e w2 ⟨rfl, k2⟩
          have k3 := (Bl.refl w2).alloc I.cells 28
          have K3 := Lib.hid (KW.out.trans (k2.bl.trans k3))
          have HR3 := Lib.hid (HRd.out.below (k2.bl.trans k3))
          obtain ⟨b0, b1, b2, b3, b4, b5, b6⟩ := (Has.new w2 I.cells 28).seven
          clear k2 k3 hDD hcell
          go_wp2
          go_roundw
          case rel => exact ⟨k + 1, y2, acc, B, c, n, by omega, rfl, rfl, by go_num, hyl, by omega, HN, HQ2, HR3, HC, K3⟩
          case measure => simp [intOf] <;> omega

        · have h8 : opW s = 85 ∨ opW s = 86 := by omega
          clear h0
          rcases h8 with h8 | h8
          · have hD := ref_any s wr hs32
            have hI : dec s = ⟨85, 0, 0, 0, 0, 0, 4⟩ := dec_fence s 85 h8 (by decide) hs32
            have hDD : Calls Tryz.prog 16 #[.int .u32 (s : Int)] wr fun e w' => e = .returned (.tuple #[.agg (I7 85 0 0 0 0 0 4), .bool true]) ∧ Kp none wr w' := by
              refine hD.mono ?_
              rintro e w' ⟨h1, h2⟩
              exact ⟨by rw [h1, hI]; simp [h8], h2⟩
            clear hD hI h8 hw
            obtain ⟨y2, hy2⟩ : ∃ z, z = t ++ [10] := ⟨_, rfl⟩
            have hl2 : y2.length = t.length + 1 := by rw [hy2]; simp
            have ad2 : ∀ w : World, (Op.stringOp .add ⟨t.toArray⟩ ⟨#[10]⟩).run Tryz.prog w = .ok (str y2) w := by
              rw [hy2]
              exact add_run t [10] ⟨by omega, by simp⟩
            have hQ2 : Qd y2 acc := by
              have := HQ.out.step asmT_nil
              rw [hy2]
              simpa using this
            have HQ2 := Lib.hid hQ2
            have hyl : y2.length ≤ 100 * (k + 1) := by omega
            clear hQ2 hy2 hl2
            go_wp2_with fail
            refine hDD.mono ?_
            rintro e w2 ⟨rfl, k2⟩
            have k3 := (Bl.refl w2).alloc (I7 85 0 0 0 0 0 4) 28
            have K3 := Lib.hid (KW.out.trans (k2.bl.trans k3))
            have HR3 := Lib.hid (HRd.out.below (k2.bl.trans k3))
            obtain ⟨b0, b1, b2, b3, b4, b5, b6⟩ := (Has.new w2 (I7 85 0 0 0 0 0 4) 28).seven
            clear k2 k3 hDD hcell
            go_wp2
            go_roundw
            case rel => exact ⟨k + 1, y2, acc, B, c, n, by omega, rfl, rfl, by go_num, hyl, by omega, HN, HQ2, HR3, HC, K3⟩
            case measure => simp [intOf] <;> omega

          · have hD := ref_any s wr hs32
            have hI : dec s = ⟨86, 0, 0, 0, 0, 0, 4⟩ := dec_fence s 86 h8 (by decide) hs32
            have hDD : Calls Tryz.prog 16 #[.int .u32 (s : Int)] wr fun e w' => e = .returned (.tuple #[.agg (I7 86 0 0 0 0 0 4), .bool true]) ∧ Kp none wr w' := by
              refine hD.mono ?_
              rintro e w' ⟨h1, h2⟩
              exact ⟨by rw [h1, hI]; simp [h8], h2⟩
            clear hD hI h8 hw
            obtain ⟨y2, hy2⟩ : ∃ z, z = t ++ [10] := ⟨_, rfl⟩
            have hl2 : y2.length = t.length + 1 := by rw [hy2]; simp
            have ad2 : ∀ w : World, (Op.stringOp .add ⟨t.toArray⟩ ⟨#[10]⟩).run Tryz.prog w = .ok (str y2) w := by
              rw [hy2]
              exact add_run t [10] ⟨by omega, by simp⟩
            have hQ2 : Qd y2 acc := by
              have := HQ.out.step asmT_nil
              rw [hy2]
              simpa using this
            have HQ2 := Lib.hid hQ2
            have hyl : y2.length ≤ 100 * (k + 1) := by omega
            clear hQ2 hy2 hl2
            go_wp2_with fail
            refine hDD.mono ?_
            rintro e w2 ⟨rfl, k2⟩
            have k3 := (Bl.refl w2).alloc (I7 86 0 0 0 0 0 4) 28
            have K3 := Lib.hid (KW.out.trans (k2.bl.trans k3))
            have HR3 := Lib.hid (HRd.out.below (k2.bl.trans k3))
            obtain ⟨b0, b1, b2, b3, b4, b5, b6⟩ := (Has.new w2 (I7 86 0 0 0 0 0 4) 28).seven
            clear k2 k3 hDD hcell
            go_wp2
            go_roundw
            case rel => exact ⟨k + 1, y2, acc, B, c, n, by omega, rfl, rfl, by go_num, hyl, by omega, HN, HQ2, HR3, HC, K3⟩
            case measure => simp [intOf] <;> omega

    · obtain rfl : k = lx := by omega
      clear hlt HX
      have htl2 : t.length ≤ 20000 := by omega
      have hnl2 : n ≤ 800 := by omega
      go_wp2_with fail
      go_loopw [7, 8, 12] (fun tv bv iv wr => ∃ (j : Nat) (t : List UInt8) (acc : List Int) (B : Option Addr) (c n : Nat), j ≤ ly ∧ tv = str t ∧ bv = .slice B n c ∧ iv = .int .i64 (j : Int) ∧ t.length ≤ 20000 + 40 * j ∧ n ≤ 800 + 8 * j ∧ Hid (acc.length = n) ∧ Hid (Qd t acc) ∧ Hid (Rd wr B acc) ∧ Hid (B = none → c = 0) ∧ Hid (Bl w wr)) (fun tv bv iv wr => ly - (intOf iv).toNat)
      case atStart => exact ⟨0, t, acc, B, c, n, by omega, rfl, rfl, rfl, by omega, by omega, HN, HQ, HRd, HC, KW⟩
      case round =>
        clear HN HQ HRd HC KW htl hnl htl2 hnl2
        obtain ⟨j, t, acc, B, c, n, hj, rfl, rfl, rfl, htl, hnl, HN, HQ, HRd, HC, KW⟩ := hrel
        by_cases hlt : j < ly
        · obtain ⟨b, off, hAy, hcell, hwf⟩ := (HY.out.bl KW.out).2 j hlt
          subst hAy
          obtain ⟨X, hs, hsm⟩ := wf_nat hwf rfl
          have hX64 : X < 18446744073709551616 := by have : IntKind.u64.max = 18446744073709551615 := rfl; omega
          rw [hs] at hcell
          have hjl : (j : Int) < (ly : Int) := by omega
          have hj4 : j % 4 = 0 ∨ j % 4 = 1 ∨ j % 4 = 2 ∨ j % 4 = 3 := by omega
          clear hwf hs hsm
          rcases hj4 with hj4 | hj4 | hj4 | hj4
          · have hr4 : (j : Int) % 4 = 0 := by omega
            obtain ⟨U, hU⟩ : ∃ U : Nat, (X : Int) % 256 = (U : Int) := ⟨((X : Int) % 256).toNat, by omega⟩
            have hUl : U < 256 := by omega
            have hUd := fun w => udec_any U (by omega) w
            have hdl := itoa_len' U (by omega)
            have hdt := data_1 U (by omega)
            generalize Lib.decDigits U = ds at *
            obtain ⟨y1, hy1⟩ : ∃ z, z = t ++ [46, 98, 121, 116, 101, 32] := ⟨_, rfl⟩
            obtain ⟨y2, hy2⟩ : ∃ z, z = y1 ++ ds := ⟨_, rfl⟩
            obtain ⟨y3, hy3⟩ : ∃ z, z = y2 ++ [10] := ⟨_, rfl⟩
            have hl1 : y1.length = t.length + 6 := by rw [hy1]; simp
            have hl2 : y2.length = y1.length + ds.length := by rw [hy2, List.length_append]
            have hl3 : y3.length = y2.length + 1 := by rw [hy3]; simp
            have ad1 : ∀ w : World, (Op.stringOp .add ⟨t.toArray⟩ ⟨#[46, 98, 121, 116, 101, 32]⟩).run Tryz.prog w = .ok (str y1) w := by
              rw [hy1]
              exact add_run t [46, 98, 121, 116, 101, 32] ⟨by omega, by simp⟩
            have ad2 : ∀ w : World, (Op.stringOp .add ⟨y1.toArray⟩ ⟨ds.toArray⟩).run Tryz.prog w = .ok (str y2) w := by
              rw [hy2]
              exact add_run y1 ds ⟨by omega, by omega⟩
            have ad3 : ∀ w : World, (Op.stringOp .add ⟨y2.toArray⟩ ⟨#[10]⟩).run Tryz.prog w = .ok (str y3) w := by
              rw [hy3]
              exact add_run y2 [10] ⟨by omega, by simp⟩
            have hQ3 : Qd y3 (acc ++ putB (U : Int) 1) := by
              have e : y3 = t ++ ([46, 98, 121, 116, 101, 32] ++ ds) ++ [10] := by rw [hy3, hy2, hy1]; simp
              rw [e]
              exact HQ.out.step hdt
            have HQ3 := Lib.hid hQ3
            have HUd := Lib.hid hUd
            have hyl : y3.length ≤ 20000 + 40 * (j + 1) := by omega
            clear hdl hdt hQ3 hUd hy1 hy2 hy3 hl1 hl2 hl3
            go_wp2
            go_region_with (first | (go_at_call 18; refine (HUd.out _).mono ?_; rintro e w9 ⟨rfl, k9⟩; (first | have hwq := bl_wr wr k9 | have hwq := bl_wa wr k9); (try have hc9 := (bl_undrew k9).cell (dataV_at0 _)); clear k9))
            all_goals (
              go_wp2_with fail
              refine (refPut_in B n c acc (U : Int) 1 _ (HRd.out.below (by first | exact hwq | exact hwq.alloc _ _)) HN.out HC.out (by omega) (by omega) (by omega)).mono ?_
              rintro e w5 ⟨B5, c5, rfl, rd5, k5, hc5⟩
              have K5 := Lib.hid (KW.out.trans (Bl.trans (by first | exact hwq | exact hwq.alloc _ _) k5))
              have RD5 := Lib.hid rd5
              have HC5 := Lib.hid hc5
              clear k5 rd5 hc5
              go_wp2
              go_roundw
              case rel => exact ⟨j + 1, y3, acc ++ putB (U : Int) 1, B5, c5, n + 1, by omega, rfl, by go_num, by go_num, hyl, by omega, Lib.hid (by rw [List.length_append, putB_length, HN.out]), HQ3, RD5, HC5, K5⟩
              case measure => simp [intOf] <;> omega)

          · have hr4 : (j : Int) % 4 = 1 := by omega
            obtain ⟨U, hU⟩ : ∃ U : Nat, (X : Int) % 65536 = (U : Int) := ⟨((X : Int) % 65536).toNat, by omega⟩
            have hUl : U < 65536 := by omega
            have hUd := fun w => udec_any U (by omega) w
            have hdl := itoa_len' U (by omega)
            have hdt := data_2 U (by omega)
            generalize Lib.decDigits U = ds at *
            obtain ⟨y1, hy1⟩ : ∃ z, z = t ++ [46, 104, 97, 108, 102, 32] := ⟨_, rfl⟩
            obtain ⟨y2, hy2⟩ : ∃ z, z = y1 ++ ds := ⟨_, rfl⟩
            obtain ⟨y3, hy3⟩ : ∃ z, z = y2 ++ [10] := ⟨_, rfl⟩
            have hl1 : y1.length = t.length + 6 := by rw [hy1]; simp
            have hl2 : y2.length = y1.length + ds.length := by rw [hy2, List.length_append]
            have hl3 : y3.length = y2.length + 1 := by rw [hy3]; simp
            have ad1 : ∀ w : World, (Op.stringOp .add ⟨t.toArray⟩ ⟨#[46, 104, 97, 108, 102, 32]⟩).run Tryz.prog w = .ok (str y1) w := by
              rw [hy1]
              exact add_run t [46, 104, 97, 108, 102, 32] ⟨by omega, by simp⟩
            have ad2 : ∀ w : World, (Op.stringOp .add ⟨y1.toArray⟩ ⟨ds.toArray⟩).run Tryz.prog w = .ok (str y2) w := by
              rw [hy2]
              exact add_run y1 ds ⟨by omega, by omega⟩
            have ad3 : ∀ w : World, (Op.stringOp .add ⟨y2.toArray⟩ ⟨#[10]⟩).run Tryz.prog w = .ok (str y3) w := by
              rw [hy3]
              exact add_run y2 [10] ⟨by omega, by simp⟩
            have hQ3 : Qd y3 (acc ++ putB (U : Int) 2) := by
              have e : y3 = t ++ ([46, 104, 97, 108, 102, 32] ++ ds) ++ [10] := by rw [hy3, hy2, hy1]; simp
              rw [e]
              exact HQ.out.step hdt
            have HQ3 := Lib.hid hQ3
            have HUd := Lib.hid hUd
            have hyl : y3.length ≤ 20000 + 40 * (j + 1) := by omega
            clear hdl hdt hQ3 hUd hy1 hy2 hy3 hl1 hl2 hl3
            go_wp2
            go_region_with (first | (go_at_call 18; refine (HUd.out _).mono ?_; rintro e w9 ⟨rfl, k9⟩; (first | have hwq := bl_wr wr k9 | have hwq := bl_wa wr k9); (try have hc9 := (bl_undrew k9).cell (dataV_at1 _)); clear k9))
            all_goals (
              go_wp2_with fail
              refine (refPut_in B n c acc (U : Int) 2 _ (HRd.out.below (by first | exact hwq | exact hwq.alloc _ _)) HN.out HC.out (by omega) (by omega) (by omega)).mono ?_
              rintro e w5 ⟨B5, c5, rfl, rd5, k5, hc5⟩
              have K5 := Lib.hid (KW.out.trans (Bl.trans (by first | exact hwq | exact hwq.alloc _ _) k5))
              have RD5 := Lib.hid rd5
              have HC5 := Lib.hid hc5
              clear k5 rd5 hc5
              go_wp2
              go_roundw
              case rel => exact ⟨j + 1, y3, acc ++ putB (U : Int) 2, B5, c5, n + 2, by omega, rfl, by go_num, by go_num, hyl, by omega, Lib.hid (by rw [List.length_append, putB_length, HN.out]), HQ3, RD5, HC5, K5⟩
              case measure => simp [intOf] <;> omega)

          · have hr4 : (j : Int) % 4 = 2 := by omega
            obtain ⟨U, hU⟩ : ∃ U : Nat, (X : Int) % 4294967296 = (U : Int) := ⟨((X : Int) % 4294967296).toNat, by omega⟩
            have hUl : U < 4294967296 := by omega
            have hUd := fun w => udec_any U (by omega) w
            have hdl := itoa_len' U (by omega)
            have hdt := data_4 U (by omega)
            generalize Lib.decDigits U = ds at *
            obtain ⟨y1, hy1⟩ : ∃ z, z = t ++ [46, 119, 111, 114, 100, 32] := ⟨_, rfl⟩
            obtain ⟨y2, hy2⟩ : ∃ z, z = y1 ++ ds := ⟨_, rfl⟩
            obtain ⟨y3, hy3⟩ : ∃ z, z = y2 ++ [10] := ⟨_, rfl⟩
            have hl1 : y1.length = t.length + 6 := by rw [hy1]; simp
            have hl2 : y2.length = y1.length + ds.length := by rw [hy2, List.length_append]
            have hl3 : y3.length = y2.length + 1 := by rw [hy3]; simp
            have ad1 : ∀ w : World, (Op.stringOp .add ⟨t.toArray⟩ ⟨#[46, 119, 111, 114, 100, 32]⟩).run Tryz.prog w = .ok (str y1) w := by
              rw [hy1]
              exact add_run t [46, 119, 111, 114, 100, 32] ⟨by omega, by simp⟩
            have ad2 : ∀ w : World, (Op.stringOp .add ⟨y1.toArray⟩ ⟨ds.toArray⟩).run Tryz.prog w = .ok (str y2) w := by
              rw [hy2]
              exact add_run y1 ds ⟨by omega, by omega⟩
            have ad3 : ∀ w : World, (Op.stringOp .add ⟨y2.toArray⟩ ⟨#[10]⟩).run Tryz.prog w = .ok (str y3) w := by
              rw [hy3]
              exact add_run y2 [10] ⟨by omega, by simp⟩
            have hQ3 : Qd y3 (acc ++ putB (U : Int) 4) := by
              have e : y3 = t ++ ([46, 119, 111, 114, 100, 32] ++ ds) ++ [10] := by rw [hy3, hy2, hy1]; simp
              rw [e]
              exact HQ.out.step hdt
            have HQ3 := Lib.hid hQ3
            have HUd := Lib.hid hUd
            have hyl : y3.length ≤ 20000 + 40 * (j + 1) := by omega
            clear hdl hdt hQ3 hUd hy1 hy2 hy3 hl1 hl2 hl3
            go_wp2
            go_region_with (first | (go_at_call 18; refine (HUd.out _).mono ?_; rintro e w9 ⟨rfl, k9⟩; (first | have hwq := bl_wr wr k9 | have hwq := bl_wa wr k9); (try have hc9 := (bl_undrew k9).cell (dataV_at2 _)); clear k9))
            all_goals (
              go_wp2_with fail
              refine (refPut_in B n c acc (U : Int) 4 _ (HRd.out.below (by first | exact hwq | exact hwq.alloc _ _)) HN.out HC.out (by omega) (by omega) (by omega)).mono ?_
              rintro e w5 ⟨B5, c5, rfl, rd5, k5, hc5⟩
              have K5 := Lib.hid (KW.out.trans (Bl.trans (by first | exact hwq | exact hwq.alloc _ _) k5))
              have RD5 := Lib.hid rd5
              have HC5 := Lib.hid hc5
              clear k5 rd5 hc5
              go_wp2
              go_roundw
              case rel => exact ⟨j + 1, y3, acc ++ putB (U : Int) 4, B5, c5, n + 4, by omega, rfl, by go_num, by go_num, hyl, by omega, Lib.hid (by rw [List.length_append, putB_length, HN.out]), HQ3, RD5, HC5, K5⟩
              case measure => simp [intOf] <;> omega)

          · have hr4 : (j : Int) % 4 = 3 := by omega
            obtain ⟨U, hUX⟩ : ∃ U : Nat, U = X := ⟨_, rfl⟩
            rw [← hUX] at hcell
            have hUl : U < 18446744073709551616 := by omega
            clear hUX
            have hUd := fun w => udec_any U (by omega) w
            have hdl := itoa_len' U (by omega)
            have hdt := data_8 U (by omega)
            generalize Lib.decDigits U = ds at *
            obtain ⟨y1, hy1⟩ : ∃ z, z = t ++ [46, 100, 119, 111, 114, 100, 32] := ⟨_, rfl⟩
            obtain ⟨y2, hy2⟩ : ∃ z, z = y1 ++ ds := ⟨_, rfl⟩
            obtain ⟨y3, hy3⟩ : ∃ z, z = y2 ++ [10] := ⟨_, rfl⟩
            have hl1 : y1.length = t.length + 7 := by rw [hy1]; simp
            have hl2 : y2.length = y1.length + ds.length := by rw [hy2, List.length_append]
            have hl3 : y3.length = y2.length + 1 := by rw [hy3]; simp
            have ad1 : ∀ w : World, (Op.stringOp .add ⟨t.toArray⟩ ⟨#[46, 100, 119, 111, 114, 100, 32]⟩).run Tryz.prog w = .ok (str y1) w := by
              rw [hy1]
              exact add_run t [46, 100, 119, 111, 114, 100, 32] ⟨by omega, by simp⟩
            have ad2 : ∀ w : World, (Op.stringOp .add ⟨y1.toArray⟩ ⟨ds.toArray⟩).run Tryz.prog w = .ok (str y2) w := by
              rw [hy2]
              exact add_run y1 ds ⟨by omega, by omega⟩
            have ad3 : ∀ w : World, (Op.stringOp .add ⟨y2.toArray⟩ ⟨#[10]⟩).run Tryz.prog w = .ok (str y3) w := by
              rw [hy3]
              exact add_run y2 [10] ⟨by omega, by simp⟩
            have hQ3 : Qd y3 (acc ++ putB (U : Int) 8) := by
              have e : y3 = t ++ ([46, 100, 119, 111, 114, 100, 32] ++ ds) ++ [10] := by rw [hy3, hy2, hy1]; simp
              rw [e]
              exact HQ.out.step hdt
            have HQ3 := Lib.hid hQ3
            have HUd := Lib.hid hUd
            have hyl : y3.length ≤ 20000 + 40 * (j + 1) := by omega
            clear hdl hdt hQ3 hUd hy1 hy2 hy3 hl1 hl2 hl3
            go_wp2
            go_region_with (first | (go_at_call 18; refine (HUd.out _).mono ?_; rintro e w9 ⟨rfl, k9⟩; (first | have hwq := bl_wr wr k9 | have hwq := bl_wa wr k9); (try have hc9 := (bl_undrew k9).cell (dataV_at3 _)); clear k9))
            all_goals (
              go_wp2_with fail
              refine (refPut_in B n c acc (U : Int) 8 _ (HRd.out.below (by first | exact hwq | exact hwq.alloc _ _)) HN.out HC.out (by omega) (by omega) (by omega)).mono ?_
              rintro e w5 ⟨B5, c5, rfl, rd5, k5, hc5⟩
              have K5 := Lib.hid (KW.out.trans (Bl.trans (by first | exact hwq | exact hwq.alloc _ _) k5))
              have RD5 := Lib.hid rd5
              have HC5 := Lib.hid hc5
              clear k5 rd5 hc5
              go_wp2
              go_roundw
              case rel => exact ⟨j + 1, y3, acc ++ putB (U : Int) 8, B5, c5, n + 8, by omega, rfl, by go_num, by go_num, hyl, by omega, Lib.hid (by rw [List.length_append, putB_length, HN.out]), HQ3, RD5, HC5, K5⟩
              case measure => simp [intOf] <;> omega)

        · obtain rfl : j = ly := by omega
          clear hlt HY
          cases ends with
          | true =>
            have hDone := HQ.out.done
            have hAs := fun w hE => asm_any t a w hE (by omega)
            rw [hDone] at hAs
            have HAs := Lib.hid hAs
            clear hAs hDone
            go_wp2_with fail
            refine (HAs.out _ (HE.out.bl KW.out)).mono ?_
            rintro e w5 ⟨⟨A5, c5, rfl, rd5, _⟩, k5⟩
            have K5 := Lib.hid (KW.out.trans k5)
            have RD5 := Lib.hid rd5
            have RDw := Lib.hid (HRd.out.below k5)
            rw [HN.out]
            clear k5 rd5
            go_wp2_with fail
            refine (same_big A5 B n c5 c acc _ RD5.out RDw.out HN.out (by omega)).mono ?_
            rintro e w6 ⟨rfl, m, rfl⟩
            go_wp2
            go_ret
            exact ⟨rfl, K5.out.drewN m⟩
          | false =>
            obtain ⟨y1, hy1⟩ : ∃ z, z = t ++ [101, 99, 97, 108, 108] := ⟨_, rfl⟩
            have hl1 : y1.length = t.length + 5 := by rw [hy1]; simp
            have ad1 : ∀ w : World, (Op.stringOp .add ⟨t.toArray⟩ ⟨#[101, 99, 97, 108, 108]⟩).run Tryz.prog w = .ok (str y1) w := by
              rw [hy1]
              exact add_run t [101, 99, 97, 108, 108] ⟨by omega, by simp⟩
            have hDone := HQ.out.last ecall_line
            rw [← hy1] at hDone
            have hAs := fun w hE => asm_any y1 a w hE (by omega)
            rw [hDone] at hAs
            have HAs := Lib.hid hAs
            clear hAs hDone hy1 hl1
            go_wp2_with fail
            refine (refPut_in B n c acc 115 4 _ HRd.out HN.out HC.out (by omega) (by omega) (by omega)).mono ?_
            rintro e w4 ⟨B4, c4, rfl, rd4, k4, _⟩
            have K4 := Lib.hid (KW.out.trans k4)
            have RD4 := Lib.hid rd4
            clear k4 rd4
            go_wp2_with fail
            refine (HAs.out _ (HE.out.bl K4.out)).mono ?_
            rintro e w5 ⟨⟨A5, c5, rfl, rd5, _⟩, k5⟩
            have K5 := Lib.hid (K4.out.trans k5)
            have RD5 := Lib.hid rd5
            have RDw := Lib.hid (RD4.out.below k5)
            have hln : (acc ++ putB 115 4).length = n + 4 := by rw [List.length_append, putB_length, HN.out]
            have HLN := Lib.hid hln
            rw [hln]
            clear k5 rd5 hln
            go_wp2_with fail
            refine (same_big A5 B4 (n + 4) c5 c4 (acc ++ putB 115 4) _ RD5.out RDw.out HLN.out (by omega)).mono ?_
            rintro e w6 ⟨rfl, m, rfl⟩
            go_wp2
            go_ret
            exact ⟨rfl, K5.out.drewN m⟩

set_option maxRecDepth 100000 in
theorem asmLines_lifted (os : Os) (started : os.Started) (H : Type) (enc : TypeId × Value → H) :
    ReturnsInHanded {} Tryz.checked os 6 .any (fun w args => (Rows.asmLinesSpec.pre enc Tryz.prog Tryz.f6 [] false w args ∧ laidMetH Tryz.prog laidA w) ∧ sizedMet enc Tryz.prog Tryz.f6 (OpenSpec.ofChange Rows.asmLinesSpec) false w args)
      (Rows.asmLinesSpec.post enc Tryz.prog Tryz.f6 false true false false) := by
  refine returnsIn_laid (C := Tryz.checked) (X := fun w _ => laidMetH Tryz.prog laidA w) (fun _ _ _ hh h => h.of_heap hh) own started (by kernel_rfl) Tryz.func6
    (ChangeSpec.witness_shaped (enc := enc) (C := Tryz.checked) (os := os) (X := fun w _ => laidMetH Tryz.prog laidA w) false (World.doorLaid Tryz.prog 181 os) #[.slice none 0 0, .slice none 0 0, .bool false] 8 rfl (World.shaped_of_RefB (by kernel_rfl) (by kernel_rfl)) (by kernel_rfl) (by kernel_rfl) (by kernel_rfl) (door_metA os _)) ?_
  intro W base args ds gs before hval0 hW hL hsh
  have hval : ∀ (j : Nat) t v, Tryz.f6.params[j]? = some t → args[j]? = some v → Value.okWide Tryz.prog W .any base t v := hval0
  have hW' := hW
  obtain ⟨p, q, hA0, hV, rfl, hfz, hnd⟩ := hW
  have hA : DataW.TrodAll enc Tryz.prog W 0 (fun _ => true) true Tryz.f6.params.toList args.toList ds p := hA0
  rw [Tryz.params6] at hA hval
  obtain ⟨v0, vs0, d0, ds0, p0, q0, hargs, rfl, rfl, h0, r0⟩ := trodAll_cons hA
  obtain ⟨v1, vs1, d1, ds1, p1, q1, rfl, rfl, rfl, h1, r1⟩ := trodAll_cons r0
  obtain ⟨v2, vs2, d2, ds2, p2, q2, rfl, rfl, rfl, h2, r2⟩ := trodAll_cons r1
  obtain ⟨rfl, rfl, rfl⟩ := trodAll_nil r2
  obtain rfl : args = #[v0, v1, v2] := by cases args; simp_all
  obtain ⟨rfl, rfl⟩ := trodVars_none hV
  obtain ⟨Ax, lx, cx, rfl⟩ := okWide_slice Tryz.underlying36 (hval 0 36 v0 rfl rfl)
  have k0 := h0
  have lt0 : ∀ x ∈ p0, x.block < W.heap.size := by obtain ⟨m, hm⟩ := k0; exact DataW.trod_lt m _ _ _ hm
  obtain ⟨zx, hx⟩ := open_row Tryz.underlying36 Tryz.underlying40 (by kernel_rfl) h0
  obtain ⟨Ay, ly, cy, rfl⟩ := okWide_slice Tryz.underlying37 (hval 1 37 v1 rfl rfl)
  have k1 := h1
  have lt1 : ∀ x ∈ p1, x.block < W.heap.size := by obtain ⟨m, hm⟩ := k1; exact DataW.trod_lt m _ _ _ hm
  obtain ⟨zy, hy⟩ := open_row Tryz.underlying37 Tryz.underlying42 (by kernel_rfl) h1
  obtain ⟨ends, rfl, rfl, rfl⟩ := open_bool Tryz.underlying4 (hval 2 4 v2 rfl rfl) h2
  obtain ⟨ae, hEn⟩ := of_laidA hL (some_max hsh)
  clear hA0 hval0
  have hC := asmLines_walk Ax lx cx zx Ay ly cy zy ends ae W hEn hx hy
  refine hC.mono fun e W' ⟨he, bel⟩ => ?_
  subst he
  exact ⟨_, rfl, _, _, _, [], _, [], hW', trodAll_mk1 (shut_bool Tryz.underlying4 _), (trodAll_cons_mk (Below.trod laidOut (by kernel_rfl) (of_decide_eq_true (by kernel_rfl)) k0 bel lt0) (trodAll_cons_mk (Below.trod laidOut (by kernel_rfl) (of_decide_eq_true (by kernel_rfl)) k1 bel lt1) (trodAll_cons_mk (shut_bool Tryz.underlying4 _) trodAll_mk0))), rfl, bel.frame _, fun h => by cases h⟩

theorem asmLines_row : Rows.AsmLinesSaid :=
  OpenClaim.holds_of_wide 6 Tryz.f6 rfl rfl rfl rfl rfl rfl rfl ⟨rfl, rfl, rfl, rfl, rfl⟩ rfl rfl rfl rfl rfl (by kernel_rfl) Tryz.func6 (by kernel_rfl)
    (of_decide_eq_true (by kernel_rfl)) (by unfold Func.isWrapper; first | (rw [if_pos (by decide +kernel)]; kernel_rfl) | (rw [if_neg (by decide +kernel)]; exact ⟨rfl, rfl⟩))
    (fun os started H enc _ => asmLines_lifted os started H enc)

/-- The statement: the tied card. -/
theorem asmLines_holds : Rows.AsmLinesCardSaid :=
  Claim7.holds_tied_plain_at .later [] _ true _ true
    asmLines_row (fun _ h => by cases h) (by kernel_rfl) (fun _ h => by cases h) asmLines_row_tie rfl ⟨rfl, rfl⟩ (by kernel_rfl) rfl
    (fun f fn hf hfn => by
      obtain rfl : f = 6 := Option.some.inj ((show Tryz.prog.funcNamed "marionette/marionettelaw05.AsmLines" = some 6 by kernel_rfl).symm.trans hf) |>.symm
      obtain rfl : fn = Tryz.f6 := (Option.some.inj (Tryz.func6.symm.trans hfn)).symm
      exact ⟨by kernel_rfl, fun j t ht => by
        rw [Tryz.params6] at ht
        have hm : t ∈ [36, 37, 4] := by simpa using Array.mem_of_getElem? ht
        have hall : ([36, 37, 4].all fun u => !Tryz.prog.wantsStandIn u) = true := by kernel_rfl
        exact (show Tryz.prog.wantsStandIn t = false by simpa using List.all_eq_true.1 hall t hm)⟩)
    (by kernel_rfl)
#print axioms asmLines_holds

end Go.Proofs.YtionnhjldcpmjaaGreatDoor
