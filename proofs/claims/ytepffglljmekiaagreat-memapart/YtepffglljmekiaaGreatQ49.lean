/-
  A call of both: calls 4, 5, 6.
-/
import Derived.Test.YtepffglljmekiaaGreatQ47
import Derived.Deep.CutRange
import Derived.Deep.CutBlock
set_option linter.unusedVariables false
set_option linter.unusedSimpArgs false
namespace Go.Proofs.YtepffglljmekiaaGreat
open Go.RowKit
set_option maxRecDepth 100000
set_option maxHeartbeats 16000000 in
theorem both_B {T : Nat → Prop} {w : World} {sb n : Nat} {L : List Rg} {M st : Nat → Int} {mo ba en : Int} (h : MS T w sb n L M st mo ba en) (hn : n < 8000000) (hT : ∀ b, w.heap.size ≤ b → T b) {rb : Nat} {b0 e0 : Int} (hra : RA w rb b0 e0) (hrb : ¬ T rb) (d m p ad sz : Int) (fx : Bool) (A : Option Addr) (len cap : Nat) (xs : List Int) (hr : Rd w A xs) (hl : xs.length = len) (hlc : len ≤ cap) (hc : A = none → cap = 0) (hb : ∀ k, 0 ≤ xs.getD k 0 ∧ xs.getD k 0 ≤ 255) (hnT : 0 < len → ∀ ad, A = some ad → ¬ T ad.block) (hlen : len ≤ 6000) (had : Wd ad) (hsz : Wd sz) (hgrp : d = 4 ∨ d = 5 ∨ d = 6) :
    Calls Tryz.prog 10 #[addr0 sb, addr0 rb, .agg #[.int .i64 d, .int .i64 m, .int .i64 p, .int .u64 ad, .int .u64 sz, .bool fx, .slice A len cap]] w fun r w' => (∃ s t, r = .returned (.tuple #[.string s, .string t])) ∧ Left T sb n L M st mo (Quiet d) w' ∧ Fr (plus T rb) w w' := by
  have HG := Lib.hid hgrp; clear hgrp
  have cp := fun W => place_any ad W had.1 had.2
  have CP := Lib.hid cp; clear cp
  obtain ⟨z0, z1⟩ := hsz
  obtain ⟨a0, a1⟩ := had
  unfold addr0
  go_enter Tryz.func10, Tryz.ntmps10
  go_wp2_with fail
  refine (CP.out _).mono ?_
  rintro e w' ⟨a, rfl, ha, rfl⟩
  clear CP
  have k1 := Bl.new w (.cells #[.int .i64 d, .int .i64 m, .int .i64 p, .int .u64 ad, .int .u64 sz, .bool fx, .slice A len cap] 29)
  have hb1 := heap_alloc_new w (.cells #[.int .i64 d, .int .i64 m, .int .i64 p, .int .u64 ad, .int .u64 sz, .bool fx, .slice A len cap] 29)
  have hs1 : (w.alloc (.cells #[.int .i64 d, .int .i64 m, .int .i64 p, .int .u64 ad, .int .u64 sz, .bool fx, .slice A len cap] 29)).heap.size = w.heap.size + 1 := by simp
  generalize w.alloc (.cells #[.int .i64 d, .int .i64 m, .int .i64 p, .int .u64 ad, .int .u64 sz, .bool fx, .slice A len cap] 29) = W1 at *
  have c0 : W1.cell? ⟨w.heap.size, 0, none⟩ = some (.int .i64 d) := by simp [World.cell?, hb1]
  have c3 : W1.cell? ⟨w.heap.size, 3, none⟩ = some (.int .u64 ad) := by simp [World.cell?, hb1]
  have c4 : W1.cell? ⟨w.heap.size, 4, none⟩ = some (.int .u64 sz) := by simp [World.cell?, hb1]
  have K1 := Lib.hid k1; clear k1
  have HB1 := Lib.hid hb1; clear hb1
  have HS1 := Lib.hid hs1; clear hs1
  have H := Lib.hid h; clear h
  have HT := Lib.hid hT; clear hT
  have HRA := Lib.hid hra; clear hra
  have HRB := Lib.hid hrb; clear hrb
  have HR := Lib.hid hr; clear hr
  have HL := Lib.hid hl; clear hl
  have HC := Lib.hid hc; clear hc
  have HBB := Lib.hid hb; clear hb
  have HNT := Lib.hid hnT; clear hnT
  go_upto_if 32 with (fail)
  go_cut [9] from 33 to 35 (fun v wx => ∃ z : Int, v = .int .u64 z ∧ 0 ≤ z ∧ z ≤ 18446744073709551615 ∧ W1 = wx)
  case first =>
    by_cases hz : 0 < sz % 16
    · go_wp2_with fail
      go_meet
      case rel => exact ⟨_, rfl, by omega, by omega, rfl⟩
    · have hz2 : sz % 16 ≤ 0 := by omega
      clear hz
      go_wp2_with fail
      go_meet
      case rel => exact ⟨_, rfl, by omega, by omega, rfl⟩
  case rest =>
  obtain ⟨z, rfl, y0, y1, rfl⟩ := hcut
  have haI : (a : Int) ≤ 18446744073709551615 := by omega
  go_upto_region 5 with (fail)
  go_cut [44] from 36 to 44 (fun v wx => ∃ t : Bool, v = .bool t ∧ W1 = wx)
  case first =>
    by_cases hd : d ≤ 3
    · have hd2 : decide (d ≤ 3) = true := by simp [hd]
      go_wp2_with fail
      go_meet
      case rel => exact ⟨_, rfl, rfl⟩
    · have hd2 : decide (d ≤ 3) = false := by simp; omega
      clear hd
      go_wp2_with fail
      go_meet
      case rel => exact ⟨_, rfl, rfl⟩
  case rest =>
  obtain ⟨t, rfl, rfl⟩ := hcut
  go_upto_if 44 with (fail)
  go_cut [8] from 45 to 47 (fun v wx => ∃ a : Nat, v = .int .u64 (a : Int) ∧ a < 2 ^ 64 ∧ W1 = wx)
  case first =>
    rcases t with _ | _
    · go_wp2_with fail
      go_meet
      case rel => exact ⟨a, rfl, ha, rfl⟩
    · go_wp2_with fail
      go_meet
      case rel => exact ⟨a / 4096 * 4096, congrArg (Value.int .u64) (by omega), by omega, rfl⟩
  case rest =>
  clear ha haI
  obtain ⟨a, rfl, ha, rfl⟩ := hcut
  go_upto_region 11 with (fail)
  have hz8 : W1.heap.size = w.heap.size + 1 := HS1.out
  obtain ⟨W3, hW3⟩ : ∃ W3, W3 = (W1.alloc (.cells #[.int .i64 0, .int .u64 0] 50)).alloc (.cells #[.int .i64 0, .int .u64 0] 50) := ⟨_, rfl⟩
  rw [← hW3]
  have kW3 : Bl W1 W3 := by rw [hW3]; exact ((Bl.refl _).alloc _).alloc _
  have hdis := dis_of HT.out HRB.out
  have hat : At T (gap T w.heap.size (w.heap.size + 3)) w sb n L M st mo ba en rb w.heap.size #[.int .i64 d, .int .i64 m, .int .i64 p, .int .u64 ad, .int .u64 sz, .bool fx, .slice A len cap] W3 := by
    refine ⟨H.out.gap (K1.out.trans kW3) _ _ (Nat.le_refl _), ⟨b0, e0, HRA.out.bl (K1.out.trans kW3)⟩, kW3.at_ HB1.out, ?_, ?_, Fr.of_bl (K1.out.trans kW3)⟩
    · have := (Bl.new (W1.alloc (.cells #[.int .i64 0, .int .u64 0] 50)) (.cells #[.int .i64 0, .int .u64 0] 50)).at_ (heap_alloc_new W1 (.cells #[.int .i64 0, .int .u64 0] 50))
      rw [hz8] at this
      rw [hW3]; exact this
    · have := heap_alloc_new (W1.alloc (.cells #[.int .i64 0, .int .u64 0] 50)) (.cells #[.int .i64 0, .int .u64 0] 50)
      rw [show (W1.alloc (.cells #[.int .i64 0, .int .u64 0] 50)).heap.size = w.heap.size + 2 by simp [hz8]] at this
      rw [hW3]; exact this
  rw [hz8]
  clear hW3 hz8 c0 c3 c4 HS1 HB1 a0 a1 z0 z1
  have hap := fun h0 => bytes_apart HR.out HRA.out h0
  have HAP := Lib.hid hap; clear hap
  clear kW3 K1
  clear W1
  rw [show w.heap.size + 1 + 1 = w.heap.size + 2 from rfl]
  have cz := hat.loc.cells.1
  go_upto_block 0 with (fail)
  clear cz
  go_cut [10, 11, 12, 13, 14, 15] from 18 to 283 (SwR T (gap T w.heap.size (w.heap.size + 3)) w sb n L M st mo (Quiet d) rb w.heap.size #[.int .i64 d, .int .i64 m, .int .i64 p, .int .u64 ad, .int .u64 sz, .bool fx, .slice A len cap])
  case' first =>
    rcases HG.out with hd4 | hd5 | hd6
    · subst hd4
      have hnq : ¬ Quiet 4 := by unfold Quiet; decide
      obtain ⟨c0, c1, c2, c3, c4, c5, c6⟩ := hat.loc.cells
      go_wp2_with fail
      refine (bBrk (q := Quiet 4) hdis hat hnq (by omega) a).mono ?_
      rintro e W5 ⟨⟨x, rfl, hx⟩, hA⟩
      clear c0 c1 c2 c3 c4 c5 c6
      obtain ⟨c0, c1, c2, c3, c4, c5, c6⟩ := hA.loc.cells
      go_wp2_with fail
      refine (qBrk hdis hA a ha).mono ?_
      rintro e W6 ⟨⟨y, rfl, hy⟩, hA2⟩
      clear c0 c1 c2 c3 c4 c5 c6
      go_wp2_with fail
      go_meet
      case rel => exact ⟨_, _, _, _, _, _, _, _, _, _, _, _, _, _, rfl, rfl, rfl, rfl, rfl, rfl, hA2, .none_ hx Wd.zero, .none_ hy Wd.zero⟩
    · subst hd5
      obtain ⟨c0, c1, c2, c3, c4, c5, c6⟩ := hat.loc.cells
      go_wp2_with fail
      refine (bLoad (q := Quiet 5) hat a m ha).mono ?_
      rintro e W5 ⟨⟨y, k, x, rfl, hy, hx⟩, hA⟩
      clear c0 c1 c2 c3 c4 c5 c6
      unfold faultV
      obtain ⟨g0, g1, g2, g3, g4, g5, g6, g7⟩ := hA.loc.faults
      go_upto_region 23 with (fail)
      have hA1 := hA.setG hdis k x
      generalize (W5.setCell ⟨w.heap.size + 1, 0, none⟩ (.int .i64 k)).setCell ⟨w.heap.size + 1, 1, none⟩ (.int .u64 x) = W7 at *
      clear hA g0 g1 g2 g3 g4 g5 g6 g7
      obtain ⟨c0, c1, c2, c3, c4, c5, c6⟩ := hA1.loc.cells
      obtain ⟨g0, g1, g2, g3, g4, g5, g6, g7⟩ := hA1.loc.faults
      go_wp2_with fail
      refine (qLoad hdis hA1 a m ha).mono ?_
      rintro e W6 ⟨rfl, hA2⟩
      clear c0 c1 c2 c3 c4 c5 c6
      clear g0 g1 g2 g3 g4 g5 g6 g7
      unfold faultV
      obtain ⟨g0, g1, g2, g3, g4, g5, g6, g7⟩ := hA2.loc.faults
      have hA3 := hA2.setH hdis 1 a
      go_wp2_with fail
      go_meet
      case rel => exact ⟨_, _, _, _, _, _, _, _, _, _, _, _, _, _, rfl, rfl, rfl, rfl, rfl, rfl, hA3, .none_ hy hx, .none_ Wd.zero (Wd.nat ha)⟩
    · subst hd6
      have hnq : ¬ Quiet 6 := by unfold Quiet; decide
      obtain ⟨c0, c1, c2, c3, c4, c5, c6⟩ := hat.loc.cells
      have hS := (show W3.cell? ⟨w.heap.size, 1, none⟩ = some (.int .i64 m) ∧ W3.cell? ⟨w.heap.size, 4, none⟩ = some (.int .u64 sz) from ⟨c1, c4⟩)
      go_wp2_with fail
      go_region_held3 (fun w' => w'.cell? ⟨w.heap.size, 1, none⟩ = some (.int .i64 m) ∧ w'.cell? ⟨w.heap.size, 4, none⟩ = some (.int .u64 sz)) (first | assumption | exact hS | go_keep) (first | (go_at_call 23; refine (bStore (q := Quiet 6) hdis (hat.bl ((Bl.refl W3).drewN 1)) hnq (by omega) a m sz ha).mono ?_; rintro e W5 ⟨⟨k, x, rfl, hx⟩, hA⟩; (try unfold faultV); obtain ⟨c0, c1, c2, c3, c4, c5, c6⟩ := hA.loc.cells; obtain ⟨g0, g1, g2, g3, g4, g5, g6, g7⟩ := hA.loc.faults; have hS5 := (show W5.cell? ⟨w.heap.size, 1, none⟩ = some (.int .i64 m) ∧ W5.cell? ⟨w.heap.size, 4, none⟩ = some (.int .u64 sz) from ⟨c1, c4⟩)) | (go_at_call 39; refine (qStore hdis hA a m sz ha).mono ?_; rintro e W6 ⟨rfl, hA2⟩; (try unfold faultV); obtain ⟨c0, c1, c2, c3, c4, c5, c6⟩ := hA2.loc.cells; obtain ⟨g0, g1, g2, g3, g4, g5, g6, g7⟩ := hA2.loc.faults; have hS6 := (show W6.cell? ⟨w.heap.size, 1, none⟩ = some (.int .i64 m) ∧ W6.cell? ⟨w.heap.size, 4, none⟩ = some (.int .u64 sz) from ⟨c1, c4⟩)))
      all_goals (
        have hA3 := (hA2.setG hdis k x).setH hdis 2 a
        go_wp2_with fail
        go_meet
        case rel => exact ⟨_, _, _, _, _, _, _, _, _, _, _, _, _, _, rfl, rfl, rfl, rfl, rfl, rfl, hA3, .none_ Wd.zero hx, .none_ Wd.zero (Wd.nat ha)⟩)
  case' rest =>
    obtain ⟨A1, l1, d1, A2, l2, d2, x, y, e, f, k1, x1, k2, x2, rfl, rfl, rfl, rfl, rfl, rfl, hAft, t1, t2⟩ := hcut
    obtain ⟨g0, g1, g2, g3, g4, g5, g6, g7⟩ := hAft.loc.faults
    obtain ⟨ys, yr, yl⟩ := t1.rd
    obtain ⟨zs, zr, zl⟩ := t2.rd
    have ct1 := fun W (kW : Bl wc W) => told_any (w := W) x e k1 x1 A1 l1 d1 ys t1.wx.1 t1.wx.2 t1.wa.1 t1.wa.2 t1.pl (yr.below kW) yl t1.le
    have ct2 := fun W (kW : Bl wc W) => told_any (w := W) y f k2 x2 A2 l2 d2 zs t2.wx.1 t2.wx.2 t2.wa.1 t2.wa.2 t2.pl (zr.below kW) zl t2.le
    unfold faultV at ct1 ct2
    have CT1 := Lib.hid ct1; clear ct1
    have CT2 := Lib.hid ct2; clear ct2
    have HA := Lib.hid hAft; clear hAft
    clear t1 t2 yr yl zr zl g4 g5 g6 g7 hat
    generalize hab : w.heap.size = ab at *
    have HAB := Lib.hid hab; clear hab
    have hS : wc.cell? ⟨ab + 1, 0, none⟩ = some (.int .i64 k1) ∧ wc.cell? ⟨ab + 1, 1, none⟩ = some (.int .u64 x1) ∧ wc.cell? ⟨ab + 2, 0, none⟩ = some (.int .i64 k2) ∧ wc.cell? ⟨ab + 2, 1, none⟩ = some (.int .u64 x2) ∧ Bl wc wc := ⟨g0, g1, g2, g3, Bl.refl _⟩
    clear g0 g1 g2 g3
    go_wp2_with fail
    go_region_held3 (fun w' => w'.cell? ⟨ab + 1, 0, none⟩ = some (.int .i64 k1) ∧ w'.cell? ⟨ab + 1, 1, none⟩ = some (.int .u64 x1) ∧ w'.cell? ⟨ab + 2, 0, none⟩ = some (.int .i64 k2) ∧ w'.cell? ⟨ab + 2, 1, none⟩ = some (.int .u64 x2) ∧ Bl wc w') (first | assumption | exact keepG hS ((Bl.refl wc).drewN 1)) (first | (go_at_call 49; with_reducible refine (CT1.out _ (blG (by assumption))).mono ?_; rintro e w9 ⟨⟨s, rfl⟩, k9⟩; have hkk := keepG (by assumption) k9) | (go_at_call 49; with_reducible refine (CT2.out _ (blG (by assumption))).mono ?_; rintro e w9 ⟨⟨s2, rfl⟩, k9⟩; have hkk := keepG (by assumption) k9))
    all_goals (
      have HK := Lib.hid hkk.2.2.2.2
      clear hkk
      go_wp2_with fail
      go_ret2
      exact ⟨⟨_, _, rfl⟩, HA.out.left.bl_un HK.out, HA.out.loc.fr.trans (Fr.of_bl HK.out)⟩)
end Go.Proofs.YtepffglljmekiaaGreat
