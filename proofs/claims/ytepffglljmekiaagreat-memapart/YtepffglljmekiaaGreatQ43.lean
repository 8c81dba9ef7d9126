/-
  The reference's space without pages: Map, Brk.
-/
import Derived.Test.YtepffglljmekiaaGreatQ42
set_option linter.unusedVariables false
set_option linter.unusedSimpArgs false
namespace Go.Proofs.YtepffglljmekiaaGreat
open Go.RowKit
set_option maxRecDepth 100000

set_option maxHeartbeats 4000000 in
theorem rmap_any {w : World} {rb : Nat} {b en : Int} (h : RA w rb b en) (a size p : Int) (fx : Bool) (h0 : 0 ≤ a) (h00 : a ≤ 18446744073709551615) (h1 : 0 ≤ size) : Calls Tryz.prog 34 #[addr0 rb, .int .u64 a, .int .u64 size, .int .i64 p, .bool fx] w fun e w' => (∃ r, e = .returned (.tuple #[.int .u64 0, .int .i64 r])) ∧ Bl w w' := by
  by_cases hv : a % 4096 = 0 ∧ size ≠ 0 ∧ size ≤ 274877906944 ∧ 0 ≤ p ∧ p ≤ 7
  · obtain ⟨a1, a2, a3, a4, a5⟩ := hv
    have t1 : (a % 4096 != 0) = false := by simp [a1]
    have t2 : (size == 0) = false := by simp [a2]
    have t3 : decide (274877906944 < size) = false := by simp; omega
    have cw := rwhole_any a size w h0 h1
    have CW := Lib.hid cw; clear cw
    have cw2 := fun x (hx : 0 ≤ x) W => rwhole_any x size W hx h1
    have CW2 := Lib.hid cw2; clear cw2
    have clay := fun W s t (k : Bl w W) (hs0 : 0 ≤ s) (hs : Span s t) => rlay_no (h.bl k) s t p hs0 hs
    have CLAY := Lib.hid clay; clear clay
    have cfr := fun t (t0 : 0 ≤ t) (t1 : t ≤ 18446744073709551615) => rfree_any h a t h0 h00 t0 t1
    have CFR := Lib.hid cfr; clear cfr
    have crm := fun W (k : Bl w W) => rroom_any (h.bl k) size (by omega) a3
    have CRM := Lib.hid crm; clear crm h a1 a2
    unfold addr0 at *
    go_enter Tryz.func34, Tryz.ntmps34
    go_wp2_with fail
    refine CW.out.mono ?_
    rintro e w' ⟨t, ok, rfl, ht, rfl⟩
    obtain ⟨z0, z1, z2⟩ := ht
    rcases fx with _ | _
    · by_cases az : a = 0
      · subst az
        clear z2 CFR CW
        go_wp2_with fail
        refine (CRM.out _ (Bl.refl _)).mono ?_
        rintro e wR ⟨⟨x, found, rfl, x0, x1⟩, kR⟩
        have KR := Lib.hid (Bl.trans (Bl.refl _) kR); clear kR
        rcases found with _ | _
        · go_wp2_with fail
          go_ret2
          exact ⟨⟨12, rfl⟩, KR.out⟩
        · go_wp2_with fail
          refine (CW2.out x x0 _).mono ?_
          rintro e w' ⟨t2, ok2, rfl, ht2, rfl⟩
          obtain ⟨y0, y1, y2⟩ := ht2
          rcases ok2 with _ | _
          · go_wp2_with fail
            go_ret2
            exact ⟨⟨22, rfl⟩, KR.out⟩
          · have HS2 := Lib.hid (y2 rfl); clear y2
            go_wp2_with fail
            refine (CLAY.out _ _ _ KR.out x0 HS2.out).mono ?_
            rintro e w1 ⟨rfl, k⟩
            have K := Lib.hid (KR.out.trans k); clear k
            go_wp2_with fail
            go_ret2
            exact ⟨⟨12, rfl⟩, K.out⟩
      · have taz : (a == 0) = false := by simp [az]
        clear az CW
        rcases ok with _ | _
        · clear z2 CFR
          go_wp2_with fail
          refine (CRM.out _ (Bl.refl _)).mono ?_
          rintro e wR ⟨⟨x, found, rfl, x0, x1⟩, kR⟩
          have KR := Lib.hid (Bl.trans (Bl.refl _) kR); clear kR
          rcases found with _ | _
          · go_wp2_with fail
            go_ret2
            exact ⟨⟨12, rfl⟩, KR.out⟩
          · go_wp2_with fail
            refine (CW2.out x x0 _).mono ?_
            rintro e w' ⟨t2, ok2, rfl, ht2, rfl⟩
            obtain ⟨y0, y1, y2⟩ := ht2
            rcases ok2 with _ | _
            · go_wp2_with fail
              go_ret2
              exact ⟨⟨22, rfl⟩, KR.out⟩
            · have HS2 := Lib.hid (y2 rfl); clear y2
              go_wp2_with fail
              refine (CLAY.out _ _ _ KR.out x0 HS2.out).mono ?_
              rintro e w1 ⟨rfl, k⟩
              have K := Lib.hid (KR.out.trans k); clear k
              go_wp2_with fail
              go_ret2
              exact ⟨⟨12, rfl⟩, K.out⟩
        · have HS := Lib.hid (z2 rfl); clear z2
          go_wp2_with fail
          refine (CFR.out t z0 z1).mono ?_
          rintro e wF ⟨⟨v, rfl, _⟩, kF⟩
          have KF := Lib.hid kF; clear kF CFR
          rcases v with _ | _
          · go_wp2_with fail
            refine (CRM.out _ KF.out).mono ?_
            rintro e wR ⟨⟨x, found, rfl, x0, x1⟩, kR⟩
            have KR := Lib.hid (Bl.trans KF.out kR); clear kR
            rcases found with _ | _
            · go_wp2_with fail
              go_ret2
              exact ⟨⟨12, rfl⟩, KR.out⟩
            · go_wp2_with fail
              refine (CW2.out x x0 _).mono ?_
              rintro e w' ⟨t2, ok2, rfl, ht2, rfl⟩
              obtain ⟨y0, y1, y2⟩ := ht2
              rcases ok2 with _ | _
              · go_wp2_with fail
                go_ret2
                exact ⟨⟨22, rfl⟩, KR.out⟩
              · have HS2 := Lib.hid (y2 rfl); clear y2
                go_wp2_with fail
                refine (CLAY.out _ _ _ KR.out x0 HS2.out).mono ?_
                rintro e w1 ⟨rfl, k⟩
                have K := Lib.hid (KR.out.trans k); clear k
                go_wp2_with fail
                go_ret2
                exact ⟨⟨12, rfl⟩, K.out⟩
          · go_wp2_with fail
            refine (CLAY.out _ _ _ KF.out h0 HS.out).mono ?_
            rintro e w1 ⟨rfl, k⟩
            have K := Lib.hid (KF.out.trans k); clear k
            go_wp2_with fail
            go_ret2
            exact ⟨⟨12, rfl⟩, K.out⟩
    · rcases ok with _ | _
      · go_wp2_with fail
        go_ret2
        exact ⟨⟨22, rfl⟩, Bl.refl _⟩
      · have hs := z2 rfl
        have HS := Lib.hid hs; clear hs z2
        go_wp2_with fail
        refine (CLAY.out _ _ _ (Bl.refl _) h0 HS.out).mono ?_
        rintro e w1 ⟨rfl, k⟩
        have K := Lib.hid k; clear k
        go_wp2_with fail
        go_ret2
        exact ⟨⟨12, rfl⟩, K.out⟩
  · clear h
    unfold addr0
    by_cases a1 : a % 4096 = 0
    · have t1 : (a % 4096 != 0) = false := by simp [a1]
      by_cases a2 : size = 0
      · subst a2
        clear hv a1
        go_enter Tryz.func34, Tryz.ntmps34
        go_wp2_with fail
        go_ret2
        exact ⟨⟨22, rfl⟩, Bl.refl _⟩
      · have t2 : (size == 0) = false := by simp [a2]
        by_cases a3 : size ≤ 274877906944
        · have t3 : decide (274877906944 < size) = false := by simp; omega
          by_cases a4 : 0 ≤ p
          · have t4 : decide (p < 0) = false := by simp; omega
            have a5 : 7 < p := by omega
            clear hv a1 a2
            go_enter Tryz.func34, Tryz.ntmps34
            go_wp2_with fail
            go_ret2
            exact ⟨⟨22, rfl⟩, Bl.refl _⟩
          · have a4' : p < 0 := by omega
            clear hv a1 a2 a4
            go_enter Tryz.func34, Tryz.ntmps34
            go_wp2_with fail
            go_ret2
            exact ⟨⟨22, rfl⟩, Bl.refl _⟩
        · have t4 : 274877906944 < size := by omega
          clear hv a1 a2 a3
          go_enter Tryz.func34, Tryz.ntmps34
          go_wp2_with fail
          go_ret2
          exact ⟨⟨22, rfl⟩, Bl.refl _⟩
    · have t1 : (a % 4096 != 0) = true := by simp [a1]
      clear hv a1
      go_enter Tryz.func34, Tryz.ntmps34
      go_wp2_with fail
      go_ret2
      exact ⟨⟨22, rfl⟩, Bl.refl _⟩
set_option maxHeartbeats 4000000 in
theorem rbrk_any {w : World} {rb : Nat} {b en : Int} (h : RA w rb b en) (x : Int) (h0 : 0 ≤ x) (h1 : x ≤ 18446744073709551615) : Calls Tryz.prog 37 #[addr0 rb, .int .u64 x] w fun e w' => (∃ y, e = .returned (.int .u64 y) ∧ Wd y) ∧ (∃ b' e', RA w' rb b' e') ∧ Fr (only rb) w w' := by
  obtain ⟨c0, c1, c2, c3⟩ := h.cells
  have f3 := h.free 3
  have e0 := h.e0
  have e1 := h.e1
  have HB := Lib.hid (⟨h.b0, h.b1⟩ : 0 ≤ b ∧ b ≤ 274877906944)
  have hset : ∀ W, RA W rb b en → ∀ y, 0 ≤ y → y ≤ 274877906944 → RA (W.setCell ⟨rb, 3, none⟩ (.int .u64 y)) rb b y := fun W hW y y0 y1 => by
    refine hW.set ?_ hW.b0 hW.b1 y0 y1
    rw [heap_setCell_same W rb 3 _ 84 (.int .u64 y) hW.blk]; rfl
  have HSET := Lib.hid hset; clear hset
  unfold addr0
  by_cases x1 : x < b
  · have H := Lib.hid h; clear h
    go_enter Tryz.func37, Tryz.ntmps37
    go_wp2_with fail
    go_ret
    exact ⟨⟨en, rfl, ⟨e0, by omega⟩⟩, ⟨b, en, H.out⟩, Fr.refl _ _⟩
  have x11 : b ≤ x := by omega
  by_cases x2 : 274877906944 < x
  · have H := Lib.hid h; clear h x1
    go_enter Tryz.func37, Tryz.ntmps37
    go_wp2_with fail
    go_ret
    exact ⟨⟨en, rfl, ⟨e0, by omega⟩⟩, ⟨b, en, H.out⟩, Fr.refl _ _⟩
  have x22 : x ≤ 274877906944 := by omega
  have cu1 := fun W => rUp_any en W e0 e1
  have cu2 := fun W => rUp_any x W h0 x22
  obtain ⟨ue, hue⟩ : ∃ ue, ue = (en + 4095) / 4096 * 4096 := ⟨_, rfl⟩
  obtain ⟨ux, hux⟩ : ∃ ux, ux = (x + 4095) / 4096 * 4096 := ⟨_, rfl⟩
  rw [← hue] at cu1
  rw [← hux] at cu2
  have ue0 : 0 ≤ ue := by omega
  have ue1 : ue ≤ 274877906944 := by omega
  have ux0 : 0 ≤ ux := by omega
  have ux1 : ux ≤ 274877906944 := by omega
  have CU1 := Lib.hid cu1; clear cu1
  have CU2 := Lib.hid cu2; clear cu2
  have cfr := fun W (k : Bl w W) => rfree_any (h.bl k) ue ux ue0 (by omega) ux0 (by omega)
  have CFR := Lib.hid cfr; clear cfr
  have clay := fun W (k : Bl w W) (hs : Span ue ux) => rlay_no (h.bl k) ue ux 3 ue0 hs
  have CLAY := Lib.hid clay; clear clay
  have H := Lib.hid h
  have HD : Hid (ue % 4096 = 0 ∧ ux % 4096 = 0) := Lib.hid (by omega)
  clear hue hux x1 x2
  unfold addr0 at *
  rcases Int.lt_trichotomy ue ux with hlt | heq | hgt
  · clear h
    go_enter Tryz.func37, Tryz.ntmps37
    go_wp2_with fail
    refine (CU1.out _).mono ?_
    rintro e w' ⟨rfl, rfl⟩
    go_wp2_with fail
    refine (CU2.out _).mono ?_
    rintro e w' ⟨rfl, rfl⟩
    go_wp2_with fail
    refine (CFR.out _ (Bl.refl _)).mono ?_
    rintro e wF ⟨⟨v, rfl, hv⟩, kF⟩
    have c3F := kF.cell' c3
    have KF := Lib.hid kF; clear kF
    rcases v with _ | _
    · go_wp2_with fail
      go_ret
      exact ⟨⟨en, rfl, ⟨e0, by omega⟩⟩, ⟨b, en, H.out.bl KF.out⟩, Fr.of_bl KF.out⟩
    · have HS := Lib.hid (hv rfl); clear hv
      go_wp2_with fail
      refine (CLAY.out _ KF.out HS.out).mono ?_
      rintro e w1 ⟨rfl, k⟩
      have c3G := k.cell' c3F
      have K := Lib.hid (KF.out.trans k); clear k
      go_wp2_with fail
      go_ret
      exact ⟨⟨en, rfl, ⟨e0, by omega⟩⟩, ⟨b, en, H.out.bl K.out⟩, Fr.of_bl K.out⟩
  · subst heq
    clear h CFR CLAY
    have H2 := Lib.hid (HSET.out w H.out x h0 x22)
    go_enter Tryz.func37, Tryz.ntmps37
    go_wp2_with fail
    refine (CU1.out _).mono ?_
    rintro e w' ⟨rfl, rfl⟩
    go_wp2_with fail
    refine (CU2.out _).mono ?_
    rintro e w' ⟨rfl, rfl⟩
    go_wp2_with fail
    go_ret
    exact ⟨⟨x, rfl, ⟨h0, h1⟩⟩, ⟨b, x, H2.out⟩, Fr.set (S := only rb) (p := ⟨rb, 3, none⟩) rfl _⟩
  · have cun := runmap_any h ux (ue - ux) ux0 (by omega)
    unfold addr0 at cun
    have CUN := Lib.hid cun; clear cun h CFR CLAY
    have hw : IntKind.u64.wrap (ue - ux) = ue - ux := IntWalk.u64_in _ (by omega)
    go_enter Tryz.func37, Tryz.ntmps37
    go_wp2_with fail
    refine (CU1.out _).mono ?_
    rintro e w' ⟨rfl, rfl⟩
    go_wp2_with fail
    refine (CU2.out _).mono ?_
    rintro e w' ⟨rfl, rfl⟩
    go_wp2_with fail
    refine CUN.out.mono ?_
    rintro e wF ⟨⟨r, rfl⟩, hF, fF⟩
    obtain ⟨d0, d1, d2, d3⟩ := hF.cells
    have g3 := hF.free 3
    have H2 := Lib.hid (HSET.out wF hF x h0 x22)
    have HF := Lib.hid hF
    have FF := Lib.hid fF
    clear hF fF c0 c1 c2 c3 f3
    by_cases hr : r = 0
    · subst hr
      go_wp2_with fail
      go_ret
      exact ⟨⟨x, rfl, ⟨h0, h1⟩⟩, ⟨b, x, H2.out⟩, FF.out.trans (Fr.set (S := only rb) (p := ⟨rb, 3, none⟩) rfl _)⟩
    · have tr : (r != 0) = true := by simp [hr]
      clear hr
      go_wp2_with fail
      go_ret
      exact ⟨⟨en, rfl, ⟨e0, by omega⟩⟩, ⟨b, en, HF.out⟩, FF.out⟩
end Go.Proofs.YtepffglljmekiaaGreat
