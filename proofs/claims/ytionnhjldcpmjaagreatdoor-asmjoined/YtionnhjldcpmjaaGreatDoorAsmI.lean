/-
  parse.
-/
import Derived.Test.YtionnhjldcpmjaaGreatDoorAsmH
set_option linter.unusedVariables false
set_option linter.unusedSimpArgs false
namespace Go.Proofs.YtionnhjldcpmjaaGreatDoor
open Go.RowKit

theorem cut_len1 (l sep : List UInt8) : (Lib.cut l sep).1.length ≤ l.length := by
  unfold Lib.cut
  split <;> simp
  exact Nat.min_le_right _ _
theorem cut_len2 (l sep : List UInt8) : (Lib.cut l sep).2.1.length ≤ l.length := by
  unfold Lib.cut
  split <;> simp
/-- All parts read, one behind the other. -/
def rdAll : List Int → Ins → List UInt8 → Ins
  | [], i, _ => i
  | p :: ps, i, r => rdAll ps (setF i p (rdv p (Lib.cut r [44, 32]).1)) (Lib.cut r [44, 32]).2.1
/-- What a text is read as, loosely. -/
def readL (s : List UInt8) : Ins :=
  rdAll (prt (frm ((rdName (Lib.cut s [32]).1).1 : Nat))) ⟨((rdName (Lib.cut s [32]).1).1 : Nat), 0, 0, 0, 0, ((rdName (Lib.cut s [32]).1).2 : Nat), 4⟩ (Lib.cut s [32]).2.1
theorem rdv_bd (p : Int) (s : List UInt8) : -9223372036854775808 ≤ rdv p s ∧ rdv p s ≤ 9223372036854775807 := by
  unfold rdv
  split
  · have h1 := low_lo (num (Lib.trimPrefix s [120]) * 4096) 32
    have h2 := low_hi (num (Lib.trimPrefix s [120]) * 4096) 32 (by omega)
    have e : (2 : Int) ^ (32 - 1) = 2147483648 := by decide
    rw [e] at h1 h2
    omega
  · exact num_bd _
theorem setF_in {i : Ins} (h : In64 i) (p : Int) {v : Int} (hv : -9223372036854775808 ≤ v ∧ v ≤ 9223372036854775807) : In64 (setF i p v) := by
  unfold setF
  split
  · exact ⟨hv, h.r1, h.r2, h.im⟩
  · split
    · exact ⟨h.rd, hv, h.r2, h.im⟩
    · split
      · exact ⟨h.rd, h.r1, hv, h.im⟩
      · exact ⟨h.rd, h.r1, h.r2, hv⟩
theorem setF_rest (i : Ins) (p v : Int) : (setF i p v).op = i.op ∧ (setF i p v).od = i.od ∧ (setF i p v).sz = i.sz := by
  unfold setF
  split
  · exact ⟨rfl, rfl, rfl⟩
  · split
    · exact ⟨rfl, rfl, rfl⟩
    · split <;> exact ⟨rfl, rfl, rfl⟩
theorem rdAll_in : ∀ (ps : List Int) (i : Ins) (r : List UInt8), In64 i → In64 (rdAll ps i r)
  | [], i, r, h => h
  | p :: ps, i, r, h => rdAll_in ps _ _ (setF_in h p (rdv_bd _ _))
theorem rdAll_rest : ∀ (ps : List Int) (i : Ins) (r : List UInt8), (rdAll ps i r).op = i.op ∧ (rdAll ps i r).od = i.od ∧ (rdAll ps i r).sz = i.sz
  | [], i, r => ⟨rfl, rfl, rfl⟩
  | p :: ps, i, r => by
    have h := rdAll_rest ps (setF i p (rdv p (Lib.cut r [44, 32]).1)) (Lib.cut r [44, 32]).2.1
    have k := setF_rest i p (rdv p (Lib.cut r [44, 32]).1)
    exact ⟨h.1.trans k.1, h.2.1.trans k.2.1, h.2.2.trans k.2.2⟩
theorem readL_in (s : List UInt8) : In64 (readL s) := by
  unfold readL
  exact rdAll_in _ _ _ ⟨by simp, by simp, by simp, by simp⟩
theorem readL_od (s : List UInt8) : (readL s).od = ((rdName (Lib.cut s [32]).1).2 : Nat) := by
  unfold readL
  exact (rdAll_rest _ _ _).2.1
theorem rdName_bd (s : List UInt8) : (rdName s).1 ≤ 88 ∧ (rdName s).2 < 4 := rdN_bd s 4 0 (by omega)
theorem Bl.seven_set {a w : World} (h : Bl a w) {b : Nat} (hb : a.heap.size ≤ b) (v0 v1 v2 v3 v4 v5 v6 : Value) : Bl a (((((((w.setCell ⟨b, 0, none⟩ v0).setCell ⟨b, 1, none⟩ v1).setCell ⟨b, 2, none⟩ v2).setCell ⟨b, 3, none⟩ v3).setCell ⟨b, 4, none⟩ v4).setCell ⟨b, 5, none⟩ v5).setCell ⟨b, 6, none⟩ v6) :=
  ((((((h.setCell hb v0).setCell hb v1).setCell hb v2).setCell hb v3).setCell hb v4).setCell hb v5).setCell hb v6
set_option maxRecDepth 100000 in
set_option maxHeartbeats 4000000 in
theorem parse_gen (s : List UInt8) (a : Addr) (w : World) (hE : Env a w) (hs : s.length < 4294967281) (I : Ins) (hI : readL s = I) (B : Bool) (T : List UInt8)
    (hTx : ∀ w, Env a w → Calls Tryz.prog 12 #[.agg I.cells] w fun e w' => e = .returned (.tuple #[str T, .bool B]) ∧ Bl w w')
    (x0 x1 x2 x3 x4 x5 x6 : Int) (Y : Value) (hok : B = true → T = s → I = ⟨x0, x1, x2, x3, x4, x5, x6⟩ ∧ Y = .nilIface)
    (hno : ¬ (B = true ∧ T = s) → (x0 = 0 ∧ x1 = 0 ∧ x2 = 0 ∧ x3 = 0 ∧ x4 = 0 ∧ x5 = 0 ∧ x6 = 0) ∧ Y = .iface 153 (.pointer (some a))) :
    Calls Tryz.prog 26 #[str s] w fun e w' => e = .returned (.tuple #[.agg (I7 x0 x1 x2 x3 x4 x5 x6), Y]) ∧ Bl w w' := by
  have k0 := (Bl.refl w).alloc (I7 0 0 0 0 0 0 0) 28
  have hR := Has.new w (I7 0 0 0 0 0 0 0) 28
  have hC := cut_any s [32] a (w.alloc (.cells (I7 0 0 0 0 0 0 0) 28)) (hE.bl k0) hs
  have c1 := cut_len1 s [32]
  have c2 := cut_len2 s [32]
  have hNm := fun w hE => readName_any (Lib.cut s [32]).1 a w hE (by omega)
  have hI2 := hI
  unfold readL at hI2
  have hbd := rdName_bd (Lib.cut s [32]).1
  generalize hq : rdName (Lib.cut s [32]).1 = q at *
  generalize hn1 : (Lib.cut s [32]).1 = nam at *
  generalize hn2 : (Lib.cut s [32]).2.1 = rest at *
  generalize (Lib.cut s [32]).2.2 = found at *
  obtain ⟨qo, qd⟩ := q
  simp only [hq] at hNm
  dsimp only at hI2 hNm hbd
  generalize hps : prt (frm (qo : Int)) = ps at *
  have HI2 := Lib.hid hI2
  have HPS := Lib.hid hps
  have HTx := Lib.hid hTx
  have HNm := Lib.hid hNm
  have HOK := Lib.hid hok
  have HNO := Lib.hid hno
  have HK := Lib.hid k0
  have HRh := Lib.hid hR
  have HE := Lib.hid hE
  clear hE hI hI2 hq hn1 hn2 hps hTx hNm hok hno k0 hR
  go_enter Tryz.func26, Tryz.ntmps26
  go_wp2_with fail
  refine hC.mono ?_
  rintro e w1 ⟨rfl, k1⟩
  have K1 := Lib.hid (HK.out.trans k1)
  have HR1 := Lib.hid (HRh.out.bl k1)
  clear hC k1 HK HRh
  go_wp2_with fail
  refine (HNm.out _ (HE.out.bl K1.out)).mono ?_
  rintro e w2 ⟨rfl, k2⟩
  have K2 := Lib.hid (K1.out.trans k2)
  have HR2 := Lib.hid (HR1.out.bl k2)
  clear k2 K1 HR1 HNm
  have hRlt : w.heap.size < w2.heap.size := HR2.out.lt
  have hB3 : Has (w2.alloc (.cells (I7 qo 0 0 0 0 qd 4) 28)) w2.heap.size 28 (I7 qo 0 0 0 0 qd 4) := Has.new _ _ _
  have hR3 := HR2.out.alloc (.cells (I7 qo 0 0 0 0 qd 4) 28)
  have k3 := K2.out.alloc (I7 qo 0 0 0 0 qd 4) 28
  go_wp2_with fail
  refine (formOf_any qo _).mono ?_
  rintro e w3 ⟨rfl, rfl⟩
  generalize w2.alloc (.cells (I7 qo 0 0 0 0 qd 4) 28) = w3 at *
  generalize w2.heap.size = b at *
  have HB3 := Lib.hid hB3
  have HR3 := Lib.hid hR3
  have K3 := Lib.hid k3
  clear hB3 hR3 k3 HR2 K2
  rcases prt_cases (qo : Int) with h0 | h0
  · have hz : ps = [] := by rw [← HPS.out, h0]; rfl
    have HBi : Hid (Has w3 b 28 I.cells) := Lib.hid (by rw [← HI2.out, hz]; exact HB3.out)
    rw [h0]
    clear h0 hz
    go_wp2_with fail
    refine (parts_none _).mono ?_
    rintro e w4 ⟨rfl, rfl⟩
    go_wp2_with fail
    go_loop [33] (fun k => k = .int .i64 0) (fun k => 0)
    case atStart => rfl
    case round =>
      subst hrel
      have KW := K3
      have HRw := HR3
      obtain ⟨b0, b1, b2, b3, b4, b5, b6⟩ := HBi.out.seven
      go_wp2_with fail
      refine (HTx.out _ (HE.out.bl KW.out)).mono ?_
      rintro e w5 ⟨rfl, k5⟩
      have K5 := Lib.hid (KW.out.trans k5)
      have HR5 := Lib.hid (HRw.out.bl k5)
      have HB5 := Lib.hid (HBi.out.bl k5)
      have HERR := (HE.out.bl K5.out).err
      obtain ⟨r0, r1, r2, r3, r4, r5, r6⟩ := HR5.out.seven
      have z := HR5.out.free
      clear k5 HTx b0 b1 b2 b3 b4 b5 b6 HBi HRw KW
      by_cases hc : B = true ∧ T = s
      · obtain ⟨h1, h2⟩ := hc
        have hx := HOK.out h1 h2
        have HX := Lib.hid hx
        subst h1
        have he := beq_true h2
        obtain ⟨b0, b1, b2, b3, b4, b5, b6⟩ := HB5.out.seven
        clear hx h2 HOK HNO
        go_wp2
        (try simp only [Exit.inBlock, Exit.then])
        refine bodyPost_ret (results_two rfl _ _ w.heap.size _ _ _ _ _ _ _ rfl (HR5.out.seven_set _ _ _ _ _ _ _)) rfl ⟨?_, ?_⟩
        · rw [HX.out.1, HX.out.2]
          rfl
        · exact Bl.seven_set K5.out (Nat.le_refl _) _ _ _ _ _ _ _
      · have HN := Lib.hid hc
        by_cases h1 : B = true
        · have h2 : T ≠ s := fun h => hc ⟨h1, h⟩
          have he := beq_false h2
          subst h1
          clear hc h2 HOK
          go_wp2_with fail
          have HERR2 := fun v0 v1 v2 v3 v4 v5 v6 => (Bl.seven_set K5.out (Nat.le_refl _) v0 v1 v2 v3 v4 v5 v6).cell HE.out.err
          go_region
          go_wp2
          (try simp only [Exit.inBlock, Exit.then])
          refine bodyPost_ret (results_two rfl _ _ w.heap.size _ _ _ _ _ _ _ rfl (HR5.out.seven_set _ _ _ _ _ _ _).drew) rfl ⟨?_, ?_⟩
          · obtain ⟨⟨h0, h1, h2, h3, h4, h5, h6⟩, hy⟩ := HNO.out HN.out
            rw [h0, h1, h2, h3, h4, h5, h6, hy]
            rfl
          · exact (Bl.seven_set K5.out (Nat.le_refl _) _ _ _ _ _ _ _).drew
        · have h2 : B = false := by simpa using h1
          subst h2
          clear hc h1 HOK
          go_wp2_with fail
          have HERR2 := fun v0 v1 v2 v3 v4 v5 v6 => (Bl.seven_set K5.out (Nat.le_refl _) v0 v1 v2 v3 v4 v5 v6).cell HE.out.err
          go_region
          go_wp2
          (try simp only [Exit.inBlock, Exit.then])
          refine bodyPost_ret (results_two rfl _ _ w.heap.size _ _ _ _ _ _ _ rfl (HR5.out.seven_set _ _ _ _ _ _ _).drew) rfl ⟨?_, ?_⟩
          · obtain ⟨⟨h0, h1, h2, h3, h4, h5, h6⟩, hy⟩ := HNO.out HN.out
            rw [h0, h1, h2, h3, h4, h5, h6, hy]
            rfl
          · exact (Bl.seven_set K5.out (Nat.le_refl _) _ _ _ _ _ _ _).drew
  · have hm := prt_mem (frm (qo : Int))
    have hl := prt_len (frm (qo : Int))
    have hp := parts_some (frm (qo : Int)) w3 h0
    rw [HPS.out] at hm hl hp
    have HM := Lib.hid hm
    have HLn := Lib.hid hl
    clear hm hl h0
    go_wp2_with fail
    refine hp.mono ?_
    rintro e w4 ⟨c, rfl, hc4, k4⟩
    have HBi := Lib.hid (HB3.out.bl k4.bl)
    have HRi := Lib.hid (HR3.out.bl k4.bl)
    have K4 := Lib.hid (K3.out.trans k4.bl)
    have HP4 := Lib.hid hc4
    have hcb : c ≠ b := by
      intro h
      have h1 := HP4.out
      have h2 := HBi.out
      rw [h] at h1
      have h3 := h1.symm.trans h2
      simp at h3
    clear hp hc4 k4 HB3 HR3 K3
    go_wp2_with fail
    go_loopw [5, 33] (fun t k wr => ∃ (m : Nat) (r : List UInt8) (ins : Ins), m ≤ ps.length ∧ k = .int .i64 m ∧ t = str r ∧ r.length ≤ s.length ∧ Hid (rdAll (ps.drop m) ins r = I) ∧ Hid (Has wr b 28 ins.cells) ∧ Hid (Has wr w.heap.size 28 (I7 0 0 0 0 0 0 0)) ∧ Hid (Has wr c 3 (ps.map fun p => Value.int .i64 p).toArray) ∧ Hid (Bl w wr)) (fun t k wr => ps.length - (intOf k).toNat)
    case atStart => exact ⟨0, rest, ⟨qo, 0, 0, 0, 0, qd, 4⟩, by omega, rfl, rfl, by omega, Lib.hid (by simpa using HI2.out), HBi, HRi, HP4, K4⟩
    case round =>
      clear HBi HRi HP4 K4
      obtain ⟨m, r, ins, hm, rfl, rfl, hr, HRD, HBi, HRw, HPw, KW⟩ := hrel
      have hl3 := HLn.out
      by_cases hlt : m < ps.length
      · have hc : wr.cell? ⟨c, m, none⟩ = some (.int .i64 (ps[m]'hlt)) := by
          rw [HPw.out.cell m]
          simp [hlt]
        have hpm := HM.out (ps[m]'hlt) (List.getElem_mem hlt)
        have hrd : rdAll (ps.drop (m + 1)) (setF ins (ps[m]'hlt) (rdv (ps[m]'hlt) (Lib.cut r [44, 32]).1)) (Lib.cut r [44, 32]).2.1 = I := by
          have := HRD.out
          rw [List.drop_eq_getElem_cons hlt] at this
          exact this
        have hC := cut_any r [44, 32] a wr (HE.out.bl KW.out) (by omega)
        have d1 := cut_len1 r [44, 32]
        have d2 := cut_len2 r [44, 32]
        generalize (Lib.cut r [44, 32]).1 = one at *
        generalize (Lib.cut r [44, 32]).2.1 = r2 at *
        generalize (Lib.cut r [44, 32]).2.2 = fnd at *
        generalize ps[m]'hlt = p at *
        have HRD2 := Lib.hid hrd
        clear hrd HRD
        have hm64 : (m : Int) < (ps.length : Int) := by omega
        go_wp2_with fail
        refine hC.mono ?_
        rintro e w5 ⟨rfl, k5⟩
        have hrd5 := read_any ins b p one a w5 ((HE.out.bl KW.out).bl k5) (by omega) hpm (HBi.out.bl k5)
        have K5 := Lib.hid (KW.out.trans k5)
        have HR5 := Lib.hid (HRw.out.bl k5)
        have HP5 := Lib.hid (HPw.out.bl k5)
        clear hC k5
        go_wp2_with fail
        refine hrd5.mono ?_
        rintro e w6 ⟨rfl, hb6, k6⟩
        have HB6 := Lib.hid hb6
        have K6 := Lib.hid (Bb.on K5.out k6 (by omega))
        have HR6 := Lib.hid (HR5.out.bb k6 (by omega))
        have HP6 := Lib.hid (HP5.out.bb k6 hcb)
        clear hrd5 hb6 k6
        go_wp2
        go_roundw
        case rel => exact ⟨m + 1, r2, _, by omega, by go_num, rfl, by omega, HRD2, HB6, HR6, HP6, K6⟩
        case measure => simp [intOf] <;> omega
      · obtain rfl : m = ps.length := by omega
        have HBi : Hid (Has wr b 28 I.cells) := Lib.hid (by
          have h1 := HRD.out
          rw [List.drop_length] at h1
          rw [← h1]
          exact HBi.out)
        obtain ⟨b0, b1, b2, b3, b4, b5, b6⟩ := HBi.out.seven
        go_wp2_with fail
        refine (HTx.out _ (HE.out.bl KW.out)).mono ?_
        rintro e w5 ⟨rfl, k5⟩
        have K5 := Lib.hid (KW.out.trans k5)
        have HR5 := Lib.hid (HRw.out.bl k5)
        have HB5 := Lib.hid (HBi.out.bl k5)
        have HERR := (HE.out.bl K5.out).err
        obtain ⟨r0, r1, r2, r3, r4, r5, r6⟩ := HR5.out.seven
        have z := HR5.out.free
        clear k5 HTx b0 b1 b2 b3 b4 b5 b6 HBi HRw KW
        by_cases hc : B = true ∧ T = s
        · obtain ⟨h1, h2⟩ := hc
          have hx := HOK.out h1 h2
          have HX := Lib.hid hx
          subst h1
          have he := beq_true h2
          obtain ⟨b0, b1, b2, b3, b4, b5, b6⟩ := HB5.out.seven
          clear hx h2 HOK HNO
          go_wp2
          (try simp only [Exit.inBlock, Exit.then])
          refine bodyPost_ret (results_two rfl _ _ w.heap.size _ _ _ _ _ _ _ rfl (HR5.out.seven_set _ _ _ _ _ _ _)) rfl ⟨?_, ?_⟩
          · rw [HX.out.1, HX.out.2]
            rfl
          · exact Bl.seven_set K5.out (Nat.le_refl _) _ _ _ _ _ _ _
        · have HN := Lib.hid hc
          by_cases h1 : B = true
          · have h2 : T ≠ s := fun h => hc ⟨h1, h⟩
            have he := beq_false h2
            subst h1
            clear hc h2 HOK
            go_wp2_with fail
            have HERR2 := fun v0 v1 v2 v3 v4 v5 v6 => (Bl.seven_set K5.out (Nat.le_refl _) v0 v1 v2 v3 v4 v5 v6).cell HE.out.err
            go_region
            go_wp2
            (try simp only [Exit.inBlock, Exit.then])
            refine bodyPost_ret (results_two rfl _ _ w.heap.size _ _ _ _ _ _ _ rfl (HR5.out.seven_set _ _ _ _ _ _ _).drew) rfl ⟨?_, ?_⟩
            · obtain ⟨⟨h0, h1, h2, h3, h4, h5, h6⟩, hy⟩ := HNO.out HN.out
              rw [h0, h1, h2, h3, h4, h5, h6, hy]
              rfl
            · exact (Bl.seven_set K5.out (Nat.le_refl _) _ _ _ _ _ _ _).drew
          · have h2 : B = false := by simpa using h1
            subst h2
            clear hc h1 HOK
            go_wp2_with fail
            have HERR2 := fun v0 v1 v2 v3 v4 v5 v6 => (Bl.seven_set K5.out (Nat.le_refl _) v0 v1 v2 v3 v4 v5 v6).cell HE.out.err
            go_region
            go_wp2
            (try simp only [Exit.inBlock, Exit.then])
            refine bodyPost_ret (results_two rfl _ _ w.heap.size _ _ _ _ _ _ _ rfl (HR5.out.seven_set _ _ _ _ _ _ _).drew) rfl ⟨?_, ?_⟩
            · obtain ⟨⟨h0, h1, h2, h3, h4, h5, h6⟩, hy⟩ := HNO.out HN.out
              rw [h0, h1, h2, h3, h4, h5, h6, hy]
              rfl
            · exact (Bl.seven_set K5.out (Nat.le_refl _) _ _ _ _ _ _ _).drew

end Go.Proofs.YtionnhjldcpmjaaGreatDoor
