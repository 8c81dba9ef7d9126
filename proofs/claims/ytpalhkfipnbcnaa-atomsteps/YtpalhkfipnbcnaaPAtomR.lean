/-
  The walk of AtomSteps.
-/
import Derived.Test.YtpalhkfipnbcnaaPAtomQ
import Derived.Deep.Cut
set_option linter.unusedVariables false
set_option linter.unusedSimpArgs false
namespace Go.Proofs.Ytpalhkfipnbcnaa
open Go.RowKit
set_option maxRecDepth 100000
theorem bl_or {w a b : World} {J : Nat → Prop} {hb : Nat} (hJ : ∀ q, q < w.heap.size → J q) (hn : w.heap.size ≤ hb) (k : Bl w a) (f : Fr (fun b => ¬ J b ∨ b = hb) a b) : Bl w b :=
  ⟨f.os.trans k.os, f.tape.trans k.tape, f.output.trans k.output, Nat.le_trans k.size f.size, fun q hq => (f.block q (Nat.lt_of_lt_of_le hq k.size) (fun e => by
    rcases e with e | e
    · exact e (hJ q hq)
    · omega)).trans (k.block q hq)⟩
theorem si_end {K K3 : Nat → Prop} {W : World} {sb rb hb ga n N : Nat} {L : List Rg} {M st : Nat → Int} {ta tn : Int} {p q : Value} (h : Two K3 W sb rb n L M st 10 0 0 L M) (hK : ∀ b, K b → K3 b) (hh : HAt W hb rb 0 (List.replicate 32 0) ta tn) (hg : W.heap[ga]? = some (.cells #[p, q] 37 (0, 0))) (hne : hb ≠ ga) (hKG : K ga) (hn : n ≤ N) :
    SI K ((W.setCell ⟨ga, 0, none⟩ (.int .u64 ta)).setCell ⟨ga, 1, none⟩ (.int .i64 tn)) sb rb hb ga N L := by
  have f : Fr (only ga) W ((W.setCell ⟨ga, 0, none⟩ (.int .u64 ta)).setCell ⟨ga, 1, none⟩ (.int .i64 tn)) := (Fr.set (S := only ga) (p := ⟨ga, 0, none⟩) rfl _).trans (Fr.set (S := only ga) (p := ⟨ga, 1, none⟩) rfl _)
  exact ⟨n, M, st, ta, tn, hn, (h.less hK).kept f (fun b _ e => by rw [show b = ga from e]; exact hKG) (by simp [World.setCell]), hh.fr f (fun e => hne e), set2 _ _ hg⟩
theorem keepR {V w w' : World} {hb rb : Nat} (h : w.cell? ⟨hb, 35, none⟩ = some (.pointer (some ⟨rb, 0, none⟩)) ∧ Bl V w) (k : Bl w w') : w'.cell? ⟨hb, 35, none⟩ = some (.pointer (some ⟨rb, 0, none⟩)) ∧ Bl V w' := ⟨k.cell' h.1, h.2.trans k⟩
theorem drew_size (w : World) : w.drew.heap.size = w.heap.size := rfl
theorem bl_two {w a b : World} {g h : Nat} (k : Bl w a) (f : Fr (fun b => b = g ∨ b = h) a b) (hg : w.heap.size ≤ g) (hh : w.heap.size ≤ h) : Bl w b :=
  ⟨f.os.trans k.os, f.tape.trans k.tape, f.output.trans k.output, Nat.le_trans k.size f.size, fun q hq => (f.block q (Nat.lt_of_lt_of_le hq k.size) (fun e => by omega)).trans (k.block q hq)⟩
/-- What was answered is stored as nothing, where it was nothing. -/
theorem si_stop {K3 : Nat → Prop} {W : World} {sb rb hb gd n : Nat} {L : List Rg} {M st : Nat → Int} (h : Two K3 W sb rb n L M st 10 0 0 L M) (hh : HAt W hb rb 0 (List.replicate 32 0) 0 0) (hd : W.heap[gd]? = some (.cells #[.int .u64 0, .int .i64 0] 37 (0, 0))) (hne : hb ≠ gd) (hKH : K3 hb) (hKD : K3 gd) :
    Two K3 ((((W.setCell ⟨gd, 0, none⟩ (.int .u64 0)).setCell ⟨gd, 1, none⟩ (.int .i64 0)).setCell ⟨hb, 34, none⟩ (.int .i64 0)).setCell ⟨hb, 33, none⟩ (.int .u64 0)) sb rb n L M st 10 0 0 L M ∧
    HAt ((((W.setCell ⟨gd, 0, none⟩ (.int .u64 0)).setCell ⟨gd, 1, none⟩ (.int .i64 0)).setCell ⟨hb, 34, none⟩ (.int .i64 0)).setCell ⟨hb, 33, none⟩ (.int .u64 0)) hb rb 0 (List.replicate 32 0) 0 0 ∧
    ((((W.setCell ⟨gd, 0, none⟩ (.int .u64 0)).setCell ⟨gd, 1, none⟩ (.int .i64 0)).setCell ⟨hb, 34, none⟩ (.int .i64 0)).setCell ⟨hb, 33, none⟩ (.int .u64 0)).heap[gd]? = some (.cells #[.int .u64 0, .int .i64 0] 37 (0, 0)) ∧
    Fr (fun b => b = gd ∨ b = hb) W ((((W.setCell ⟨gd, 0, none⟩ (.int .u64 0)).setCell ⟨gd, 1, none⟩ (.int .i64 0)).setCell ⟨hb, 34, none⟩ (.int .i64 0)).setCell ⟨hb, 33, none⟩ (.int .u64 0)) := by
  have f1 : Fr (only gd) W ((W.setCell ⟨gd, 0, none⟩ (.int .u64 0)).setCell ⟨gd, 1, none⟩ (.int .i64 0)) := (Fr.set (S := only gd) (p := ⟨gd, 0, none⟩) rfl _).trans (Fr.set (S := only gd) (p := ⟨gd, 1, none⟩) rfl _)
  have f2 : Fr (only hb) ((W.setCell ⟨gd, 0, none⟩ (.int .u64 0)).setCell ⟨gd, 1, none⟩ (.int .i64 0)) ((((W.setCell ⟨gd, 0, none⟩ (.int .u64 0)).setCell ⟨gd, 1, none⟩ (.int .i64 0)).setCell ⟨hb, 34, none⟩ (.int .i64 0)).setCell ⟨hb, 33, none⟩ (.int .u64 0)) := (Fr.set (S := only hb) (p := ⟨hb, 34, none⟩) rfl _).trans (Fr.set (S := only hb) (p := ⟨hb, 33, none⟩) rfl _)
  have f : Fr (fun b => b = gd ∨ b = hb) W ((((W.setCell ⟨gd, 0, none⟩ (.int .u64 0)).setCell ⟨gd, 1, none⟩ (.int .i64 0)).setCell ⟨hb, 34, none⟩ (.int .i64 0)).setCell ⟨hb, 33, none⟩ (.int .u64 0)) := (f1.mono fun b _ e => .inl e).trans (f2.mono fun b _ e => .inr e)
  exact ⟨h.kept f (fun b _ e => by rcases e with e | e <;> rw [e]; exact hKD; exact hKH) (by simp [World.setCell]), ((hh.fr f1 (fun e => hne e)).setHeld 0).setAt 0, f2.at_ (set2 _ _ hd) (fun e => hne e.symm), f⟩
set_option maxHeartbeats 32000000 in
theorem steps_walk (a : Option Addr) (len cap : Nat) (cs : Nat → Int) (A2 : Option Addr) (len2 cap2 : Nat) (w : World) (hz : Prots w a len cs) (hlen : len ≤ 9223372036854775807) (hac : ActsN w A2 len2) (hlen2 : len2 ≤ 9223372036854775807) :
    Calls Try.prog 5 #[.slice a len cap, .slice A2 len2 cap2] w fun e w' => e = .returned (.bool true) ∧ Bl w w' := by
  have csp := fun W => spaces_any a len cap cs W
  have hl2 : (len2 : Int) ≤ 9223372036854775807 := by omega
  have CSP := Lib.hid (spaces_any a len cap cs w hz hlen); clear csp hz hlen hlen2
  have HAC := Lib.hid hac; clear hac
  have cans := fun w => aanswers_any w
  have CANS := Lib.hid cans; clear cans
  go_enter Try.func5, Try.ntmps5
  go_wp2_with fail
  refine CSP.out.mono ?_
  rintro e w1 ⟨sb, rb, hb, n1, L, st, rfl, hki, hn1, h2, hh, hlt, kk⟩
  clear CSP
  have HLT := Lib.hid hlt; clear hlt
  have HK1 := Lib.hid (kk.alloc (.cells #[.int .u64 0, .int .i64 0] 37)); 
  have hga : w.heap.size ≤ w1.heap.size := kk.size
  have hbl := Bl.new w1 (.cells #[.int .u64 0, .int .i64 0] 37)
  have hsi : SI (fun b => b < w.heap.size ∨ b = hb ∨ b = w1.heap.size) (w1.alloc (.cells #[.int .u64 0, .int .i64 0] 37)) sb rb hb w1.heap.size 30000 L :=
    ⟨n1, zM, st, 0, 0, hn1, (h2.bl hbl).less (fun b e => by
      rcases e with e | e | e
      · exact .inl (.inl e)
      · exact .inl (.inr e)
      · exact .inr ⟨by omega, by rw [e]; simp⟩), hh.bl hbl, heap_alloc_new w1 _⟩
  have hhne : hb ≠ w1.heap.size := by have := hh.lt; omega
  have HSI := Lib.hid hsi; clear hsi h2 hh hki hn1 kk hbl
  unfold addr0
  go_upto_region 3 with (fail)
  obtain ⟨ga, hga2⟩ : ∃ ga, ga = w1.heap.size := ⟨_, rfl⟩
  rw [← hga2] at HSI hga hhne ⊢
  clear hga2
  generalize w1.alloc (.cells #[.int .u64 0, .int .i64 0] 37) = W at *
  obtain ⟨K, hK⟩ : ∃ K : Nat → Prop, K = fun b => b < w.heap.size ∨ b = hb ∨ b = ga := ⟨_, rfl⟩
  rw [← hK] at HSI
  have HKQ := Lib.hid (show ∀ q, q < w.heap.size → K q from fun q hq => by rw [hK]; exact .inl hq)
  have HKH := Lib.hid (show K hb by rw [hK]; exact .inr (.inl rfl))
  have HKG := Lib.hid (show K ga by rw [hK]; exact .inr (.inr rfl)); clear hK
  have HGA := Lib.hid hga; clear hga
  have HNE := Lib.hid hhne; clear hhne
  go_wp2_with fail
  with_reducible refine (CANS.out _).mono ?_
  rintro e w' ⟨rfl, rfl⟩
  go_wp2_with fail
  go_loopw [8, 9, 10, 11, 12, 13, 14, 15] (fun i _ _ _ _ _ _ _ wr => ∃ k : Nat, k ≤ 60 ∧ i = .int .i64 k ∧ SI K wr sb rb hb ga (30000 + 9 * k) L ∧ Bl w wr) (fun i _ _ _ _ _ _ _ _ => 60 - (intOf i).toNat)
  case atStart => exact ⟨0, by omega, rfl, HSI.out, HK1.out⟩
  case round =>
    obtain ⟨k, hk, rfl, hsi, hbl⟩ := hrel
    clear HSI HK1
    have HBL := Lib.hid hbl; clear hbl
    have HSI := Lib.hid hsi; clear hsi
    have hkI : (k : Int) ≤ 60 := by omega
    by_cases hgo : k < len2 ∧ k < 60
    · obtain ⟨hp, h60⟩ := hgo
      obtain ⟨b, off, rfl, hcells⟩ := (HAC.out.bl HBL.out) (by omega)
      obtain ⟨op, ad, x, c0, c1, c2, had, hx⟩ := hcells k hp
      clear hcells
      have hpI : (k : Int) < (len2 : Int) := by omega
      have h60I : (k : Int) < 60 := by omega
      have HAD := Lib.hid had
      have HX := Lib.hid hx; clear hx
      obtain ⟨ad0, ad1⟩ := had
      by_cases h4 : 0 < ad % 4
      · have hb0 : 0 ≤ ad / 4 % 17000 := by omega
        go_upto_region 12 with (fail)
        obtain ⟨A, hA⟩ : ∃ A : Nat, ad / 4 % 17000 = (A : Int) := ⟨(ad / 4 % 17000).toNat, by omega⟩
        have hA64 : A < 2 ^ 64 := by omega
        rw [hA]
        obtain ⟨n, M, st, ha, hn, hnN, h2, hh, hg⟩ := HSI.out.ex
        have k1 := Bl.new wr (.cells #[.int .i64 op, .int .u64 ad, .int .u64 x] 39)
        have h3 := h2.bl k1
        have hh1 := hh.bl k1
        have hg1 := k1.at_ hg
        have hc1 := heap_alloc_new wr (.cells #[.int .i64 op, .int .u64 ad, .int .u64 x] 39)
        have hhl := hh.lt
        have hgl := lt_at hg
        have HB1 := Lib.hid (HBL.out.trans k1)
        obtain ⟨K1, hK1⟩ : ∃ K1 : Nat → Prop, K1 = fun b => K b ∨ wr.heap.size ≤ b ∧ b < (wr.alloc (.cells #[.int .i64 op, .int .u64 ad, .int .u64 x] 39)).heap.size := ⟨_, rfl⟩
        rw [← hK1] at h3
        have KK1 := Lib.hid (show ∀ b, K b → K1 b from fun b e => by rw [hK1]; exact .inl e)
        have K1c := Lib.hid (show K1 wr.heap.size by rw [hK1]; exact .inr ⟨Nat.le_refl _, by simp⟩)
        clear hK1 k1 c0 c1 c2
        obtain ⟨gc, hgc⟩ : ∃ gc, gc = wr.heap.size := ⟨_, rfl⟩
        rw [← hgc] at hc1 hhl hgl K1c ⊢
        generalize wr.alloc (.cells #[.int .i64 op, .int .u64 ad, .int .u64 x] 39) = W1 at *
        clear hgc
        have cst := two_step h3 ha hn op A x hA64 HX.out.1 (by have := HX.out.2; omega) (by omega)
        unfold addr0 holdV at cst
        have CST := Lib.hid cst; clear cst h3 h2 hh hg
        obtain ⟨c0, c1, f0, f1⟩ := row2 hg1
        obtain ⟨d0, d1, d2, r0, r1, r2⟩ := row3 hc1
        have HH1 := Lib.hid hh1; clear hh1
        have HG1 := Lib.hid hg1; clear hg1
        have HC1 := Lib.hid hc1; clear hc1
        have HA64 := Lib.hid hA64; clear hA64
        have HNN := Lib.hid hnN; clear hnN
        have HHL := Lib.hid hhl; clear hhl hA
        have HGL := Lib.hid hgl; clear hgl
        go_wp2_with fail
        with_reducible refine CST.out.mono ?_
        rintro e w2 ⟨⟨y, ta, tn, ks, fk, fa⟩, M', rfl, hs, ⟨st', h4⟩, f4⟩
        have HS := Lib.hid hs; clear hs CST
        have KH1 := Lib.hid (KK1.out hb HKH.out)
        have KG1 := Lib.hid (KK1.out ga HKG.out)
        have hh2 := HH1.out.fr f4 (fun e => e KH1.out)
        have hg2 := f4.at_ HG1.out (fun e => e KG1.out)
        have hc2 := f4.at_ HC1.out (fun e => e K1c.out)
        have hgd : gc < w2.heap.size := lt_at hc2
        have HB2 := Lib.hid (bl_fr (fun q hq => KK1.out q (HKQ.out q hq)) HB1.out f4)
        clear f4 HH1 HG1 HC1 HB1 c0 c1 f0 f1 d0 d1 d2 r0 r1 r2
        unfold Out.v holdV stopV
        go_upto_region 13 with (fail)
        have k3 : Bl w2 ((w2.alloc (.cells #[.int .u64 ta, .int .i64 tn] 37)).alloc (.cells #[.int .i64 ks, .int .i64 fk, .int .u64 fa] 43)) := ((Bl.refl w2).alloc _).alloc _
        have h5 := h4.bl k3
        have hh3 := hh2.bl k3
        have hg3 := k3.at_ hg2
        have hc3 := k3.at_ hc2
        have ht3 : ((w2.alloc (.cells #[.int .u64 ta, .int .i64 tn] 37)).alloc (.cells #[.int .i64 ks, .int .i64 fk, .int .u64 fa] 43)).heap[w2.heap.size]? = some (.cells #[.int .u64 ta, .int .i64 tn] 37 (0, 0)) := (Bl.new _ _).at_ (heap_alloc_new w2 _)
        have hu3 : ((w2.alloc (.cells #[.int .u64 ta, .int .i64 tn] 37)).alloc (.cells #[.int .i64 ks, .int .i64 fk, .int .u64 fa] 43)).heap[w2.heap.size + 1]? = some (.cells #[.int .i64 ks, .int .i64 fk, .int .u64 fa] 43 (0, 0)) := by
          have := heap_alloc_new (w2.alloc (.cells #[.int .u64 ta, .int .i64 tn] 37)) (.cells #[.int .i64 ks, .int .i64 fk, .int .u64 fa] 43)
          rwa [show (w2.alloc (.cells #[.int .u64 ta, .int .i64 tn] 37)).heap.size = w2.heap.size + 1 by simp] at this
        have hsz : ((w2.alloc (.cells #[.int .u64 ta, .int .i64 tn] 37)).alloc (.cells #[.int .i64 ks, .int .i64 fk, .int .u64 fa] 43)).heap.size = w2.heap.size + 2 := by simp
        obtain ⟨K2, hK2⟩ : ∃ K2 : Nat → Prop, K2 = fun b => K1 b ∨ w2.heap.size ≤ b ∧ b < ((w2.alloc (.cells #[.int .u64 ta, .int .i64 tn] 37)).alloc (.cells #[.int .i64 ks, .int .i64 fk, .int .u64 fa] 43)).heap.size := ⟨_, rfl⟩
        rw [← hK2] at h5
        have KK2 := Lib.hid (show ∀ b, K1 b → K2 b from fun b e => by rw [hK2]; exact .inl e)
        have K2d := Lib.hid (show K2 w2.heap.size by rw [hK2]; exact .inr ⟨Nat.le_refl _, by rw [hsz]; omega⟩)
        have K2e := Lib.hid (show K2 (w2.heap.size + 1) by rw [hK2]; exact .inr ⟨by omega, by rw [hsz]; omega⟩)
        have HB3 := Lib.hid (HB2.out.trans k3)
        clear hK2 k3 h4 hh2 hg2 hc2 hsz
        obtain ⟨gd, hgd2⟩ : ∃ gd, gd = w2.heap.size := ⟨_, rfl⟩
        rw [← hgd2] at ht3 hu3 hgd K2d K2e ⊢
        generalize (w2.alloc (.cells #[.int .u64 ta, .int .i64 tn] 37)).alloc (.cells #[.int .i64 ks, .int .i64 fk, .int .u64 fa] 43) = W3 at *
        clear hgd2
        have cat := two_atom h5 hh3 (KK2.out hb KH1.out) op A x HA64.out HX.out.1 (by have := HX.out.2; omega)
        unfold addr0 at cat
        have CAT := Lib.hid cat; clear cat h5 hh3
        obtain ⟨d0, d1, d2, r0, r1, r2⟩ := row3 hc3
        have HG3 := Lib.hid hg3; clear hg3
        have HC3 := Lib.hid hc3; clear hc3
        have HT3 := Lib.hid ht3; clear ht3
        have HU3 := Lib.hid hu3; clear hu3
        have HGD := Lib.hid hgd; clear hgd
        go_wp2_with fail
        with_reducible refine CAT.out.mono ?_
        rintro e w4 ⟨o2, M2, rfl, hs2, hh4, h6, f6⟩
        obtain ⟨ho, hM⟩ := hs2.one HS.out
        subst ho
        rw [hM] at h6
        clear hM hs2 CAT
        have hstill := HS.out.still
        have K2h := Lib.hid (KK2.out hb KH1.out)
        have hg4 := f6.at_ HG3.out (fun e => by rcases e with e | e; exact e (KK2.out _ KG1.out); exact HNE.out e.symm)
        have ht4 := f6.at_ HT3.out (fun e => by rcases e with e | e; exact e K2d.out; (have := HGD.out; have := HHL.out; omega))
        have hu4 := f6.at_ HU3.out (fun e => by rcases e with e | e; exact e K2e.out; (have := HGD.out; have := HHL.out; omega))
        have HB4 := Lib.hid (bl_or (fun q hq => KK2.out q (KK1.out q (HKQ.out q hq))) HLT.out HB3.out f6)
        clear f6 HG3 HC3 HT3 HU3 HB3 d0 d1 d2 r0 r1 r2
        unfold stopV
        go_upto_region 14 with (fail)
        have k5 := Bl.new w4 (.cells #[.int .i64 ks, .int .i64 fk, .int .u64 fa] 43)
        have h7 := (h6.bl k5).less (J := K2) (fun b e => .inl e)
        have hh5 := hh4.bl k5
        have hg5 := k5.at_ hg4
        have ht5 := k5.at_ ht4
        have hu5 := k5.at_ hu4
        have hv5 := heap_alloc_new w4 (.cells #[.int .i64 ks, .int .i64 fk, .int .u64 fa] 43)
        have hge : gd + 1 < w4.heap.size := lt_at hu4
        have HB5 := Lib.hid (HB4.out.trans k5)
        clear k5 h6 hh4 hg4 ht4 hu4 HB4
        obtain ⟨ge, hge2⟩ : ∃ ge, ge = w4.heap.size := ⟨_, rfl⟩
        rw [← hge2] at hv5 hge ⊢
        generalize w4.alloc (.cells #[.int .i64 ks, .int .i64 fk, .int .u64 fa] 43) = W5 at *
        clear hge2
        have hq1 := fun W => stop_neq ks fk fa W
        have hq2 : ∀ W, (Go.binOp .neq 37 (.agg #[.int .u64 ta, .int .i64 tn]) (.agg #[.int .u64 ta, .int .i64 tn])).run Try.prog W = .ok (.bool false) W := fun W => by rw [hold_neq]; simp
        have H7 := Lib.hid h7; clear h7
        have HGE := Lib.hid hge; clear hge
        have hne2 : hb ≠ gd := by have := HGD.out; have := HHL.out; omega
        have HNE2 := Lib.hid hne2; clear hne2
        rcases hstill with rfl | ⟨hks, rfl, rfl⟩
        · obtain ⟨c0, c1, c2⟩ := hh5.cells
          obtain ⟨d0, d1, d2, r0, r1, r2⟩ := row3 hu5
          obtain ⟨e0, e1, e2, i0, i1, i2⟩ := row3 hv5
          obtain ⟨f0, f1, g0, g1⟩ := row2 ht5
          obtain ⟨j0, j1, l0, l1⟩ := row2 hg5
          have HH5 := Lib.hid hh5; clear hh5
          have HG5 := Lib.hid hg5; clear hg5
          clear ht5 hu5 hv5
          go_upto_region 19 with (fail)
          go_quiet (fail)
          go_wp2_with fail
          refine ⟨⟨k + 1, by omega, by go_num, si_end (((H7.out.bl ((Bl.refl W5).drewN nq)).less (J := K2) (fun b e => .inl e)).mono (by have := HNN.out; omega)) (fun b e => KK2.out b (KK1.out b e)) (HH5.out.bl ((Bl.refl W5).drewN nq)) (((Bl.refl W5).drewN nq).at_ HG5.out) HNE.out HKG.out (Nat.le_refl _), ((HB5.out.drewN nq).set HGA.out _).set HGA.out _⟩, ?_⟩
          simp only [intOf]; omega
        · have t7 : (ks != 0) = true := by simp [hks]
          have HKS := Lib.hid hks; clear hks
          obtain ⟨c0, c1, c2⟩ := hh5.cells
          have q0 := hh5.frozen 33
          have q1 := hh5.frozen 34
          obtain ⟨d0, d1, d2, r0, r1, r2⟩ := row3 hu5
          obtain ⟨e0, e1, e2, i0, i1, i2⟩ := row3 hv5
          obtain ⟨f0, f1, g0, g1⟩ := row2 ht5
          obtain ⟨u1, u2, u3, u4⟩ := si_stop H7.out hh5 ht5 HNE2.out K2h.out K2d.out
          have n1 := HGE.out
          have n2 := HGD.out
          have n3 := HHL.out
          have n4 := HGL.out
          have hg6 := u4.at_ hg5 (fun e => by rcases e with e | e; omega; exact HNE.out e.symm)
          have hu6 := u4.at_ hu5 (fun e => by rcases e with e | e <;> omega)
          have hv6 := u4.at_ hv5 (fun e => by rcases e with e | e <;> omega)
          have HG6 := Lib.hid hg6; clear hg6
          have HU6 := Lib.hid hu6; clear hu6
          have HV6 := Lib.hid hv6; clear hv6
          have U1 := Lib.hid u1; clear u1
          have U2 := Lib.hid u2; clear u2
          have U3 := Lib.hid u3; clear u3
          have U4 := Lib.hid (show Bl w _ from bl_two HB5.out u4 (by have := HGA.out; omega) HLT.out); clear u4
          clear hh5 ht5 hu5 hv5 hg5
          go_upto_region 19 with (fail)
          generalize (((W5.setCell ⟨gd, 0, none⟩ (.int .u64 0)).setCell ⟨gd, 1, none⟩ (.int .i64 0)).setCell ⟨hb, 34, none⟩ (.int .i64 0)).setCell ⟨hb, 33, none⟩ (.int .u64 0) = W6 at *
          clear c0 c1 c2 q0 q1 d0 d1 d2 r0 r1 r2 e0 e1 e2 i0 i1 i2 f0 f1 g0 g1
          obtain ⟨c0, c1, c2⟩ := U2.out.cells
          obtain ⟨d0, d1, d2, r0, r1, r2⟩ := row3 HU6.out
          obtain ⟨e0, e1, e2, i0, i1, i2⟩ := row3 HV6.out
          obtain ⟨f0, f1, g0, g1⟩ := row2 U3.out
          obtain ⟨j0, j1, l0, l1⟩ := row2 HG6.out
          go_quiet (fail)
          go_wp2_with fail
          refine ⟨⟨k + 1, by omega, by go_num, si_end (((U1.out.bl ((Bl.refl W6).drewN nq)).less (J := K2) (fun b e => .inl e)).mono (by have := HNN.out; omega)) (fun b e => KK2.out b (KK1.out b e)) (U2.out.bl ((Bl.refl W6).drewN nq)) (((Bl.refl W6).drewN nq).at_ HG6.out) HNE.out HKG.out (Nat.le_refl _), ((U4.out.drewN nq).set HGA.out _).set HGA.out _⟩, ?_⟩
          simp only [intOf]; omega
      · have h4' : ad % 4 ≤ 0 := by omega
        go_upto_region 12 with (fail)
        obtain ⟨A, hA⟩ : ∃ A : Nat, ad = (A : Int) := ⟨ad.toNat, by omega⟩
        have hA64 : A < 2 ^ 64 := by omega
        subst hA
        obtain ⟨n, M, st, ha, hn, hnN, h2, hh, hg⟩ := HSI.out.ex
        have k1 := Bl.new wr (.cells #[.int .i64 op, .int .u64 (A : Int), .int .u64 x] 39)
        have h3 := h2.bl k1
        have hh1 := hh.bl k1
        have hg1 := k1.at_ hg
        have hc1 := heap_alloc_new wr (.cells #[.int .i64 op, .int .u64 (A : Int), .int .u64 x] 39)
        have hhl := hh.lt
        have hgl := lt_at hg
        have HB1 := Lib.hid (HBL.out.trans k1)
        obtain ⟨K1, hK1⟩ : ∃ K1 : Nat → Prop, K1 = fun b => K b ∨ wr.heap.size ≤ b ∧ b < (wr.alloc (.cells #[.int .i64 op, .int .u64 (A : Int), .int .u64 x] 39)).heap.size := ⟨_, rfl⟩
        rw [← hK1] at h3
        have KK1 := Lib.hid (show ∀ b, K b → K1 b from fun b e => by rw [hK1]; exact .inl e)
        have K1c := Lib.hid (show K1 wr.heap.size by rw [hK1]; exact .inr ⟨Nat.le_refl _, by simp⟩)
        clear hK1 k1 c0 c1 c2
        obtain ⟨gc, hgc⟩ : ∃ gc, gc = wr.heap.size := ⟨_, rfl⟩
        rw [← hgc] at hc1 hhl hgl K1c ⊢
        generalize wr.alloc (.cells #[.int .i64 op, .int .u64 (A : Int), .int .u64 x] 39) = W1 at *
        clear hgc
        have cst := two_step h3 ha hn op A x hA64 HX.out.1 (by have := HX.out.2; omega) (by omega)
        unfold addr0 holdV at cst
        have CST := Lib.hid cst; clear cst h3 h2 hh hg
        obtain ⟨c0, c1, f0, f1⟩ := row2 hg1
        obtain ⟨d0, d1, d2, r0, r1, r2⟩ := row3 hc1
        have HH1 := Lib.hid hh1; clear hh1
        have HG1 := Lib.hid hg1; clear hg1
        have HC1 := Lib.hid hc1; clear hc1
        have HA64 := Lib.hid hA64; clear hA64
        have HNN := Lib.hid hnN; clear hnN
        have HHL := Lib.hid hhl; clear hhl
        have HGL := Lib.hid hgl; clear hgl
        go_wp2_with fail
        with_reducible refine CST.out.mono ?_
        rintro e w2 ⟨⟨y, ta, tn, ks, fk, fa⟩, M', rfl, hs, ⟨st', h4⟩, f4⟩
        have HS := Lib.hid hs; clear hs CST
        have KH1 := Lib.hid (KK1.out hb HKH.out)
        have KG1 := Lib.hid (KK1.out ga HKG.out)
        have hh2 := HH1.out.fr f4 (fun e => e KH1.out)
        have hg2 := f4.at_ HG1.out (fun e => e KG1.out)
        have hc2 := f4.at_ HC1.out (fun e => e K1c.out)
        have hgd : gc < w2.heap.size := lt_at hc2
        have HB2 := Lib.hid (bl_fr (fun q hq => KK1.out q (HKQ.out q hq)) HB1.out f4)
        clear f4 HH1 HG1 HC1 HB1 c0 c1 f0 f1 d0 d1 d2 r0 r1 r2
        unfold Out.v holdV stopV
        go_upto_region 13 with (fail)
        have k3 : Bl w2 ((w2.alloc (.cells #[.int .u64 ta, .int .i64 tn] 37)).alloc (.cells #[.int .i64 ks, .int .i64 fk, .int .u64 fa] 43)) := ((Bl.refl w2).alloc _).alloc _
        have h5 := h4.bl k3
        have hh3 := hh2.bl k3
        have hg3 := k3.at_ hg2
        have hc3 := k3.at_ hc2
        have ht3 : ((w2.alloc (.cells #[.int .u64 ta, .int .i64 tn] 37)).alloc (.cells #[.int .i64 ks, .int .i64 fk, .int .u64 fa] 43)).heap[w2.heap.size]? = some (.cells #[.int .u64 ta, .int .i64 tn] 37 (0, 0)) := (Bl.new _ _).at_ (heap_alloc_new w2 _)
        have hu3 : ((w2.alloc (.cells #[.int .u64 ta, .int .i64 tn] 37)).alloc (.cells #[.int .i64 ks, .int .i64 fk, .int .u64 fa] 43)).heap[w2.heap.size + 1]? = some (.cells #[.int .i64 ks, .int .i64 fk, .int .u64 fa] 43 (0, 0)) := by
          have := heap_alloc_new (w2.alloc (.cells #[.int .u64 ta, .int .i64 tn] 37)) (.cells #[.int .i64 ks, .int .i64 fk, .int .u64 fa] 43)
          rwa [show (w2.alloc (.cells #[.int .u64 ta, .int .i64 tn] 37)).heap.size = w2.heap.size + 1 by simp] at this
        have hsz : ((w2.alloc (.cells #[.int .u64 ta, .int .i64 tn] 37)).alloc (.cells #[.int .i64 ks, .int .i64 fk, .int .u64 fa] 43)).heap.size = w2.heap.size + 2 := by simp
        obtain ⟨K2, hK2⟩ : ∃ K2 : Nat → Prop, K2 = fun b => K1 b ∨ w2.heap.size ≤ b ∧ b < ((w2.alloc (.cells #[.int .u64 ta, .int .i64 tn] 37)).alloc (.cells #[.int .i64 ks, .int .i64 fk, .int .u64 fa] 43)).heap.size := ⟨_, rfl⟩
        rw [← hK2] at h5
        have KK2 := Lib.hid (show ∀ b, K1 b → K2 b from fun b e => by rw [hK2]; exact .inl e)
        have K2d := Lib.hid (show K2 w2.heap.size by rw [hK2]; exact .inr ⟨Nat.le_refl _, by rw [hsz]; omega⟩)
        have K2e := Lib.hid (show K2 (w2.heap.size + 1) by rw [hK2]; exact .inr ⟨by omega, by rw [hsz]; omega⟩)
        have HB3 := Lib.hid (HB2.out.trans k3)
        clear hK2 k3 h4 hh2 hg2 hc2 hsz
        obtain ⟨gd, hgd2⟩ : ∃ gd, gd = w2.heap.size := ⟨_, rfl⟩
        rw [← hgd2] at ht3 hu3 hgd K2d K2e ⊢
        generalize (w2.alloc (.cells #[.int .u64 ta, .int .i64 tn] 37)).alloc (.cells #[.int .i64 ks, .int .i64 fk, .int .u64 fa] 43) = W3 at *
        clear hgd2
        have cat := two_atom h5 hh3 (KK2.out hb KH1.out) op A x HA64.out HX.out.1 (by have := HX.out.2; omega)
        unfold addr0 at cat
        have CAT := Lib.hid cat; clear cat h5 hh3
        obtain ⟨d0, d1, d2, r0, r1, r2⟩ := row3 hc3
        have HG3 := Lib.hid hg3; clear hg3
        have HC3 := Lib.hid hc3; clear hc3
        have HT3 := Lib.hid ht3; clear ht3
        have HU3 := Lib.hid hu3; clear hu3
        have HGD := Lib.hid hgd; clear hgd
        go_wp2_with fail
        with_reducible refine CAT.out.mono ?_
        rintro e w4 ⟨o2, M2, rfl, hs2, hh4, h6, f6⟩
        obtain ⟨ho, hM⟩ := hs2.one HS.out
        subst ho
        rw [hM] at h6
        clear hM hs2 CAT
        have hstill := HS.out.still
        have K2h := Lib.hid (KK2.out hb KH1.out)
        have hg4 := f6.at_ HG3.out (fun e => by rcases e with e | e; exact e (KK2.out _ KG1.out); exact HNE.out e.symm)
        have ht4 := f6.at_ HT3.out (fun e => by rcases e with e | e; exact e K2d.out; (have := HGD.out; have := HHL.out; omega))
        have hu4 := f6.at_ HU3.out (fun e => by rcases e with e | e; exact e K2e.out; (have := HGD.out; have := HHL.out; omega))
        have HB4 := Lib.hid (bl_or (fun q hq => KK2.out q (KK1.out q (HKQ.out q hq))) HLT.out HB3.out f6)
        clear f6 HG3 HC3 HT3 HU3 HB3 d0 d1 d2 r0 r1 r2
        unfold stopV
        go_upto_region 14 with (fail)
        have k5 := Bl.new w4 (.cells #[.int .i64 ks, .int .i64 fk, .int .u64 fa] 43)
        have h7 := (h6.bl k5).less (J := K2) (fun b e => .inl e)
        have hh5 := hh4.bl k5
        have hg5 := k5.at_ hg4
        have ht5 := k5.at_ ht4
        have hu5 := k5.at_ hu4
        have hv5 := heap_alloc_new w4 (.cells #[.int .i64 ks, .int .i64 fk, .int .u64 fa] 43)
        have hge : gd + 1 < w4.heap.size := lt_at hu4
        have HB5 := Lib.hid (HB4.out.trans k5)
        clear k5 h6 hh4 hg4 ht4 hu4 HB4
        obtain ⟨ge, hge2⟩ : ∃ ge, ge = w4.heap.size := ⟨_, rfl⟩
        rw [← hge2] at hv5 hge ⊢
        generalize w4.alloc (.cells #[.int .i64 ks, .int .i64 fk, .int .u64 fa] 43) = W5 at *
        clear hge2
        have hq1 := fun W => stop_neq ks fk fa W
        have hq2 : ∀ W, (Go.binOp .neq 37 (.agg #[.int .u64 ta, .int .i64 tn]) (.agg #[.int .u64 ta, .int .i64 tn])).run Try.prog W = .ok (.bool false) W := fun W => by rw [hold_neq]; simp
        have H7 := Lib.hid h7; clear h7
        have HGE := Lib.hid hge; clear hge
        have hne2 : hb ≠ gd := by have := HGD.out; have := HHL.out; omega
        have HNE2 := Lib.hid hne2; clear hne2
        rcases hstill with rfl | ⟨hks, rfl, rfl⟩
        · obtain ⟨c0, c1, c2⟩ := hh5.cells
          obtain ⟨d0, d1, d2, r0, r1, r2⟩ := row3 hu5
          obtain ⟨e0, e1, e2, i0, i1, i2⟩ := row3 hv5
          obtain ⟨f0, f1, g0, g1⟩ := row2 ht5
          obtain ⟨j0, j1, l0, l1⟩ := row2 hg5
          have HH5 := Lib.hid hh5; clear hh5
          have HG5 := Lib.hid hg5; clear hg5
          clear ht5 hu5 hv5
          go_upto_region 19 with (fail)
          go_quiet (fail)
          go_wp2_with fail
          refine ⟨⟨k + 1, by omega, by go_num, si_end (((H7.out.bl ((Bl.refl W5).drewN nq)).less (J := K2) (fun b e => .inl e)).mono (by have := HNN.out; omega)) (fun b e => KK2.out b (KK1.out b e)) (HH5.out.bl ((Bl.refl W5).drewN nq)) (((Bl.refl W5).drewN nq).at_ HG5.out) HNE.out HKG.out (Nat.le_refl _), ((HB5.out.drewN nq).set HGA.out _).set HGA.out _⟩, ?_⟩
          simp only [intOf]; omega
        · have t7 : (ks != 0) = true := by simp [hks]
          have HKS := Lib.hid hks; clear hks
          obtain ⟨c0, c1, c2⟩ := hh5.cells
          have q0 := hh5.frozen 33
          have q1 := hh5.frozen 34
          obtain ⟨d0, d1, d2, r0, r1, r2⟩ := row3 hu5
          obtain ⟨e0, e1, e2, i0, i1, i2⟩ := row3 hv5
          obtain ⟨f0, f1, g0, g1⟩ := row2 ht5
          obtain ⟨u1, u2, u3, u4⟩ := si_stop H7.out hh5 ht5 HNE2.out K2h.out K2d.out
          have n1 := HGE.out
          have n2 := HGD.out
          have n3 := HHL.out
          have n4 := HGL.out
          have hg6 := u4.at_ hg5 (fun e => by rcases e with e | e; omega; exact HNE.out e.symm)
          have hu6 := u4.at_ hu5 (fun e => by rcases e with e | e <;> omega)
          have hv6 := u4.at_ hv5 (fun e => by rcases e with e | e <;> omega)
          have HG6 := Lib.hid hg6; clear hg6
          have HU6 := Lib.hid hu6; clear hu6
          have HV6 := Lib.hid hv6; clear hv6
          have U1 := Lib.hid u1; clear u1
          have U2 := Lib.hid u2; clear u2
          have U3 := Lib.hid u3; clear u3
          have U4 := Lib.hid (show Bl w _ from bl_two HB5.out u4 (by have := HGA.out; omega) HLT.out); clear u4
          clear hh5 ht5 hu5 hv5 hg5
          go_upto_region 19 with (fail)
          generalize (((W5.setCell ⟨gd, 0, none⟩ (.int .u64 0)).setCell ⟨gd, 1, none⟩ (.int .i64 0)).setCell ⟨hb, 34, none⟩ (.int .i64 0)).setCell ⟨hb, 33, none⟩ (.int .u64 0) = W6 at *
          clear c0 c1 c2 q0 q1 d0 d1 d2 r0 r1 r2 e0 e1 e2 i0 i1 i2 f0 f1 g0 g1
          obtain ⟨c0, c1, c2⟩ := U2.out.cells
          obtain ⟨d0, d1, d2, r0, r1, r2⟩ := row3 HU6.out
          obtain ⟨e0, e1, e2, i0, i1, i2⟩ := row3 HV6.out
          obtain ⟨f0, f1, g0, g1⟩ := row2 U3.out
          obtain ⟨j0, j1, l0, l1⟩ := row2 HG6.out
          go_quiet (fail)
          go_wp2_with fail
          refine ⟨⟨k + 1, by omega, by go_num, si_end (((U1.out.bl ((Bl.refl W6).drewN nq)).less (J := K2) (fun b e => .inl e)).mono (by have := HNN.out; omega)) (fun b e => KK2.out b (KK1.out b e)) (U2.out.bl ((Bl.refl W6).drewN nq)) (((Bl.refl W6).drewN nq).at_ HG6.out) HNE.out HKG.out (Nat.le_refl _), ((U4.out.drewN nq).set HGA.out _).set HGA.out _⟩, ?_⟩
          simp only [intOf]; omega
    · by_cases hp : k < len2
      · have hpI : (k : Int) < (len2 : Int) := by omega
        have h60I : (60 : Int) ≤ (k : Int) := by omega
        go_upto_region 22 with (fail)
        obtain ⟨V, hV⟩ : ∃ V, V = wr := ⟨_, rfl⟩
        subst hV
        obtain ⟨n, M, st, ha, hn, hnN, h2, hh, hg⟩ := HSI.out.ex
        obtain ⟨T1, T2, P, hm, hr, _⟩ := h2.ex
        have HH := Lib.hid hh; clear hh hg h2 hnN
        have cpk : ∀ W (k : Bl V W) (j : Nat), j < 3 → Calls Try.prog 16 #[addr0 sb, .int .u64 (IntKind.u64.wrap (IntKind.u64.wrap (IntKind.i64.wrap ((j : Int) + 1)) * 4096)), .int .i64 4096] W (ReadPost W M ((j + 1) * 4096) 4096) := fun W k j hj => by
          have := mpeek_any (hm.bl k) ((j + 1) * 4096) 4096 (by omega) (by omega) (by omega)
          rwa [show (((j + 1) * 4096 : Nat) : Int) = IntKind.u64.wrap (IntKind.u64.wrap (IntKind.i64.wrap ((j : Int) + 1)) * 4096) by rw [IntWalk.i64_in _ (by omega), IntWalk.u64_in ((j : Int) + 1) (by omega), IntWalk.u64_in _ (by omega)]; omega] at this
        have cby : ∀ W (k : Bl V W) (j : Nat), j < 3 → Calls Try.prog 17 #[addr0 rb, .int .u64 (IntKind.u64.wrap (IntKind.u64.wrap (IntKind.i64.wrap ((j : Int) + 1)) * 4096)), .int .i64 4096] W fun e w' => ∃ B c, e = .returned (.slice B 4096 c) ∧ Rd w' B (bytesAt M ((j + 1) * 4096) 4096) ∧ Bl W w' := fun W k j hj => by
          have := rp_bytes (hr.bl k) ((j + 1) * 4096) 4096 (by omega) (by omega)
          rwa [show (((j + 1) * 4096 : Nat) : Int) = IntKind.u64.wrap (IntKind.u64.wrap (IntKind.i64.wrap ((j : Int) + 1)) * 4096) by rw [IntWalk.i64_in _ (by omega), IntWalk.u64_in ((j : Int) + 1) (by omega), IntWalk.u64_in _ (by omega)]; omega] at this
        have CPK := Lib.hid cpk; clear cpk
        have CBY := Lib.hid cby; clear cby hm hr
        unfold addr0 at CPK CBY
        go_wp2_with fail
        go_loopw [16] (fun i wr => ∃ j : Nat, j ≤ 3 ∧ i = .int .i64 j ∧ Bl V wr) (fun i _ => 3 - (intOf i).toNat)
        case atStart => exact ⟨0, by omega, rfl, Bl.refl _⟩
        case round =>
          obtain ⟨j, hj, rfl, hkr⟩ := hrel
          have KR := Lib.hid hkr; clear hkr
          by_cases hlt3 : j < 3
          · have hltI : (j : Int) < 3 := by omega
            obtain ⟨c0, c1, c2⟩ := (HH.out.bl KR.out).cells
            unfold addr0 at c2
            go_wp2_with fail
            have hS : wr.cell? ⟨hb, 35, none⟩ = some (.pointer (some ⟨rb, 0, none⟩)) ∧ Bl V wr := ⟨c2, KR.out⟩
            clear c0 c1 c2
            go_region_held3 (fun w' => w'.cell? ⟨hb, 35, none⟩ = some (.pointer (some ⟨rb, 0, none⟩)) ∧ Bl V w') (first | assumption | exact hS | exact keepR hS ((Bl.refl wr).drewN 1)) (first | (go_at_call 16; with_reducible refine (CPK.out _ (by first | exact hS.2 | exact And.right (a := World.cell? _ ⟨hb, 35, none⟩ = some (.pointer (some ⟨rb, 0, none⟩))) (by assumption) | exact (keepR hS ((Bl.refl wr).drewN 1)).2) j hlt3).mono ?_; intro e w9 hp; unfold ReadPost at hp; obtain ⟨he, hb9, k9⟩ := hp; subst he; rw [drew_size] at hb9; have rd9 := rd_row hb9; have hkk := keepR (by first | assumption | exact hS | exact keepR hS ((Bl.refl wr).drewN 1)) k9) | (go_at_call 17; with_reducible refine (CBY.out _ hkk.2 j hlt3).mono ?_; rintro e w11 ⟨B, c, rfl, rd11, k11⟩; have rd10 := rd9.below k11; have hkk2 := keepR hkk k11) | (go_at_call 15; with_reducible refine (sameB_any _ _ 4096 4096 c (bytesAt M ((j + 1) * 4096) 4096) _ rd10 rd11 (bytesAt_length _ _ _) (by omega)).mono ?_; rintro e w12 ⟨rfl, m12, rfl⟩; have hkk3 := keepR hkk2 ((Bl.refl w11).drewN m12)))
            all_goals (
              (try go_wp2_with fail)
              refine ⟨⟨j + 1, by omega, by go_num, hkk3.2⟩, ?_⟩
              simp only [intOf]; omega)
          · obtain rfl : j = 3 := by omega
            go_wp2_with fail
            go_ret
            exact ⟨rfl, HBL.out.trans KR.out⟩
      · have hpI : (len2 : Int) ≤ (k : Int) := by omega
        go_upto_region 22 with (fail)
        obtain ⟨V, hV⟩ : ∃ V, V = wr := ⟨_, rfl⟩
        subst hV
        obtain ⟨n, M, st, ha, hn, hnN, h2, hh, hg⟩ := HSI.out.ex
        obtain ⟨T1, T2, P, hm, hr, _⟩ := h2.ex
        have HH := Lib.hid hh; clear hh hg h2 hnN
        have cpk : ∀ W (k : Bl V W) (j : Nat), j < 3 → Calls Try.prog 16 #[addr0 sb, .int .u64 (IntKind.u64.wrap (IntKind.u64.wrap (IntKind.i64.wrap ((j : Int) + 1)) * 4096)), .int .i64 4096] W (ReadPost W M ((j + 1) * 4096) 4096) := fun W k j hj => by
          have := mpeek_any (hm.bl k) ((j + 1) * 4096) 4096 (by omega) (by omega) (by omega)
          rwa [show (((j + 1) * 4096 : Nat) : Int) = IntKind.u64.wrap (IntKind.u64.wrap (IntKind.i64.wrap ((j : Int) + 1)) * 4096) by rw [IntWalk.i64_in _ (by omega), IntWalk.u64_in ((j : Int) + 1) (by omega), IntWalk.u64_in _ (by omega)]; omega] at this
        have cby : ∀ W (k : Bl V W) (j : Nat), j < 3 → Calls Try.prog 17 #[addr0 rb, .int .u64 (IntKind.u64.wrap (IntKind.u64.wrap (IntKind.i64.wrap ((j : Int) + 1)) * 4096)), .int .i64 4096] W fun e w' => ∃ B c, e = .returned (.slice B 4096 c) ∧ Rd w' B (bytesAt M ((j + 1) * 4096) 4096) ∧ Bl W w' := fun W k j hj => by
          have := rp_bytes (hr.bl k) ((j + 1) * 4096) 4096 (by omega) (by omega)
          rwa [show (((j + 1) * 4096 : Nat) : Int) = IntKind.u64.wrap (IntKind.u64.wrap (IntKind.i64.wrap ((j : Int) + 1)) * 4096) by rw [IntWalk.i64_in _ (by omega), IntWalk.u64_in ((j : Int) + 1) (by omega), IntWalk.u64_in _ (by omega)]; omega] at this
        have CPK := Lib.hid cpk; clear cpk
        have CBY := Lib.hid cby; clear cby hm hr
        unfold addr0 at CPK CBY
        go_wp2_with fail
        go_loopw [16] (fun i wr => ∃ j : Nat, j ≤ 3 ∧ i = .int .i64 j ∧ Bl V wr) (fun i _ => 3 - (intOf i).toNat)
        case atStart => exact ⟨0, by omega, rfl, Bl.refl _⟩
        case round =>
          obtain ⟨j, hj, rfl, hkr⟩ := hrel
          have KR := Lib.hid hkr; clear hkr
          by_cases hlt3 : j < 3
          · have hltI : (j : Int) < 3 := by omega
            obtain ⟨c0, c1, c2⟩ := (HH.out.bl KR.out).cells
            unfold addr0 at c2
            go_wp2_with fail
            have hS : wr.cell? ⟨hb, 35, none⟩ = some (.pointer (some ⟨rb, 0, none⟩)) ∧ Bl V wr := ⟨c2, KR.out⟩
            clear c0 c1 c2
            go_region_held3 (fun w' => w'.cell? ⟨hb, 35, none⟩ = some (.pointer (some ⟨rb, 0, none⟩)) ∧ Bl V w') (first | assumption | exact hS | exact keepR hS ((Bl.refl wr).drewN 1)) (first | (go_at_call 16; with_reducible refine (CPK.out _ (by first | exact hS.2 | exact And.right (a := World.cell? _ ⟨hb, 35, none⟩ = some (.pointer (some ⟨rb, 0, none⟩))) (by assumption) | exact (keepR hS ((Bl.refl wr).drewN 1)).2) j hlt3).mono ?_; intro e w9 hp; unfold ReadPost at hp; obtain ⟨he, hb9, k9⟩ := hp; subst he; rw [drew_size] at hb9; have rd9 := rd_row hb9; have hkk := keepR (by first | assumption | exact hS | exact keepR hS ((Bl.refl wr).drewN 1)) k9) | (go_at_call 17; with_reducible refine (CBY.out _ hkk.2 j hlt3).mono ?_; rintro e w11 ⟨B, c, rfl, rd11, k11⟩; have rd10 := rd9.below k11; have hkk2 := keepR hkk k11) | (go_at_call 15; with_reducible refine (sameB_any _ _ 4096 4096 c (bytesAt M ((j + 1) * 4096) 4096) _ rd10 rd11 (bytesAt_length _ _ _) (by omega)).mono ?_; rintro e w12 ⟨rfl, m12, rfl⟩; have hkk3 := keepR hkk2 ((Bl.refl w11).drewN m12)))
            all_goals (
              (try go_wp2_with fail)
              refine ⟨⟨j + 1, by omega, by go_num, hkk3.2⟩, ?_⟩
              simp only [intOf]; omega)
          · obtain rfl : j = 3 := by omega
            go_wp2_with fail
            go_ret
            exact ⟨rfl, HBL.out.trans KR.out⟩
end Go.Proofs.Ytpalhkfipnbcnaa
