/-
  Clear of whole pages: few of them, one by one.
-/
import Derived.Test.YtpalhkfipnbcnaaPageG
set_option linter.unusedVariables false
set_option linter.unusedSimpArgs false
namespace Go.Proofs.Ytpalhkfipnbcnaa
open Go.RowKit
set_option maxRecDepth 100000
set_option maxHeartbeats 4000000 in
theorem clear_narrow {Y : Rest} {S : Nat → Prop} {w : World} {sb n k : Nat} {f : Nat → Option Nat} {M st : Nat → Int} (h : StoreAt Y S w sb n f k M st) (q0 q1 : Nat) (h01 : q0 ≤ q1) (hq1 : q1 < 67108864) (hq : q1 < q0 + 4096) (hn : n < 80000000) (hS : ∀ b, w.heap.size ≤ b → S b) :
    Calls Try.prog 70 #[.pointer (some ⟨sb, 1, none⟩), .int .u64 ((q0 * 4096 : Nat) : Int), .int .u64 (((q1 + 1) * 4096 : Nat) : Int)] w fun e w' => e = .returned (.tuple #[]) ∧ (∃ k' st', StoreAt Y S w' sb (n + 8192) (cut f q0 (q1 + 1 - q0)) k' (wiped M (q0 * 4096) ((q1 + 1) * 4096)) st' ∧ k' + hcnt f q0 (q1 + 1 - q0) = k ∧ Rise st st' (fun p => q0 ≤ p ∧ p ≤ q1)) ∧ Fr S w w' := by
  obtain ⟨a, ha⟩ : ∃ a, a = q0 * 4096 := ⟨_, rfl⟩
  obtain ⟨b, hb⟩ : ∃ b, b = (q1 + 1) * 4096 := ⟨_, rfl⟩
  have cw := fun W => pwithin_in (a : Int) (b : Int) W (by omega)
  have ce := fun W => empty_any (a : Int) (b : Int) W
  rw [decide_eq_false (by omega)] at ce
  have cs := fun (W : World) (hW : StoreAt Y (less S W.heap.size) (W.alloc (box48 a b)) sb n f k M st) => hW
  have cwi := fun W => wide_i (a : Int) (b : Int) W (by omega) (by omega) (by omega)
  rw [decide_eq_false (by omega)] at cwi
  have cf := fun W => first_i (a : Int) (b : Int) W (by omega) (by omega)
  have cl := fun W => last_i (a : Int) (b : Int) W (by omega) (by omega)
  have e0 : (a : Int) / 4096 = (q0 : Int) := by omega
  have e1 : ((b : Int) - 1) / 4096 = (q1 : Int) := by omega
  rw [e0] at cf
  rw [e1] at cl
  clear cs e0 e1
  have cst := fun (W : World) (S' : Nat → Prop) (hW : StoreAt Y S' W sb n f k M st) (hS' : ∀ b, W.heap.size ≤ b → S' b) => stampAll_narrow hW a b (by omega) (by omega) (by omega) (by omega) hS'
  have cwp := fun (W : World) (S' : Nat → Prop) (k' : Nat) (f' : Nat → Option Nat) (M' st' : Nat → Int) (hW : StoreAt Y S' W sb (n + 8192) f' k' M' st') (num : Nat) (h0 : q0 ≤ num) (h1 : num ≤ q1) => wipe_any hW num (by omega) (a : Int) (b : Int) (by omega) (by omega) (by omega) (by omega)
  rw [← ha, ← hb]
  have HA := Lib.hid ha; clear ha
  have HB := Lib.hid hb; clear hb
  have HH := Lib.hid h; clear h
  have HS := Lib.hid hS; clear hS
  have CW := Lib.hid cw; clear cw
  have CE := Lib.hid ce; clear ce
  have CWI := Lib.hid cwi; clear cwi
  have CF := Lib.hid cf; clear cf
  have CL := Lib.hid cl; clear cl
  have CST := Lib.hid cst; clear cst
  have CWP := Lib.hid cwp; clear cwp
  generalize (a : Int) = A at *
  generalize (b : Int) = B at *
  (try unfold addr0 at *); (try unfold span at *)
  go_enter Try.func70, Try.ntmps70
  go_wp2_with fail
  refine (CW.out _).mono ?_
  rintro e w1 ⟨rfl, bl1⟩
  have h1 : StoreAt Y (less S w1.heap.size) (w1.alloc (box48 A B)) sb n f k M st := (HH.out.bl bl1).less _
  have hS1 : ∀ b, w1.heap.size ≤ b → S b := fun b hb => HS.out b (Nat.le_trans bl1.size hb)
  have fr1 : Fr (less S w1.heap.size) (w1.alloc (box48 A B)) (w1.alloc (box48 A B)) := Fr.refl _ _
  have FR1 := Lib.hid fr1; clear fr1
  have H1 := Lib.hid h1; clear h1
  have HS1 := Lib.hid hS1; clear hS1
  have BL1 := Lib.hid bl1; clear bl1
  go_wp2_with fail
  refine (CE.out _).mono ?_
  rintro e w2 ⟨rfl, bl2⟩
  have fr2 := FR1.out.trans (Fr.of_bl bl2)
  have h2 := H1.out.bl bl2
  obtain ⟨c0, c1⟩ := two_cells (box_at fr2)
  have FR2 := Lib.hid fr2; clear fr2 FR1 bl2
  have H2 := Lib.hid h2; clear h2 H1
  go_wp2_with fail
  refine (CST.out _ _ H2.out (less_new HS1.out FR2.out.size)).mono ?_
  rintro e w3 ⟨rfl, ⟨st', h3, hris⟩, fr3⟩
  have HRIS := Lib.hid hris; clear hris
  have fr3' := FR2.out.trans fr3
  clear c0 c1
  obtain ⟨c0, c1⟩ := two_cells (box_at fr3')
  have FR3 := Lib.hid fr3'; clear fr3' fr3 FR2
  have H3 := Lib.hid h3; clear h3 H2
  go_wp2_with fail
  refine (CWI.out _).mono ?_
  rintro e w4 ⟨rfl, bl4⟩
  have fr4 := FR3.out.trans (Fr.of_bl bl4)
  have h4 := H3.out.bl bl4
  clear c0 c1
  obtain ⟨c0, c1⟩ := two_cells (box_at fr4)
  have FR4 := Lib.hid fr4; clear fr4 FR3 bl4
  have H4 := Lib.hid h4; clear h4 H3
  go_wp2_with fail
  refine (CF.out _).mono ?_
  rintro e w5 ⟨rfl, bl5⟩
  have fr5 := FR4.out.trans (Fr.of_bl bl5)
  have h5 := H4.out.bl bl5
  clear c0 c1
  have FR5 := Lib.hid fr5; clear fr5 FR4 bl5
  have H5 := Lib.hid h5; clear h5 H4
  go_wp2_with fail
  go_loopw [8] (fun v wr => ∃ j k' : Nat, v = .int .u64 ((q0 + j : Nat) : Int) ∧ q0 + j ≤ q1 + 1 ∧ StoreAt Y (less S w1.heap.size) wr sb (n + 8192) (cut f q0 j) k' (wiped M (q0 * 4096) ((q0 + j) * 4096)) st' ∧ k' + hcnt f q0 j = k ∧ Fr (less S w1.heap.size) (w1.alloc (box48 A B)) wr) (fun v _ => q1 + 1 - (intOf v).toNat)
  case atStart =>
    refine ⟨0, k, rfl, by omega, ?_, rfl, FR5.out⟩
    have e1 : cut f q0 0 = f := by funext p; simp only [cut]; rw [if_neg (by omega)]
    have e2 : wiped M (q0 * 4096) ((q0 + 0) * 4096) = M := by funext x; simp only [wiped]; rw [if_neg (by omega)]
    rw [e1, e2]; exact H5.out
  case round =>
    obtain ⟨j, k', rfl, hj, hst, hk, hfr⟩ := hrel
    clear H5 FR5
    obtain ⟨c0, c1⟩ := two_cells (box_at hfr)
    have HST := Lib.hid hst; clear hst
    have HFR := Lib.hid hfr; clear hfr
    have HK := Lib.hid hk; clear hk
    go_wp2_with fail
    refine (CL.out _).mono ?_
    rintro e w6 ⟨rfl, bl6⟩
    have fr6 := HFR.out.trans (Fr.of_bl bl6)
    have h6 := HST.out.bl bl6
    clear c0 c1
    obtain ⟨c0, c1⟩ := two_cells (box_at fr6)
    have FR6 := Lib.hid fr6; clear fr6
    have H6 := Lib.hid h6; clear h6 bl6
    by_cases hlt : q0 + j ≤ q1
    · have hltI : ((q0 + j : Nat) : Int) ≤ (q1 : Int) := by omega
      obtain ⟨x, hx⟩ : ∃ x, x = q0 + j := ⟨_, rfl⟩
      rw [← hx] at hltI ⊢
      have hxb : (x : Int) ≤ 67108864 := by omega
      have HX := Lib.hid hx; clear hx
      go_wp2_with fail
      refine (CWP.out _ _ _ _ _ _ H6.out x (by have := HX.out; omega) (by have := HX.out; omega)).mono ?_
      rintro e w7 ⟨rfl, ⟨k7, h7, hk7⟩, fr7⟩
      have H7 := Lib.hid h7; clear h7
      have FR7 := Lib.hid fr7; clear fr7
      have HK7 := Lib.hid hk7; clear hk7
      clear c0 c1
      go_wp2_with fail
      have hx := HX.out
      refine ⟨⟨j + 1, k7, by congr 1; omega, by omega, ?_, ?_, FR6.out.trans FR7.out⟩, ?_⟩
      · have h7 := H7.out
        rw [hx, cut_step, wiped_step] at h7
        exact h7
      · have h8 := HK7.out
        have h9 := HK.out
        rw [hx] at h8
        have e1 : cut f q0 j (q0 + j) = f (q0 + j) := by simp only [cut]; rw [if_neg (by omega)]
        rw [e1] at h8
        simp only [hcnt]
        omega
      · simp only [intOf]
        omega
    · have hgt : (q1 : Int) < ((q0 + j : Nat) : Int) := by omega
      have hjj : j = q1 + 1 - q0 := by omega
      have HJ := Lib.hid hjj
      clear hlt hjj c0 c1
      go_wp2_with fail
      go_end0
      have hjj := HJ.out
      refine ⟨rfl, ⟨k', st', ?_, by rw [← hjj]; exact HK.out, HRIS.out.mono fun p hp => by have := HA.out; have := HB.out; omega⟩, (Fr.of_bl BL1.out).trans FR6.out.unless⟩
      have h6 := H6.out.among (T := S) (fun _ _ e => e.1)
      rw [hjj] at h6
      rw [show q0 + (q1 + 1 - q0) = q1 + 1 by omega] at h6
      rw [HA.out, HB.out]
      exact h6
end Go.Proofs.Ytpalhkfipnbcnaa
