/-
  The walk of InstFar's law where the number is not one of whole pages.
-/
import Derived.Test.YtjafiadcdickcaaDoorInstQ
import Derived.Test.YtjafiadcdickcaaDoorStrip
import Derived.Test.YtjafiadcdickcaaDoorFarM
set_option linter.unusedVariables false
set_option linter.unusedSimpArgs false
namespace Go.Proofs.YtjafiadcdickcaaDoor
open Go.RowKit
set_option maxRecDepth 100000 in
set_option maxHeartbeats 20000000 in
theorem instFar_FarF (n : Int) (hn : (Lit.int .i64 n).wf = true) (x : Int) (hx : (Lit.int .u8 x).wf = true) (y : Int) (hy : (Lit.int .u8 y).wf = true) (w : World) (hT : Tabs w) (h4 : (n.tmod 4096 == 0) = false) :
    Calls Tryd.prog 8 #[.int .i64 n, .int .u8 x, .int .u8 y] w fun e w' => e = .returned (.bool true) ∧ Kp none w w' := by
  obtain ⟨x0, x1⟩ := u8_bd x hx
  obtain ⟨y0, y1⟩ := u8_bd y hy
  obtain ⟨n0, n1⟩ := i64_bd n hn
  clear hx hy hn
  have hd : x.tmod 32 = x % 32 := Int.tmod_eq_emod_of_nonneg x0
  have he : y.tmod 32 = y % 32 := Int.tmod_eq_emod_of_nonneg y0
  obtain ⟨d, hd2⟩ : ∃ d : Int, d = x % 32 := ⟨_, rfl⟩
  obtain ⟨e, he2⟩ : ∃ e : Int, e = y % 32 := ⟨_, rfl⟩
  have dd : 0 ≤ d ∧ d < 32 := by omega
  have ee : 0 ≤ e ∧ e < 32 := by omega
  rw [← hd2] at hd
  rw [← he2] at he
  clear hd2 he2
  have HA := Lib.hid (fun w h => sound_any ⟨3, d, 0, 0, n, 0, 4⟩ w h)
  have QA := Lib.hid (farA n d e dd ee)
  generalize encB ⟨3, d, 0, 0, n, 0, 4⟩ = A at *
  have HB := Lib.hid (fun w h => sound_any ⟨6, 0, d, e, n, 0, 4⟩ w h)
  have QB := Lib.hid (farB n d e dd ee)
  generalize encB ⟨6, 0, d, e, n, 0, 4⟩ = B at *
  have HC := Lib.hid (fun w h => sound_any ⟨14, d, e, 0, n, 0, 4⟩ w h)
  have QC := Lib.hid (farC n d e dd ee)
  generalize encB ⟨14, d, e, 0, n, 0, 4⟩ = C at *
  have HE := Lib.hid (fun w h => sound_any ⟨18, 0, d, e, n, 0, 4⟩ w h)
  have QE := Lib.hid (farE n d e dd ee)
  generalize encB ⟨18, 0, d, e, n, 0, 4⟩ = E at *
  have HF := Lib.hid (fun w h => sound_any ⟨1, d, 0, 0, n, 0, 4⟩ w h)
  have QF := Lib.hid (farF n d e dd ee)
  generalize encB ⟨1, d, 0, 0, n, 0, 4⟩ = F at *
  have HG := Lib.hid (fun w h => sound_any ⟨30, d, e, 0, n, 0, 4⟩ w h)
  have QG := Lib.hid (farG n d e dd ee)
  generalize encB ⟨30, d, e, 0, n, 0, 4⟩ = G at *
  have HH := Lib.hid (fun w h => sound_any ⟨44, d, e, 0, n, 0, 4⟩ w h)
  have QH := Lib.hid (farH n d e dd ee)
  generalize encB ⟨44, d, e, 0, n, 0, 4⟩ = H at *
  have HZ := Lib.hid (fun w h => answers_any w h)
  go_enter Tryd.func8, Tryd.ntmps8
  go_wp2_with fail
  refine (HA.out _ (hT.kp (Kp.refl none w))).mono ?_
  rintro e1 w1 ⟨rfl, k1⟩
  have K1 := (Kp.refl none w).trans k1
  go_wp2_with fail
  refine (HB.out _ (hT.kp K1)).mono ?_
  rintro e1 w2 ⟨rfl, k2⟩
  have K2 := K1.trans k2
  go_wp2_with fail
  refine (HC.out _ (hT.kp K2)).mono ?_
  rintro e1 w3 ⟨rfl, k3⟩
  have K3 := K2.trans k3
  go_wp2_with fail
  refine (HE.out _ (hT.kp K3)).mono ?_
  rintro e1 w4 ⟨rfl, k4⟩
  have K4 := K3.trans k4
  go_wp2_with fail
  refine (HF.out _ (hT.kp K4)).mono ?_
  rintro e1 w5 ⟨rfl, k5⟩
  have K5 := K4.trans k5
  go_wp2_with fail
  refine (HG.out _ (hT.kp K5)).mono ?_
  rintro e1 w6 ⟨rfl, k6⟩
  have K6 := K5.trans k6
  go_wp2_with fail
  refine (HH.out _ (hT.kp K6)).mono ?_
  rintro e1 w7 ⟨rfl, k7⟩
  have K7 := K6.trans k7
  clear HA HB HC HE HF HG HH hd he dd ee
  have hm : n % 4096 ≠ 0 := fun h => by rw [tmod_b n 4096 (by decide), decide_eq_true h] at h4; cases h4
  obtain ⟨rfl, rfl, rfl, rfl, rfl, rfl, rfl⟩ : A = ((n.tmod 2 == 0) && (decide ((-1048576 : Int) ≤ n) && (decide (n < (1048576 : Int))))) ∧ B = ((n.tmod 2 == 0) && (decide ((-4096 : Int) ≤ n) && (decide (n < (4096 : Int))))) ∧ C = (decide ((-2048 : Int) ≤ n) && (decide (n ≤ (2047 : Int)))) ∧ E = (decide ((-2048 : Int) ≤ n) && (decide (n ≤ (2047 : Int)))) ∧ F = false ∧ G = (decide ((0 : Int) ≤ n) && (decide (n < (64 : Int)))) ∧ H = (decide ((0 : Int) ≤ n) && (decide (n < (32 : Int)))) := by
    have r2 : (n.tmod 2 == 0) = decide (n % 2 = 0) := tmod_b n 2 (by decide)
    rw [r2, QA.out, QB.out, QC.out, QE.out, QG.out, QH.out]
    refine ⟨?_, ?_, ?_, ?_, ?_, ?_, ?_⟩
    · simp only [Bool.decide_and]
    · simp only [Bool.decide_and]
    · simp only [Bool.decide_and]
    · simp only [Bool.decide_and]
    · rw [QF.out]; exact decide_eq_false (fun h => hm h.1)
    · simp only [Bool.decide_and]
    · simp only [Bool.decide_and]
  clear QA QB QC QE QF QG QH
  have h5 : (n % 4096 == 0) = false := by simpa using hm
  clear hm
  go_wp2_with fail
  all_goals
    refine (HZ.out _ (hT.kp K7)).mono ?_
    rintro e1 w8 ⟨rfl, k8⟩
    first
      | (rename_i X hX; refine hX _ _ ?_; refine wpList_strip _ _ _ ?_; clear hX X)
      | (rename_i X hX hh; refine hX _ _ ?_; refine wpList_strip _ _ _ ?_; clear hX X)
      | (rename_i hh X hX; refine hX _ _ ?_; refine wpList_strip _ _ _ ?_; clear hX X)
    simp only [List.append_eq, List.cons_append, List.nil_append, List.map_toArray, List.map_cons, List.map_nil, stripO]
    go_wp2
  all_goals
    go_ret
    refine ⟨?_, K7.trans k8⟩
    first
      | rfl
      | (refine ret_bool ?_; simp_all; done)
      | (refine ret_bool ?_; have r2 := tmod_b n 2 (by decide); have r4 := tmod_b n 4096 (by decide); simp_all; done)
      | (exfalso; have r2 := tmod_b n 2 (by decide); have r4 := tmod_b n 4096 (by decide); simp_all; done)
      | (exfalso; have r2 := tmod_b n 2 (by decide); have r4 := tmod_b n 4096 (by decide); simp_all; omega)
      | (exfalso; have r2 := Int.tmod_eq_emod_of_nonneg (a := n) (b := 2) (by assumption); simp_all; done)
      | (exfalso; have r2 := Int.tmod_eq_emod_of_nonneg (a := n) (b := 2) (by assumption); simp_all; omega)
end Go.Proofs.YtjafiadcdickcaaDoor
