/-
  For every list of acts the law RegionActs returns true: Map, Unmap and Protect answer alike of the list and of a space that is kept page by page, and behind each both have the same regions and as many pages. No condition.
-/
import Derived.Test.YtilahffbfephbaaRows
import Derived.Test.YtilahffbfephbaaActA
import Derived.Test.YtilahffbfephbaaHead
import Derived.Deep.Cut
import Derived.Deep.CutRange
import Derived.Deep.CutBlock
import Derived.WalkKit
import Derived.ProofKit
import Derived.OpenShut
import Derived.ShutString
import Derived.ChangeOld
import Derived.Below
namespace Go.Proofs.Ytilahffbfephbaa.regionActs
open Go.ChangeShapes Go.WideShapes Go.ChangeAt Go.RowKit
open Go.ChangeMaps (open_string shut_string)
set_option linter.unusedVariables false
set_option linter.unusedSimpArgs false
set_option maxRecDepth 100000

theorem own : ownKnob Try.prog.godebug = none := by kernel_rfl
theorem laidOut : laidOutB Try.prog = true := by kernel_rfl

/-! ### The walk: the Go text returns true -/
theorem ListAt.ty {w : World} {b : Nat} {L : List Rg} (h : ListAt w b L) : ∃ v, w.heap[b]? = some (.cells #[v] 65 (0, 0)) := by
  obtain ⟨v, h1, _⟩ := h; exact ⟨v, h1⟩
set_option maxHeartbeats 20000000 in
theorem walk (a0 : Option Addr) (len0 cap0 : Nat) (w : World) (w0 : ActsAt w a0 len0) (hlen : len0 ≤ 9223372036854775807) :
    Calls Try.prog 3 #[.slice a0 len0 cap0] w fun e w' => e = .returned (.bool true) ∧ Below w.heap.size w w' := by
  have HA := Lib.hid w0; clear w0
  have hlI : (len0 : Int) ≤ 9223372036854775807 := by omega
  have hl0 : (0 : Int) ≤ (len0 : Int) := by omega
  go_enter Try.func3, Try.ntmps3
  go_wp2_with fail
  refine (new_any _).mono ?_
  rintro e w1 ⟨b, rfl, hb, l1, k1⟩
  have HB := Lib.hid hb; clear hb
  have L1 := Lib.hid l1; clear l1
  have K1 := Lib.hid k1; clear k1
  go_wp2_with fail
  refine (newS_any _).mono ?_
  rintro e w2 ⟨sb, rfl, hsb, l2, k2⟩
  have hboth : Both w b sb [] w2 := ⟨by rw [regs_nil]; exact L1.out.bl k2, l2, Pgs.nil _, K1.out.trans k2, HB.out, Nat.le_trans K1.out.size hsb⟩
  have HBO := Lib.hid hboth; clear hboth hsb l2 k2 HB L1 K1
  unfold addr0
  go_wp2_with fail
  refine (answers_any _).mono ?_
  rintro e w3 ⟨rfl, k3⟩
  have HBO2 := Lib.hid (HBO.out.next k3); clear k3 HBO
  go_wp2_with fail
  go_loopw [5, 6, 7, 8, 9, 10, 11] (fun i _ _ _ _ _ _ wr => ∃ (k : Nat) (P : List Pg), k ≤ 60 ∧ i = .int .i64 k ∧ Both w b sb P wr) (fun i _ _ _ _ _ _ _ => 60 - (intOf i).toNat)
  case atStart => exact ⟨0, [], by omega, rfl, HBO2.out⟩
  case round =>
    obtain ⟨k, P, hk, rfl, hbo⟩ := hrel
    clear HBO2
    have HBO := Lib.hid hbo; clear hbo
    have hkI : (k : Int) ≤ 60 := by omega
    by_cases hgo : k < len0 ∧ k < 60
    · obtain ⟨g1, g2⟩ := hgo
      obtain ⟨bb, off, ha, hcs⟩ := (HA.out.bl HBO.out.bl) (by omega)
      subst ha
      obtain ⟨d, A, N, p, odd, c0, c1, c2, c3, c4⟩ := hcs k g1
      clear hcs
      have g1I : (k : Int) < (len0 : Int) := by omega
      have g2I : (k : Int) < 60 := by omega
      go_wp2_with fail
      refine (span_any _ d A N p odd).mono ?_
      rintro e w4 ⟨s, t, rfl, hs0, hs1, ht0, ht1, hsp, k4⟩
      have HSP := Lib.hid hsp; clear hsp
      clear c0 c1 c2 c3 c4
      have hbox := k4.at_ (heap_alloc_new wr (.cells #[.int .i64 d, .int .i64 A, .int .i64 N, .int .i64 p, .bool odd] 29))
      have HBO4 := Lib.hid (HBO.out.next ((Bl.new wr _).trans k4)); clear k4 HBO
      have b0 : w4.cell? ⟨wr.heap.size, 0, none⟩ = some (.int .i64 d) := by rw [cell_of_row w4 _ 0 _ 29 (0, 0) hbox]; rfl
      have b3 : w4.cell? ⟨wr.heap.size, 3, none⟩ = some (.int .i64 p) := by rw [cell_of_row w4 _ 3 _ 29 (0, 0) hbox]; rfl
      obtain ⟨bx, hbx⟩ : ∃ bx, bx = wr.heap.size := ⟨_, rfl⟩
      rw [← hbx] at b0 b3 hbox ⊢
      clear hbx
      have HBOX := Lib.hid hbox; clear hbox
      have HBO := HBO4; clear HBO4
      obtain ⟨ok, hok⟩ : ∃ ok : Bool, ok = true ↔ (Span s t ∧ 0 ≤ p ∧ p ≤ 7) := by
        by_cases h : Span s t ∧ 0 ≤ p ∧ p ≤ 7
        · exact ⟨true, by simp [h]⟩
        · exact ⟨false, by simp [h]⟩
      have HOK := Lib.hid hok; clear hok
      have BOX : ∀ (bo : Nat) (w5 : World), Fr (only bo) w4 w5 → (∃ v, w4.heap[bo]? = some (.cells #[v] 65 (0, 0))) → w5.cell? ⟨bx, 3, none⟩ = some (.int .i64 p) := fun bo w5 f ⟨v, hv⟩ => by
        have h1 := f.at_ HBOX.out (fun e => by rw [show bx = bo from e, hv] at HBOX; have := HBOX.out; cases this)
        rw [cell_of_row w5 _ 3 _ 29 (0, 0) h1]; rfl
      have BOX2 := Lib.hid BOX; clear BOX
      go_upto_region 11 with (fail)
      go_cut [11] from 39 to 51 (fun s11 wx => s11 = .bool ok ∧ w4 = wx)
      case first =>
        by_cases hsp : Span s t
        · have HSY := Lib.hid hsp; clear hsp
          go_wp2_with fail
          refine (refSpan_yes s t _ hs0 HSY.out).mono ?_
          rintro e w' ⟨rfl, rfl⟩
          by_cases p0 : 0 ≤ p
          · by_cases p7 : p ≤ 7
            · have hk : ok = true := HOK.out.2 ⟨HSY.out, p0, p7⟩
              subst hk
              have q7 : decide (p ≤ 7) = true := by simp [p7]
              go_wp2_with fail
              go_meet
              case rel => exact ⟨rfl, rfl⟩
            · have hk : ok = false := by
                rcases ok with _ | _
                · rfl
                · exact absurd (HOK.out.1 rfl).2.2 p7
              subst hk
              have q7 : decide (p ≤ 7) = false := by simp; omega
              go_wp2_with fail
              go_meet
              case rel => exact ⟨rfl, rfl⟩
          · have hk : ok = false := by
              rcases ok with _ | _
              · rfl
              · exact absurd (HOK.out.1 rfl).2.1 p0
            subst hk
            have p0' : p < 0 := by omega
            have q0 : decide (0 ≤ p) = false := by simp; omega
            go_wp2_with fail
            go_meet
            case rel => exact ⟨rfl, rfl⟩
        · have HSN := Lib.hid hsp; clear hsp
          have hk : ok = false := by
            rcases ok with _ | _
            · rfl
            · exact absurd (HOK.out.1 rfl).1 HSN.out
          subst hk
          go_wp2_with fail
          refine (refSpan_no s t _ hs0 (by omega) ht0 (by omega) HSN.out).mono ?_
          rintro e w' ⟨rfl, rfl⟩
          go_wp2_with fail
          go_meet
          case rel => exact ⟨rfl, rfl⟩
      case rest =>
        obtain ⟨rfl, rfl⟩ := hcut
        go_upto_block 2 with (fail)
        go_cut [9, 10, 11] from 54 to 101 (fun s9 s10 s11 wx => ∃ (P' : List Pg) (ok' : Bool) (e0 x10 : Int), s9 = .int .i64 e0 ∧ s10 = .int .i64 x10 ∧ s11 = .bool ok' ∧ Both w b sb P' wx ∧ (ok' = true → x10 = e0) ∧ (ok' = false → e0 = 22))
        case first =>
          by_cases d1 : d = 1
          · subst d1
            rcases ok with _ | _
            · have hno : ¬ (Span s t ∧ 0 ≤ p ∧ p ≤ 7) := fun h => by have := HOK.out.2 h; cases this
              have HNO := Lib.hid hno; clear hno
              go_wp2_with fail
              refine (map_no b s t p hs0 (by omega) ht0 (by omega) HNO.out).mono ?_
              rintro e w3 ⟨rfl, k3⟩
              have HB4 := Lib.hid (HBO.out.next k3); clear k3
              go_wp2_with fail
              go_meet
              case rel => exact ⟨_, _, _, _, rfl, rfl, rfl, HB4.out, (fun h => by first | rfl | cases h), (fun h => by first | rfl | cases h)⟩
            · have hy := HOK.out.1 rfl
              have HY := Lib.hid hy; clear hy
              have hst : s ≤ t := by have := HY.out.1.2.2.1; omega
              go_wp2_with fail
              refine (map_ok HBO.out.list s t p hs0 HY.out.1 HY.out.2.1 HY.out.2.2 (by have := regs_len HBO.out.pgs; omega) (lay_few HBO.out.pgs hs0 HY.out.1 (HSP.out HY.out.1))).mono ?_
              rintro e w3 ⟨rfl, l3, f3⟩
              have L3 := Lib.hid l3; clear l3
              have S3 := Lib.hid (space_list HBO.out.list HBO.out.space f3)
              have F3 := Lib.hid f3; clear f3
              have c3 : w3.cell? ⟨bx, 3, none⟩ = some (.int .i64 p) := BOX2.out b w3 F3.out (ListAt.ty HBO.out.list)
              go_wp2_with fail
              refine (rlay_any S3.out HBO.out.pgs s t p hs0 HY.out.1 (HSP.out HY.out.1)).mono ?_
              rintro e w4 ⟨rfl, P4, s4, p4, o4, f4⟩
              have HB4 := Lib.hid (HBO.out.lay hs0 HY.out.1 L3.out F3.out f4 s4 p4 o4)
              clear s4 p4 o4 f4 c3
              go_wp2_with fail
              go_meet
              case rel => exact ⟨_, _, _, _, rfl, rfl, rfl, HB4.out, (fun h => by first | rfl | cases h), (fun h => by first | rfl | cases h)⟩
          · by_cases d2 : d = 2
            · subst d2
              clear d1
              by_cases hsp : Span s t
              · have HSPN := Lib.hid hsp; clear hsp
                go_wp2_with fail
                refine (unmap_ok HBO.out.list s t hs0 HSPN.out (by have := regs_len HBO.out.pgs; omega) (cut_few HBO.out.pgs hs0 HSPN.out)).mono ?_
                rintro e w3 ⟨rfl, l3, f3⟩
                have L3 := Lib.hid l3; clear l3
                have S3 := Lib.hid (space_list HBO.out.list HBO.out.space f3)
                have F3 := Lib.hid f3; clear f3
                go_wp2_with fail
                refine (refSpan_yes s t _ hs0 HSPN.out).mono ?_
                rintro e w' ⟨rfl, rfl⟩
                have hst : s ≤ t := by have := HSPN.out.2.2.1; omega
                go_wp2_with fail
                refine (runmap_any S3.out HBO.out.pgs s t hs0 HSPN.out).mono ?_
                rintro e w4 ⟨rfl, P4, s4, p4, o4, f4⟩
                have HB4 := Lib.hid (HBO.out.cut hs0 HSPN.out L3.out F3.out f4 s4 p4 o4)
                clear s4 p4 o4 f4
                go_wp2_with fail
                go_meet
                case rel => exact ⟨_, _, _, _, rfl, rfl, rfl, HB4.out, (fun h => by first | rfl | cases h), (fun h => by first | rfl | cases h)⟩
              · have HSPN := Lib.hid hsp; clear hsp
                go_wp2_with fail
                refine (unmap_no b s t hs0 (by omega) ht0 (by omega) HSPN.out).mono ?_
                rintro e w3 ⟨rfl, k3⟩
                have HB4 := Lib.hid (HBO.out.next k3); clear k3
                go_wp2_with fail
                refine (refSpan_no s t _ hs0 (by omega) ht0 (by omega) HSPN.out).mono ?_
                rintro e w' ⟨rfl, rfl⟩
                go_wp2_with fail
                go_meet
                case rel => exact ⟨_, _, _, _, rfl, rfl, rfl, HB4.out, (fun h => by first | rfl | cases h), (fun h => by first | rfl | cases h)⟩
            · by_cases d3 : d = 3
              · subst d3
                clear d1 d2
                rcases ok with _ | _
                · have hno : ¬ (Span s t ∧ 0 ≤ p ∧ p ≤ 7) := fun h => by have := HOK.out.2 h; cases this
                  have HNO := Lib.hid hno; clear hno
                  go_wp2_with fail
                  refine (protect_no b s t p hs0 (by omega) ht0 (by omega) HNO.out).mono ?_
                  rintro e w3 ⟨rfl, k3⟩
                  have HB4 := Lib.hid (HBO.out.next k3); clear k3
                  go_wp2_with fail
                  go_meet
                  case rel => exact ⟨_, _, _, _, rfl, rfl, rfl, HB4.out, (fun h => by first | rfl | cases h), (fun h => by first | rfl | cases h)⟩
                · have hy := HOK.out.1 rfl
                  have HY := Lib.hid hy; clear hy
                  have hst : s ≤ t := by have := HY.out.1.2.2.1; omega
                  by_cases hm : Mapped (regs P) s t
                  · have hm2 : ∀ y, s ≤ y → y < t → ∃ q, OnP P y q := fun y h1 h2 => by
                      obtain ⟨q, hq⟩ := hm y h1 h2
                      exact ⟨q, (regs_in HBO.out.pgs y q).1 hq⟩
                    have HM := Lib.hid hm; clear hm
                    have HM2 := Lib.hid hm2; clear hm2
                    go_wp2_with fail
                    refine (protect_ok HBO.out.list (regs_rs HBO.out.pgs).nm.so s t p hs0 HY.out.1 HY.out.2.1 HY.out.2.2 (by have := regs_len HBO.out.pgs; omega) HM.out (lay_few HBO.out.pgs hs0 HY.out.1 (HSP.out HY.out.1))).mono ?_
                    rintro e w3 ⟨rfl, l3, f3⟩
                    have L3 := Lib.hid l3; clear l3
                    have S3 := Lib.hid (space_list HBO.out.list HBO.out.space f3)
                    have F3 := Lib.hid f3; clear f3
                    have c3 : w3.cell? ⟨bx, 3, none⟩ = some (.int .i64 p) := BOX2.out b w3 F3.out (ListAt.ty HBO.out.list)
                    go_wp2_with fail
                    refine (rprotect_ok S3.out HBO.out.pgs s t p hs0 HY.out.1 HY.out.2.1 HY.out.2.2 HM2.out).mono ?_
                    rintro e w4 ⟨rfl, P4, s4, p4, o4, f4⟩
                    have HB4 := Lib.hid (HBO.out.lay hs0 HY.out.1 L3.out F3.out f4 s4 p4 o4)
                    clear s4 p4 o4 f4 c3
                    go_wp2_with fail
                    go_meet
                    case rel => exact ⟨_, _, _, _, rfl, rfl, rfl, HB4.out, (fun h => by first | rfl | cases h), (fun h => by first | rfl | cases h)⟩
                  · have hm2 : ¬ ∀ y, s ≤ y → y < t → ∃ q, OnP P y q := fun h => hm fun y h1 h2 => by
                      obtain ⟨q, hq⟩ := h y h1 h2
                      exact ⟨q, (regs_in HBO.out.pgs y q).2 hq⟩
                    have HM := Lib.hid hm; clear hm
                    have HM2 := Lib.hid hm2; clear hm2
                    go_wp2_with fail
                    refine (protect_hole HBO.out.list (regs_rs HBO.out.pgs).nm.so s t p hs0 HY.out.1 HY.out.2.1 HY.out.2.2 (by have := regs_len HBO.out.pgs; omega) HM.out).mono ?_
                    rintro e w3 ⟨rfl, k3⟩
                    have HB3 := Lib.hid (HBO.out.next k3)
                    have c3 : w3.cell? ⟨bx, 3, none⟩ = some (.int .i64 p) := k3.cell' b3
                    clear k3
                    go_wp2_with fail
                    refine (rprotect_hole HB3.out.space HB3.out.pgs s t p hs0 HY.out.1 HY.out.2.1 HY.out.2.2 HM2.out).mono ?_
                    rintro e w4 ⟨rfl, k4⟩
                    have HB4 := Lib.hid (HB3.out.next k4); clear k4 c3
                    go_wp2_with fail
                    go_meet
                    case rel => exact ⟨_, _, _, _, rfl, rfl, rfl, HB4.out, (fun h => by first | rfl | cases h), (fun h => by first | rfl | cases h)⟩
              · have e1 : (d == 1) = false := by simp [d1]
                have e2 : (d == 2) = false := by simp [d2]
                have e3 : (d == 3) = false := by simp [d3]
                clear d1 d2 d3
                go_wp2_with fail
                refine ⟨⟨k + 1, P, by omega, by go_num, HBO.out⟩, ?_⟩
                simp only [intOf]; omega
        case rest =>
          obtain ⟨P', ok', e0, x10, rfl, rfl, rfl, hbc, hx1, hx2⟩ := hcut
          obtain ⟨AS, capS, cs0, _, hpc⟩ := hbc.space.cells
          obtain ⟨nP, hnP⟩ : ∃ nP, nP = P'.length := ⟨_, rfl⟩
          rw [← hnP] at cs0 hpc
          have htot : tot (regs P') / 4096 = (nP : Int) := by
            rw [(regs_all hbc.pgs (by omega)).2.2.1, ← hnP]; omega
          have hnl := hbc.pgs.len
          rw [← hnP] at hnl
          have hnPI : (nP : Int) ≤ 100 := by omega
          have HTOT := Lib.hid htot; clear htot hnP hnl
          have HBC := Lib.hid hbc; clear hbc
          have HPC := Lib.hid hpc; clear hpc
          have HCS := Lib.hid cs0; clear cs0
          clear HBO HSP
          rcases ok' with _ | _
          · obtain rfl := hx2 rfl
            clear hx1 hx2
            go_upto_region 28 with (fail)
            have hS0 : Bl wc wc.drew ∧ wc.drew.cell? ⟨sb, 0, none⟩ = some (.slice AS nP capS) := ⟨(Bl.refl _).drew, HCS.out⟩
            refine wp_region_hd 23 (fun w' => Bl wc w' ∧ w'.cell? ⟨sb, 0, none⟩ = some (.slice AS nP capS)) (by kernel_rfl) (by decide) hS0 (fun hHeld => ?_)
            clear hS0
            refine wpHd_take (i := 0) (v := ?_) rfl (by kernel_rfl) (fun _ _ _ h => h) (Or.inl ⟨by rfl, ?hy⟩) hHeld ?_
            case hy => (intro w hSw; (try dsimp only at hSw); go_split_ands; go_simp; try (with_reducible rfl))
            (try simp only [Act.put, List.getElem_toArray, List.getElem_cons_zero, List.getElem_cons_succ, List.setIfInBounds_toArray, List.set_cons_zero, List.set_cons_succ])
            refine wpHd_take (i := 1) (v := ?_) rfl (by kernel_rfl) (fun _ _ _ h => h) (Or.inl ⟨by rfl, ?hy⟩) hHeld ?_
            case hy => (intro w hSw; (try dsimp only at hSw); go_split_ands; go_simp; try (with_reducible rfl))
            (try simp only [Act.put, List.getElem_toArray, List.getElem_cons_zero, List.getElem_cons_succ, List.setIfInBounds_toArray, List.set_cons_zero, List.set_cons_succ])
            refine wpHd_take (i := 2) (v := ?_) rfl (by kernel_rfl) (fun _ _ _ h => h) (Or.inl ⟨by rfl, ?hy⟩) hHeld ?_
            case hy => (intro w hSw; (try dsimp only at hSw); go_split_ands; go_simp; try (with_reducible rfl))
            (try simp only [Act.put, List.getElem_toArray, List.getElem_cons_zero, List.getElem_cons_succ, List.setIfInBounds_toArray, List.set_cons_zero, List.set_cons_succ])
            refine wpHd_take (i := 3) (v := ?_) rfl (by kernel_rfl) (fun _ _ _ h => h) (Or.inl ⟨by rfl, ?hy⟩) hHeld ?_
            case hy => (intro w hSw; (try dsimp only at hSw); go_split_ands; go_simp; try (with_reducible rfl))
            (try simp only [Act.put, List.getElem_toArray, List.getElem_cons_zero, List.getElem_cons_succ, List.setIfInBounds_toArray, List.set_cons_zero, List.set_cons_succ])
            refine wpHd_take (i := 4) (v := ?_) rfl (by kernel_rfl) (fun _ _ _ h => h) (Or.inl ⟨by rfl, ?hy⟩) hHeld ?_
            case hy => (intro w hSw; (try dsimp only at hSw); go_split_ands; go_simp; try (with_reducible rfl))
            (try simp only [Act.put, List.getElem_toArray, List.getElem_cons_zero, List.getElem_cons_succ, List.setIfInBounds_toArray, List.set_cons_zero, List.set_cons_succ])
            refine wpHd_take (i := 6) (v := ?_) rfl (by kernel_rfl) (fun _ _ _ h => h) (Or.inl ⟨by rfl, ?hy⟩) hHeld ?_
            case hy => (intro w hSw; (try dsimp only at hSw); go_split_ands; go_simp; try (with_reducible rfl))
            (try simp only [Act.put, List.getElem_toArray, List.getElem_cons_zero, List.getElem_cons_succ, List.setIfInBounds_toArray, List.set_cons_zero, List.set_cons_succ])
            refine wpHd_take (i := 7) (v := ?_) rfl (by kernel_rfl) (fun _ _ _ h => h) (Or.inl ⟨by rfl, ?hy⟩) hHeld ?_
            case hy => (intro w hSw; (try dsimp only at hSw); go_split_ands; go_simp; try (with_reducible rfl))
            (try simp only [Act.put, List.getElem_toArray, List.getElem_cons_zero, List.getElem_cons_succ, List.setIfInBounds_toArray, List.set_cons_zero, List.set_cons_succ])
            refine wpHd_take (i := 8) (v := ?_) rfl (by kernel_rfl) (fun _ _ _ h => h) (Or.inl ⟨by rfl, ?hy⟩) hHeld ?_
            case hy => (intro w hSw; (try dsimp only at hSw); go_split_ands; go_simp; try (with_reducible rfl))
            (try simp only [Act.put, List.getElem_toArray, List.getElem_cons_zero, List.getElem_cons_succ, List.setIfInBounds_toArray, List.set_cons_zero, List.set_cons_succ])
            refine wpHd_take (i := 9) (v := ?_) rfl (by kernel_rfl) (fun _ _ _ h => h) (Or.inl ⟨by rfl, ?hy⟩) hHeld ?_
            case hy => (intro w hSw; (try dsimp only at hSw); go_split_ands; go_simp; try (with_reducible rfl))
            (try simp only [Act.put, List.getElem_toArray, List.getElem_cons_zero, List.getElem_cons_succ, List.setIfInBounds_toArray, List.set_cons_zero, List.set_cons_succ])
            refine wpHd_one (i := 5) rfl (by kernel_rfl) (fun K hK => ?_)
            go_simp
            refine (all_any (HBC.out.list.bl hHeld.1) (by have := regs_len HBC.out.pgs; omega)).mono ?_
            rintro e w5 ⟨vA, rfl, rA, kA⟩
            refine hK.out _ _ ?_ (fun hHeld => ?_)
            · exact ⟨hHeld.1.trans kA, kA.cell' hHeld.2⟩
            clear hK K
            (try simp only [Act.put, List.getElem_toArray, List.getElem_cons_zero, List.getElem_cons_succ, List.setIfInBounds_toArray, List.set_cons_zero, List.set_cons_succ])
            have rA1 := rA; clear rA
            refine wpHd_one (i := 10) rfl (by kernel_rfl) (fun K hK => ?_)
            go_simp
            refine (regions_any (HPC.out.bl hHeld.1) HBC.out.pgs (by omega)).mono ?_
            rintro e w6 ⟨vR, rfl, rR, kR⟩
            refine hK.out _ _ ?_ (fun hHeld => ?_)
            · exact ⟨hHeld.1.trans kR, kR.cell' hHeld.2⟩
            clear hK K
            (try simp only [Act.put, List.getElem_toArray, List.getElem_cons_zero, List.getElem_cons_succ, List.setIfInBounds_toArray, List.set_cons_zero, List.set_cons_succ])
            have rA2 := rA1.bl kR; clear rA1 kA
            have rR2 := rR; clear rR kR
            refine wpHd_one (i := 11) rfl (by kernel_rfl) (fun K hK => ?_)
            go_simp
            refine (same_any rA2 rR2 (by have := regs_len HBC.out.pgs; omega)).mono ?_
            rintro e w7 ⟨rfl, kS⟩
            refine hK.out _ _ ?_ (fun hHeld => ?_)
            · exact ⟨hHeld.1.trans kS, kS.cell' hHeld.2⟩
            clear hK K
            (try simp only [Act.put, List.getElem_toArray, List.getElem_cons_zero, List.getElem_cons_succ, List.setIfInBounds_toArray, List.set_cons_zero, List.set_cons_succ])
            clear rA2 rR2
            refine wpHd_take (i := 12) (v := ?_) rfl (by kernel_rfl) (fun _ _ _ h => h) (Or.inl ⟨by rfl, ?hy⟩) hHeld ?_
            case hy => (intro w hSw; (try dsimp only at hSw); go_split_ands; go_simp; try (with_reducible rfl))
            (try simp only [Act.put, List.getElem_toArray, List.getElem_cons_zero, List.getElem_cons_succ, List.setIfInBounds_toArray, List.set_cons_zero, List.set_cons_succ])
            refine wpHd_take (i := 13) (v := ?_) rfl (by kernel_rfl) (fun _ _ _ h => h) (Or.inl ⟨by rfl, ?hy⟩) hHeld ?_
            case hy => (intro w hSw; (try dsimp only at hSw); go_split_ands; go_simp; try (with_reducible rfl))
            (try simp only [Act.put, List.getElem_toArray, List.getElem_cons_zero, List.getElem_cons_succ, List.setIfInBounds_toArray, List.set_cons_zero, List.set_cons_succ])
            refine wpHd_take (i := 14) (v := ?_) rfl (by kernel_rfl) (fun _ _ _ h => h) (Or.inl ⟨by rfl, ?hy⟩) hHeld ?_
            case hy => (intro w hSw; (try dsimp only at hSw); go_split_ands; go_simp; try (with_reducible rfl))
            (try simp only [Act.put, List.getElem_toArray, List.getElem_cons_zero, List.getElem_cons_succ, List.setIfInBounds_toArray, List.set_cons_zero, List.set_cons_succ])
            refine wpHd_take (i := 15) (v := ?_) rfl (by kernel_rfl) (fun _ _ _ h => h) (Or.inl ⟨by rfl, ?hy⟩) hHeld ?_
            case hy => (intro w hSw; (try dsimp only at hSw); go_split_ands; go_simp; try (with_reducible rfl))
            (try simp only [Act.put, List.getElem_toArray, List.getElem_cons_zero, List.getElem_cons_succ, List.setIfInBounds_toArray, List.set_cons_zero, List.set_cons_succ])
            refine wpHd_take (i := 17) (v := ?_) rfl (by kernel_rfl) (fun _ _ _ h => h) (Or.inl ⟨by rfl, ?hy⟩) hHeld ?_
            case hy => (intro w hSw; (try dsimp only at hSw); go_split_ands; go_simp; try (with_reducible rfl))
            (try simp only [Act.put, List.getElem_toArray, List.getElem_cons_zero, List.getElem_cons_succ, List.setIfInBounds_toArray, List.set_cons_zero, List.set_cons_succ])
            refine wpHd_take (i := 18) (v := ?_) rfl (by kernel_rfl) (fun _ _ _ h => h) (Or.inl ⟨by rfl, ?hy⟩) hHeld ?_
            case hy => (intro w hSw; (try dsimp only at hSw); go_split_ands; go_simp; try (with_reducible rfl))
            (try simp only [Act.put, List.getElem_toArray, List.getElem_cons_zero, List.getElem_cons_succ, List.setIfInBounds_toArray, List.set_cons_zero, List.set_cons_succ])
            refine wpHd_take (i := 19) (v := ?_) rfl (by kernel_rfl) (fun _ _ _ h => h) (Or.inl ⟨by rfl, ?hy⟩) hHeld ?_
            case hy => (intro w hSw; (try dsimp only at hSw); go_split_ands; go_simp; try (with_reducible rfl))
            (try simp only [Act.put, List.getElem_toArray, List.getElem_cons_zero, List.getElem_cons_succ, List.setIfInBounds_toArray, List.set_cons_zero, List.set_cons_succ])
            refine wpHd_take (i := 20) (v := ?_) rfl (by kernel_rfl) (fun _ _ _ h => h) (Or.inl ⟨by rfl, ?hy⟩) hHeld ?_
            case hy => (intro w hSw; (try dsimp only at hSw); go_split_ands; go_simp; try (with_reducible rfl))
            (try simp only [Act.put, List.getElem_toArray, List.getElem_cons_zero, List.getElem_cons_succ, List.setIfInBounds_toArray, List.set_cons_zero, List.set_cons_succ])
            refine wpHd_take (i := 21) (v := ?_) rfl (by kernel_rfl) (fun _ _ _ h => h) (Or.inl ⟨by rfl, ?hy⟩) hHeld ?_
            case hy => (intro w hSw; (try dsimp only at hSw); go_split_ands; go_simp; try (with_reducible rfl))
            (try simp only [Act.put, List.getElem_toArray, List.getElem_cons_zero, List.getElem_cons_succ, List.setIfInBounds_toArray, List.set_cons_zero, List.set_cons_succ])
            refine wpHd_one (i := 16) rfl (by kernel_rfl) (fun K hK => ?_)
            go_simp
            refine (pages_any (HBC.out.list.bl hHeld.1) (regs_rs HBC.out.pgs).nm.so (by have := regs_len HBC.out.pgs; omega)).mono ?_
            rintro e w8 ⟨rfl, kP⟩
            refine hK.out _ _ ?_ (fun hHeld => ?_)
            · exact ⟨hHeld.1.trans kP, kP.cell' hHeld.2⟩
            clear hK K
            (try simp only [Act.put, List.getElem_toArray, List.getElem_cons_zero, List.getElem_cons_succ, List.setIfInBounds_toArray, List.set_cons_zero, List.set_cons_succ])
            rw [HTOT.out]
            refine wpHd_take (i := 22) (v := ?_) rfl (by kernel_rfl) (fun _ _ _ h => h) (Or.inl ⟨by rfl, ?hy⟩) hHeld ?_
            case hy => (intro w hSw; (try dsimp only at hSw); go_split_ands; go_simp; try (with_reducible rfl))
            (try simp only [Act.put, List.getElem_toArray, List.getElem_cons_zero, List.getElem_cons_succ, List.setIfInBounds_toArray, List.set_cons_zero, List.set_cons_succ])
            refine ⟨by kernel_rfl, ?_⟩
            simp only [List.drop_succ_cons, List.drop_zero]
            have HBE := Lib.hid (HBC.out.next hHeld.1); clear hHeld
            go_wp2
            refine ⟨⟨k + 1, P', by omega, by go_num, HBE.out⟩, ?_⟩
            simp only [intOf]; omega
          · obtain rfl := hx1 rfl
            clear hx1 hx2
            go_upto_region 28 with (fail)
            have hS0 : Bl wc wc.drew ∧ wc.drew.cell? ⟨sb, 0, none⟩ = some (.slice AS nP capS) := ⟨(Bl.refl _).drew, HCS.out⟩
            refine wp_region_hd 23 (fun w' => Bl wc w' ∧ w'.cell? ⟨sb, 0, none⟩ = some (.slice AS nP capS)) (by kernel_rfl) (by decide) hS0 (fun hHeld => ?_)
            clear hS0
            refine wpHd_take (i := 0) (v := ?_) rfl (by kernel_rfl) (fun _ _ _ h => h) (Or.inl ⟨by rfl, ?hy⟩) hHeld ?_
            case hy => (intro w hSw; (try dsimp only at hSw); go_split_ands; go_simp; try (with_reducible rfl))
            (try simp only [Act.put, List.getElem_toArray, List.getElem_cons_zero, List.getElem_cons_succ, List.setIfInBounds_toArray, List.set_cons_zero, List.set_cons_succ])
            refine wpHd_take (i := 1) (v := ?_) rfl (by kernel_rfl) (fun _ _ _ h => h) (Or.inl ⟨by rfl, ?hy⟩) hHeld ?_
            case hy => (intro w hSw; (try dsimp only at hSw); go_split_ands; go_simp; try (with_reducible rfl))
            (try simp only [Act.put, List.getElem_toArray, List.getElem_cons_zero, List.getElem_cons_succ, List.setIfInBounds_toArray, List.set_cons_zero, List.set_cons_succ])
            refine wpHd_take (i := 2) (v := ?_) rfl (by kernel_rfl) (fun _ _ _ h => h) (Or.inl ⟨by rfl, ?hy⟩) hHeld ?_
            case hy => (intro w hSw; (try dsimp only at hSw); go_split_ands; go_simp; try (with_reducible rfl))
            (try simp only [Act.put, List.getElem_toArray, List.getElem_cons_zero, List.getElem_cons_succ, List.setIfInBounds_toArray, List.set_cons_zero, List.set_cons_succ])
            refine wpHd_take (i := 3) (v := ?_) rfl (by kernel_rfl) (fun _ _ _ h => h) (Or.inl ⟨by rfl, ?hy⟩) hHeld ?_
            case hy => (intro w hSw; (try dsimp only at hSw); go_split_ands; go_simp; try (with_reducible rfl))
            (try simp only [Act.put, List.getElem_toArray, List.getElem_cons_zero, List.getElem_cons_succ, List.setIfInBounds_toArray, List.set_cons_zero, List.set_cons_succ])
            refine wpHd_take (i := 4) (v := ?_) rfl (by kernel_rfl) (fun _ _ _ h => h) (Or.inl ⟨by rfl, ?hy⟩) hHeld ?_
            case hy => (intro w hSw; (try dsimp only at hSw); go_split_ands; go_simp; try (with_reducible rfl))
            (try simp only [Act.put, List.getElem_toArray, List.getElem_cons_zero, List.getElem_cons_succ, List.setIfInBounds_toArray, List.set_cons_zero, List.set_cons_succ])
            refine wpHd_take (i := 6) (v := ?_) rfl (by kernel_rfl) (fun _ _ _ h => h) (Or.inl ⟨by rfl, ?hy⟩) hHeld ?_
            case hy => (intro w hSw; (try dsimp only at hSw); go_split_ands; go_simp; try (with_reducible rfl))
            (try simp only [Act.put, List.getElem_toArray, List.getElem_cons_zero, List.getElem_cons_succ, List.setIfInBounds_toArray, List.set_cons_zero, List.set_cons_succ])
            refine wpHd_take (i := 7) (v := ?_) rfl (by kernel_rfl) (fun _ _ _ h => h) (Or.inl ⟨by rfl, ?hy⟩) hHeld ?_
            case hy => (intro w hSw; (try dsimp only at hSw); go_split_ands; go_simp; try (with_reducible rfl))
            (try simp only [Act.put, List.getElem_toArray, List.getElem_cons_zero, List.getElem_cons_succ, List.setIfInBounds_toArray, List.set_cons_zero, List.set_cons_succ])
            refine wpHd_take (i := 8) (v := ?_) rfl (by kernel_rfl) (fun _ _ _ h => h) (Or.inl ⟨by rfl, ?hy⟩) hHeld ?_
            case hy => (intro w hSw; (try dsimp only at hSw); go_split_ands; go_simp; try (with_reducible rfl))
            (try simp only [Act.put, List.getElem_toArray, List.getElem_cons_zero, List.getElem_cons_succ, List.setIfInBounds_toArray, List.set_cons_zero, List.set_cons_succ])
            refine wpHd_take (i := 9) (v := ?_) rfl (by kernel_rfl) (fun _ _ _ h => h) (Or.inl ⟨by rfl, ?hy⟩) hHeld ?_
            case hy => (intro w hSw; (try dsimp only at hSw); go_split_ands; go_simp; try (with_reducible rfl))
            (try simp only [Act.put, List.getElem_toArray, List.getElem_cons_zero, List.getElem_cons_succ, List.setIfInBounds_toArray, List.set_cons_zero, List.set_cons_succ])
            refine wpHd_one (i := 5) rfl (by kernel_rfl) (fun K hK => ?_)
            go_simp
            refine (all_any (HBC.out.list.bl hHeld.1) (by have := regs_len HBC.out.pgs; omega)).mono ?_
            rintro e w5 ⟨vA, rfl, rA, kA⟩
            refine hK.out _ _ ?_ (fun hHeld => ?_)
            · exact ⟨hHeld.1.trans kA, kA.cell' hHeld.2⟩
            clear hK K
            (try simp only [Act.put, List.getElem_toArray, List.getElem_cons_zero, List.getElem_cons_succ, List.setIfInBounds_toArray, List.set_cons_zero, List.set_cons_succ])
            have rA1 := rA; clear rA
            refine wpHd_one (i := 10) rfl (by kernel_rfl) (fun K hK => ?_)
            go_simp
            refine (regions_any (HPC.out.bl hHeld.1) HBC.out.pgs (by omega)).mono ?_
            rintro e w6 ⟨vR, rfl, rR, kR⟩
            refine hK.out _ _ ?_ (fun hHeld => ?_)
            · exact ⟨hHeld.1.trans kR, kR.cell' hHeld.2⟩
            clear hK K
            (try simp only [Act.put, List.getElem_toArray, List.getElem_cons_zero, List.getElem_cons_succ, List.setIfInBounds_toArray, List.set_cons_zero, List.set_cons_succ])
            have rA2 := rA1.bl kR; clear rA1 kA
            have rR2 := rR; clear rR kR
            refine wpHd_one (i := 11) rfl (by kernel_rfl) (fun K hK => ?_)
            go_simp
            refine (same_any rA2 rR2 (by have := regs_len HBC.out.pgs; omega)).mono ?_
            rintro e w7 ⟨rfl, kS⟩
            refine hK.out _ _ ?_ (fun hHeld => ?_)
            · exact ⟨hHeld.1.trans kS, kS.cell' hHeld.2⟩
            clear hK K
            (try simp only [Act.put, List.getElem_toArray, List.getElem_cons_zero, List.getElem_cons_succ, List.setIfInBounds_toArray, List.set_cons_zero, List.set_cons_succ])
            clear rA2 rR2
            refine wpHd_take (i := 12) (v := ?_) rfl (by kernel_rfl) (fun _ _ _ h => h) (Or.inl ⟨by rfl, ?hy⟩) hHeld ?_
            case hy => (intro w hSw; (try dsimp only at hSw); go_split_ands; go_simp; try (with_reducible rfl))
            (try simp only [Act.put, List.getElem_toArray, List.getElem_cons_zero, List.getElem_cons_succ, List.setIfInBounds_toArray, List.set_cons_zero, List.set_cons_succ])
            refine wpHd_take (i := 13) (v := ?_) rfl (by kernel_rfl) (fun _ _ _ h => h) (Or.inl ⟨by rfl, ?hy⟩) hHeld ?_
            case hy => (intro w hSw; (try dsimp only at hSw); go_split_ands; go_simp; try (with_reducible rfl))
            (try simp only [Act.put, List.getElem_toArray, List.getElem_cons_zero, List.getElem_cons_succ, List.setIfInBounds_toArray, List.set_cons_zero, List.set_cons_succ])
            refine wpHd_take (i := 14) (v := ?_) rfl (by kernel_rfl) (fun _ _ _ h => h) (Or.inl ⟨by rfl, ?hy⟩) hHeld ?_
            case hy => (intro w hSw; (try dsimp only at hSw); go_split_ands; go_simp; try (with_reducible rfl))
            (try simp only [Act.put, List.getElem_toArray, List.getElem_cons_zero, List.getElem_cons_succ, List.setIfInBounds_toArray, List.set_cons_zero, List.set_cons_succ])
            refine wpHd_take (i := 15) (v := ?_) rfl (by kernel_rfl) (fun _ _ _ h => h) (Or.inl ⟨by rfl, ?hy⟩) hHeld ?_
            case hy => (intro w hSw; (try dsimp only at hSw); go_split_ands; go_simp; try (with_reducible rfl))
            (try simp only [Act.put, List.getElem_toArray, List.getElem_cons_zero, List.getElem_cons_succ, List.setIfInBounds_toArray, List.set_cons_zero, List.set_cons_succ])
            refine wpHd_take (i := 17) (v := ?_) rfl (by kernel_rfl) (fun _ _ _ h => h) (Or.inl ⟨by rfl, ?hy⟩) hHeld ?_
            case hy => (intro w hSw; (try dsimp only at hSw); go_split_ands; go_simp; try (with_reducible rfl))
            (try simp only [Act.put, List.getElem_toArray, List.getElem_cons_zero, List.getElem_cons_succ, List.setIfInBounds_toArray, List.set_cons_zero, List.set_cons_succ])
            refine wpHd_take (i := 18) (v := ?_) rfl (by kernel_rfl) (fun _ _ _ h => h) (Or.inl ⟨by rfl, ?hy⟩) hHeld ?_
            case hy => (intro w hSw; (try dsimp only at hSw); go_split_ands; go_simp; try (with_reducible rfl))
            (try simp only [Act.put, List.getElem_toArray, List.getElem_cons_zero, List.getElem_cons_succ, List.setIfInBounds_toArray, List.set_cons_zero, List.set_cons_succ])
            refine wpHd_take (i := 19) (v := ?_) rfl (by kernel_rfl) (fun _ _ _ h => h) (Or.inl ⟨by rfl, ?hy⟩) hHeld ?_
            case hy => (intro w hSw; (try dsimp only at hSw); go_split_ands; go_simp; try (with_reducible rfl))
            (try simp only [Act.put, List.getElem_toArray, List.getElem_cons_zero, List.getElem_cons_succ, List.setIfInBounds_toArray, List.set_cons_zero, List.set_cons_succ])
            refine wpHd_take (i := 20) (v := ?_) rfl (by kernel_rfl) (fun _ _ _ h => h) (Or.inl ⟨by rfl, ?hy⟩) hHeld ?_
            case hy => (intro w hSw; (try dsimp only at hSw); go_split_ands; go_simp; try (with_reducible rfl))
            (try simp only [Act.put, List.getElem_toArray, List.getElem_cons_zero, List.getElem_cons_succ, List.setIfInBounds_toArray, List.set_cons_zero, List.set_cons_succ])
            refine wpHd_take (i := 21) (v := ?_) rfl (by kernel_rfl) (fun _ _ _ h => h) (Or.inl ⟨by rfl, ?hy⟩) hHeld ?_
            case hy => (intro w hSw; (try dsimp only at hSw); go_split_ands; go_simp; try (with_reducible rfl))
            (try simp only [Act.put, List.getElem_toArray, List.getElem_cons_zero, List.getElem_cons_succ, List.setIfInBounds_toArray, List.set_cons_zero, List.set_cons_succ])
            refine wpHd_one (i := 16) rfl (by kernel_rfl) (fun K hK => ?_)
            go_simp
            refine (pages_any (HBC.out.list.bl hHeld.1) (regs_rs HBC.out.pgs).nm.so (by have := regs_len HBC.out.pgs; omega)).mono ?_
            rintro e w8 ⟨rfl, kP⟩
            refine hK.out _ _ ?_ (fun hHeld => ?_)
            · exact ⟨hHeld.1.trans kP, kP.cell' hHeld.2⟩
            clear hK K
            (try simp only [Act.put, List.getElem_toArray, List.getElem_cons_zero, List.getElem_cons_succ, List.setIfInBounds_toArray, List.set_cons_zero, List.set_cons_succ])
            rw [HTOT.out]
            refine wpHd_take (i := 22) (v := ?_) rfl (by kernel_rfl) (fun _ _ _ h => h) (Or.inl ⟨by rfl, ?hy⟩) hHeld ?_
            case hy => (intro w hSw; (try dsimp only at hSw); go_split_ands; go_simp; try (with_reducible rfl))
            (try simp only [Act.put, List.getElem_toArray, List.getElem_cons_zero, List.getElem_cons_succ, List.setIfInBounds_toArray, List.set_cons_zero, List.set_cons_succ])
            refine ⟨by kernel_rfl, ?_⟩
            simp only [List.drop_succ_cons, List.drop_zero]
            have HBE := Lib.hid (HBC.out.next hHeld.1); clear hHeld
            go_wp2
            refine ⟨⟨k + 1, P', by omega, by go_num, HBE.out⟩, ?_⟩
            simp only [intOf]; omega
    · by_cases h1 : k < len0
      · have h1I : (k : Int) < (len0 : Int) := by omega
        have h2 : 60 ≤ (k : Int) := by omega
        clear hgo
        go_wp2_with fail
        go_ret
        exact ⟨rfl, HBO.out.bl⟩
      · have h1I : (len0 : Int) ≤ (k : Int) := by omega
        clear hgo
        go_wp2_with fail
        go_ret
        exact ⟨rfl, HBO.out.bl⟩

/-! ### The row's step -/
set_option maxRecDepth 100000 in
theorem lifted (os : Os) (started : os.Started) (H : Type) (enc : TypeId × Value → H) :
    ReturnsInHanded {} Try.checked os 3 .any (Rows.regionActsSpec.pre6 enc Try.prog Try.f3 Rows.regionActsRow.domain false) (Rows.regionActsSpec.post enc Try.prog Try.f3 false true false false) := by
  refine returnsInHanded_of_change (C := Try.checked) own started (by kernel_rfl) Try.func3
    (ChangeSpec.witness6 (enc := enc) (C := Try.checked) false ⟨#[], #[.slice none 0 0], []⟩ 8 (by kernel_rfl) (by kernel_rfl) (by kernel_rfl) (by kernel_rfl)) ?_
  intro W base args ds gs before hval0 hW hcnd _
  have hval : ∀ (j : Nat) t v, Try.f3.params[j]? = some t → args[j]? = some v → Value.okWide Try.prog W .any base t v := hval0
  have hW' := hW
  obtain ⟨p, q, hA0, hV, rfl, hfz, hnd⟩ := hW
  have hA : DataW.TrodAll enc Try.prog W 0 (fun _ => true) true Try.f3.params.toList args.toList ds p := hA0
  rw [Try.params3] at hA hval
  obtain ⟨v0, vs0, d0, ds0, p0, q0, hargs, rfl, rfl, h0, r0⟩ := trodAll_cons hA
  obtain ⟨rfl, rfl, rfl⟩ := trodAll_nil r0
  obtain rfl : args = #[v0] := by cases args; simp_all
  obtain ⟨rfl, rfl⟩ := trodVars_none hV
  obtain ⟨a0, len0, cap0, rfl⟩ := okWide_slice Try.underlying22 (hval 0 22 v0 rfl rfl)
  have k0 := h0
  have lt0 : ∀ x ∈ p0, x.block < W.heap.size := by obtain ⟨m, hm⟩ := k0; exact DataW.trod_lt m _ _ _ hm
  obtain ⟨w0, hl0⟩ : ActsAt W a0 len0 ∧ len0 ≤ 9223372036854775807 := by
    obtain ⟨fuel, hf⟩ := h0
    exact open_acts (by simpa [Value.cells] using hf)
  clear hA0 hval0
  refine (walk a0 len0 cap0 W w0 hl0).mono fun e W' ⟨he, bel⟩ => ?_
  subst he
  exact ⟨_, rfl, _, _, _, [], _, [], hW', trodAll_mk1 (shut_bool Try.underlying4 _), (trodAll_cons_mk (Below.trod laidOut (by kernel_rfl) (of_decide_eq_true (by kernel_rfl)) k0 bel lt0) trodAll_mk0), rfl, bel.frame _, fun h => by cases h⟩

theorem over : Rows.regionActsRow.holds Try.pinned (OpenSpec.ofChange Rows.regionActsSpec) :=
  OpenClaim.holds_of_wide 3 Try.f3 rfl rfl rfl rfl rfl rfl rfl ⟨rfl, rfl, rfl, rfl, rfl⟩ rfl rfl rfl rfl rfl (by kernel_rfl) Try.func3 (by kernel_rfl)
    (of_decide_eq_true (by kernel_rfl)) (by unfold Func.isWrapper; first | (rw [if_pos (by decide +kernel)]; kernel_rfl) | (rw [if_neg (by decide +kernel)]; exact ⟨rfl, rfl⟩))
    (fun os started H enc _ => lifted os started H enc)

/-- The statement. -/
theorem proved : Rows.RegionActsSaid := over
end Go.Proofs.Ytilahffbfephbaa.regionActs

namespace Go.Proofs.Ytilahffbfephbaa
/-- The statement, proved. -/
theorem regionActs_holds : Rows.RegionActsSaid := regionActs.proved
#print axioms regionActs_holds
end Go.Proofs.Ytilahffbfephbaa
