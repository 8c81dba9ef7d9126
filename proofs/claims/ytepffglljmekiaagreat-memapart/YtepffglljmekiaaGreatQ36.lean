/-
  Clear of a wide span of whole pages.
-/
import Derived.Test.YtepffglljmekiaaGreatQ35
set_option linter.unusedVariables false
set_option linter.unusedSimpArgs false
namespace Go.Proofs.YtepffglljmekiaaGreat
open Go.RowKit
set_option maxRecDepth 100000
set_option maxHeartbeats 4000000 in
theorem clear_wide {Y : Rest} {S : Nat → Prop} {w : World} {sb n k : Nat} {f : Nat → Option Nat} {M st : Nat → Int} (h : StoreAt Y S w sb n f k M st) (q0 q1 : Nat) (h01 : q0 + 4096 ≤ q1) (hq1 : q1 < 67108864) (hn : n < 80000000) (hS : ∀ b, w.heap.size ≤ b → S b) :
    Calls Tryz.prog 68 #[.pointer (some ⟨sb, 1, none⟩), .int .u64 ((q0 * 4096 : Nat) : Int), .int .u64 (((q1 + 1) * 4096 : Nat) : Int)] w fun e w' => e = .returned (.tuple #[]) ∧ (∃ f' k' st', StoreAt Y S w' sb (n + 8192) f' k' (wiped M (q0 * 4096) ((q1 + 1) * 4096)) st' ∧ Rise st st' (fun p => q0 ≤ p ∧ p ≤ q1)) ∧ Fr S w w' := by
  obtain ⟨a, ha⟩ : ∃ a, a = q0 * 4096 := ⟨_, rfl⟩
  obtain ⟨b, hb⟩ : ∃ b, b = (q1 + 1) * 4096 := ⟨_, rfl⟩
  have cw := fun W => pwithin_in (a : Int) (b : Int) W (by omega)
  have ce := fun W => empty_any (a : Int) (b : Int) W
  rw [decide_eq_false (by omega)] at ce
  have cwi := fun W => wide_i (a : Int) (b : Int) W (by omega) (by omega) (by omega)
  rw [decide_eq_true (by omega)] at cwi
  have cst := fun (W : World) (S' : Nat → Prop) (hW : StoreAt Y S' W sb n f k M st) => stampAll_wide hW (a : Int) (b : Int) (by omega) (by omega) (by omega) (by omega) (by omega)
  have cwp := fun (W : World) (S' : Nat → Prop) (k' pb : Nat) (f' : Nat → Option Nat) (M' st' : Nat → Int) (sm : Value) (c l : Int) (hW : SA Y S' W sb (n + 1) f' k' M' st' (.map (some pb)) sm c l) (num bb : Nat) (h1 : f' num = some bb) (h2 : q0 ≤ num) (h3 : num ≤ q1) => wipe_some hW num bb (hW.lim num bb h1) (a : Int) (b : Int) (by omega) (by omega) (by omega) (by omega) h1
  have cwo := fun (W : World) (S' : Nat → Prop) (k' pb : Nat) (f' : Nat → Option Nat) (M' st' : Nat → Int) (sm : Value) (c l : Int) (hW : SA Y S' W sb (n + 1) f' k' M' st' (.map (some pb)) sm c l) (num bb : Nat) (h1 : f' num = some bb) (h2 : num < q0 ∨ q1 < num) => wipe_out hW num bb (hW.lim num bb h1) (a : Int) (b : Int) (by omega) (by omega) (by omega) (by omega) h1
  rw [← ha, ← hb]
  have HA := Lib.hid ha; clear ha
  have HBB := Lib.hid hb; clear hb
  have HH := Lib.hid h; clear h
  have HS := Lib.hid hS; clear hS
  have CW := Lib.hid cw; clear cw
  have CE := Lib.hid ce; clear ce
  have CWI := Lib.hid cwi; clear cwi
  have CST := Lib.hid cst; clear cst
  have CWP := Lib.hid cwp; clear cwp
  have CWO := Lib.hid cwo; clear cwo
  generalize (a : Int) = A at *
  generalize (b : Int) = B0 at *
  unfold span at *
  go_enter Tryz.func68, Tryz.ntmps68
  go_wp2_with fail
  refine (CW.out _).mono ?_
  rintro e w1 ⟨rfl, bl1⟩
  have h1 : StoreAt Y (less S w1.heap.size) (w1.alloc (box48 A B0)) sb n f k M st := (HH.out.bl bl1).less _
  have hS1 : ∀ b, w1.heap.size ≤ b → S b := fun b hb => HS.out b (Nat.le_trans bl1.size hb)
  have fr1 : Fr (less S w1.heap.size) (w1.alloc (box48 A B0)) (w1.alloc (box48 A B0)) := Fr.refl _ _
  have FR1 := Lib.hid fr1; clear fr1
  have H1 := Lib.hid h1; clear h1
  have HS1 := Lib.hid hS1; clear hS1
  have BL1 := Lib.hid bl1; clear bl1
  go_wp2_with fail
  refine (CE.out _).mono ?_
  rintro e w2 ⟨rfl, bl2⟩
  have fr2 := FR1.out.trans (Fr.of_bl bl2)
  have h2 := H1.out.bl bl2
  obtain ⟨c0, c1⟩ := two_cells (box_at fr2)
  have FR2 := Lib.hid fr2; clear fr2 FR1 bl2
  have H2 := Lib.hid h2; clear h2 H1
  go_wp2_with fail
  refine (CST.out _ _ H2.out).mono ?_
  rintro e w3 ⟨rfl, ⟨st', h3, hris⟩, fr3⟩
  have HRIS : Hid (Rise st st' (fun p => q0 ≤ p ∧ p ≤ q1)) := Lib.hid (hris.mono fun _ _ => trivial); clear hris
  have fr3' := FR2.out.trans fr3
  clear c0 c1
  obtain ⟨c0, c1⟩ := two_cells (box_at fr3')
  have FR3 := Lib.hid fr3'; clear fr3' fr3 FR2
  have H3 := Lib.hid h3; clear h3 H2
  go_wp2_with fail
  refine (CWI.out _).mono ?_
  rintro e w4 ⟨rfl, bl4⟩
  have fr4 := FR3.out.trans (Fr.of_bl bl4)
  have h4 := H3.out.bl bl4
  clear c0 c1
  have FR4 := Lib.hid fr4; clear fr4 FR3 bl4
  obtain ⟨pm, sm, c, l, h4⟩ := h4
  obtain ⟨c0, c1, c2, c3⟩ := h4.cell
  clear H3
  have hpg := h4.pages
  rcases hpg with ⟨rfl, hpn, _⟩ | ⟨B, rfl, _, _⟩
  · have hfin : StoreAt Y S w4 sb (n + 8192) f k (wiped M (q0 * 4096) ((q1 + 1) * 4096)) st' := by
      have e2 : wiped M (q0 * 4096) ((q1 + 1) * 4096) = M := by
        funext x
        simp only [wiped]
        split
        · rename_i hxx
          have h9 := h4.zero (x / 4096) (x % 4096) (hpn _) (by omega)
          rw [show x / 4096 * 4096 + x % 4096 = x by omega] at h9
          exact h9.symm
        · rfl
      rw [e2]
      exact StoreAt.mono ⟨_, _, _, _, h4.among (T := S) (fun _ _ e => e.1)⟩ (by omega)
    have HFIN := Lib.hid hfin; clear hfin
    have hrg := run_range_nilMap (P := Tryz.prog) w4 72 26 104 Tryz.underlying72
    have hnx : ∀ ty, (Instr.next (.pointer (some ⟨w4.heap.size, 0, none⟩)) false ty).run Tryz.prog (w4.alloc (.mapIter none 0 #[] 0)) = _ := fun ty => run_next_nilMap w4 ty 0 0 #[]
    clear h4
    go_wp2_with fail
    refine wp_loop_rounds 1 ?_
    rw [rounds_succ]
    go_wp2_with fail
    (try simp only [Exit.inBlock, Exit.then]); refine bodyPost_ret (results_none rfl _ _ _) rfl ?_
    exact ⟨rfl, ⟨f, k, st', (by rw [HA.out, HBB.out]; exact HFIN.out.bl (Bl.new _ _)), HRIS.out⟩, ((Fr.of_bl BL1.out).trans FR4.out.unless).trans (Fr.of_bl (Bl.new _ _))⟩
  · have H4 := Lib.hid h4
    obtain ⟨D0, hown, _⟩ := h4.pm
    have HOWN := Lib.hid hown; clear hown h4
    go_wp2_with (first
      | (at_range; refine wpList_range_own _ rfl _ 72 rfl 26 104 law27 Tryz.underlying72 _ B (n + 1) _ rfl HOWN.out ?_; intro w5 hrg0 hg0 hs0)
      | go_in)
    go_frame
    clear c0 c1 c2 c3
    have hlt1 : w1.heap.size < w4.heap.size := by have := FR4.out.size; simp at this; omega
    have bl5 := Bl.of_grown hg0
    have h5 : SA Y (less (less S w1.heap.size) w4.heap.size) w5 sb (n + 1) f k M st' (.map (some B)) sm c l := (H4.out.among (T := less (less S w1.heap.size) w4.heap.size) (fun b hb hs => ⟨hs, by omega⟩)).bl bl5
    have fr5 := FR4.out.trans (Fr.of_bl bl5)
    have hr : less S w1.heap.size w4.heap.size := ⟨HS1.out _ (by omega), by omega⟩
    clear hg0 hs0 bl5
    have hwc0 : WC f f M M q0 q1 (fun z => Maps.has D0 z) := ⟨fun _ _ => rfl, fun p _ _ hp => by
      obtain ⟨E, e1, e2, e3, _⟩ := H4.out.pm
      obtain rfl := ownsMap_fun HOWN.out e1
      show Maps.has D0 (key p) = true
      rw [e3 p (by omega)]
      rcases hfp : f p with _ | z
      · exact absurd hfp hp
      · rfl⟩
    have HWC0 := Lib.hid hwc0; clear hwc0
    have HRG0 := Lib.hid hrg0; clear hrg0
    have H5 := Lib.hid h5; clear h5
    have FR5 := Lib.hid fr5; clear fr5
    have HR := Lib.hid hr; clear hr
    go_loopw [7] (fun _ wr => ∃ (left : Lit → Bool) (cnt : Nat) (D : DataW Nat) (f' : Nat → Option Nat) (k' : Nat) (M' : Nat → Int), wr.ranges Tryz.prog 26 ptrE B w4.heap.size (n + 1) D left cnt ∧ SA Y (less (less S w1.heap.size) w4.heap.size) wr sb (n + 1) f' k' M' st' (.map (some B)) sm c l ∧ WC f f' M M' q0 q1 left ∧ Fr (less S w1.heap.size) (w1.alloc (box48 A B0)) wr) (fun _ wr => wr.rangeLeft B w4.heap.size)
    case atStart => exact ⟨_, _, _, _, _, _, HRG0.out, H5.out, HWC0.out, FR5.out⟩
    case round =>
      obtain ⟨left, cnt, D, f', k', M', hrg, hsa, hwc, hfr⟩ := hrel
      have HWC := Lib.hid hwc; clear hwc
      clear H5 FR5 HRG0 HWC0 H4 FR4 HOWN
      have HRG := Lib.hid hrg; clear hrg
      have HSA := Lib.hid hsa; clear hsa
      have HFR := Lib.hid hfr; clear hfr
      go_wp2_with (first
        | (at_next; refine wpl_next_pages _ rfl _ rfl B w4.heap.size (n + 1) _ _ _ rfl HRG.out ?_ ?_)
        | go_in)
      · intro _ hleft
        have hfin : StoreAt Y S wr sb (n + 8192) f' k' (wiped M (q0 * 4096) ((q1 + 1) * 4096)) st' := by
          have e2 : wiped M (q0 * 4096) ((q1 + 1) * 4096) = M' := by
            funext x
            simp only [wiped]
            split
            · have hf0 : f' (x / 4096) = none := by
                rcases hfp : f' (x / 4096) with _ | z
                · rfl
                · have h9 := HWC.out.todo (x / 4096) (by omega) (by omega) (by rw [hfp]; simp)
                  rw [hleft] at h9
                  cases h9
              have h9 := HSA.out.zero (x / 4096) (x % 4096) hf0 (by omega)
              rw [show x / 4096 * 4096 + x % 4096 = x by omega] at h9
              exact h9.symm
            · exact (HWC.out.out x (by omega)).symm
          rw [e2]
          exact StoreAt.mono ⟨_, _, _, _, HSA.out.among (T := S) (fun _ _ e => e.1.1)⟩ (by omega)
        have HFIN := Lib.hid hfin; clear hfin hleft
        go_wp2_with fail
        (try simp only [Exit.inBlock, Exit.then]); refine bodyPost_ret (results_none rfl _ _ _) rfl ?_
        exact ⟨rfl, ⟨f', k', st', (by rw [HA.out, HBB.out]; exact HFIN.out), HRIS.out⟩, (Fr.of_bl BL1.out).trans HFR.out.unless⟩
      · intro p x w6 cnt1 hp hlx hat hrg1 hcl hg1 hs1 hen
        have hsa6 : SA Y (less (less S w1.heap.size) w4.heap.size) w6 sb (n + 1) f' k' M' st' (.map (some B)) sm c l := HSA.out.kept (T := fun b => b = w4.heap.size) (Fr.grown hg1 (fun k hk => by cases hk; rfl)) (fun b hb e => hb.2 e)
        have fr6 := HFR.out.trans (Fr.grown hg1 (fun k hk => by cases hk; exact HR.out))
        obtain ⟨b, rfl, hfb⟩ := hsa6.pm.step hrg1.owns hp hat
        obtain ⟨c0, c1⟩ := two_cells (box_at fr6)
        have HSA6 := Lib.hid hsa6; clear hsa6
        have FR6 := Lib.hid fr6; clear fr6
        have HRG1 := Lib.hid hrg1; clear hrg1
        have HFB := Lib.hid hfb; clear hfb
        have HP := Lib.hid hp; clear hp
        clear hg1 hs1 hat hlx
        simp only [ptrOf, Option.map_some] at hen ⊢
        by_cases hin : q0 ≤ p ∧ p ≤ q1
        · go_wp2_with fail
          refine (CWP.out _ _ _ _ _ _ _ _ _ _ HSA6.out p b HFB.out hin.1 hin.2).mono ?_
          rintro e w7 ⟨rfl, w8, bl8, hdel⟩
          obtain ⟨w9, cnt2, hrun, hrg2, hle, _⟩ := (HRG1.out.kept (bl8.grownBy none) (by simp) (by simp)).drop law27 Tryz.underlying72 (key_of HP.out) 0
          rw [hdel] at hrun
          injection hrun with _ e9
          subst e9
          obtain ⟨k9, hsa9, _, fr9⟩ := (HSA6.out.bl bl8).del HP.out hdel
          have fr10 := FR6.out.trans ((Fr.of_bl bl8).trans (fr9.mono fun _ _ e => e.1))
          have hlt9 : cnt2 < cnt := by omega
          clear hdel hle hcl hen c0 c1 bl8 fr9
          have hwc9 : WC f (put1 f' p none) M (wiped M' (p * 4096) (p * 4096 + 4096)) q0 q1 (fun z => left z && !z.sameKey (key p) && !z.sameKey (key p)) := ⟨fun x hx => by
            simp only [wiped]
            rw [if_neg (by omega)]
            exact HWC.out.out x hx, fun q hq0 hq1 hne => by
            by_cases e : q = p
            · subst e; rw [put1_same] at hne; exact absurd rfl hne
            · rw [put1_other _ _ _ e] at hne
              show (left (key q) && !(key q).sameKey (key p) && !(key q).sameKey (key p)) = true
              rw [HWC.out.todo q hq0 hq1 hne, sameKey_key e]; rfl⟩
          have HWC9 := Lib.hid hwc9; clear hwc9
          have HRG2 := Lib.hid hrg2; clear hrg2
          have HSA9 := Lib.hid hsa9; clear hsa9
          have FR10 := Lib.hid fr10; clear fr10
          go_wp2_with fail
          refine ⟨⟨_, _, _, _, _, _, HRG2.out, HSA9.out, HWC9.out, FR10.out⟩, ?_⟩
          rw [HRG2.out.left_eq, HRG.out.left_eq]
          exact hlt9
        · go_wp2_with fail
          refine (CWO.out _ _ _ _ _ _ _ _ _ _ HSA6.out p b HFB.out (by omega)).mono ?_
          rintro e w7 ⟨rfl, bl8⟩
          have hrg2 := HRG1.out.kept (bl8.grownBy none) (by simp) (by simp)
          have hsa9 := HSA6.out.bl bl8
          have fr10 := FR6.out.trans (Fr.of_bl bl8)
          have hwc9 : WC f f' M M' q0 q1 (fun z => left z && !z.sameKey (key p)) := ⟨HWC.out.out, fun q hq0 hq1 hne => by
            show (left (key q) && !(key q).sameKey (key p)) = true
            rw [HWC.out.todo q hq0 hq1 hne, sameKey_key (by omega)]; rfl⟩
          have HWC9 := Lib.hid hwc9; clear hwc9
          clear hen c0 c1 bl8
          have HRG2 := Lib.hid hrg2; clear hrg2
          have HSA9 := Lib.hid hsa9; clear hsa9
          have FR10 := Lib.hid fr10; clear fr10
          go_wp2_with fail
          refine ⟨⟨_, _, _, _, _, _, HRG2.out, HSA9.out, HWC9.out, FR10.out⟩, ?_⟩
          rw [HRG2.out.left_eq, HRG.out.left_eq]
          exact hcl
end Go.Proofs.YtepffglljmekiaaGreat
