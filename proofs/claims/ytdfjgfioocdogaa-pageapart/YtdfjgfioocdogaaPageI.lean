/-
  Clear of all places: whatever pages are held, in whatever order they come.
-/
import Derived.Test.YtdfjgfioocdogaaPageG
set_option linter.unusedVariables false
set_option linter.unusedSimpArgs false
namespace Go.Proofs.Ytdfjgfioocdogaa
open Go.RowKit
set_option maxRecDepth 100000
theorem Bl.grownBy {a b : World} (h : Bl a b) (r : Option Nat) : a.grownBy b r := ⟨h.os, h.tape, h.output, h.size, fun k hk _ => h.block k hk⟩
theorem Bl.of_grown {a b : World} (h : a.grownBy b none) : Bl a b := ⟨h.os, h.tape, h.output, h.size, fun k hk => h.block k hk (by simp)⟩
theorem u64_bounds {x : Int} (h : (Lit.int .u64 x).wf = true) : 0 ≤ x ∧ x ≤ 18446744073709551615 := by
  have h1 : (decide ((0 : Int) ≤ x) && decide (x ≤ 18446744073709551615)) = true := h
  simpa using h1
section
variable {H : Type} (w : World) {ops : Array Oper} {rest : List Oper} {o : Oper} {a : Act} {Q : Exit → Act → World → Prop}
/-- A range loop's step over pages. -/
theorem wpl_next_pages (hg : o.guard = none) (it : Operand) (hop : o.op = Op.next it false) (b r n : Nat) (D : DataW Nat) (left : Lit → Bool) (cnt : Nat) (hit : a.eval it = .pointer (some ⟨r, 0, none⟩)) (h : w.ranges Try.prog 27 ptrE b r n D left cnt)
    (hDone : cnt = 0 → (∀ kl, left kl = false) → wpList Try.prog ops Q rest (a.put o.dst (.tuple #[.bool false])) w)
    (hMore : ∀ (p : Nat) (x : Option Nat) (w' : World) (cnt' : Nat), p < 2 ^ 64 → left (key p) = true → (∀ zd, D.atKey (key p) zd = datum x) → w'.ranges Try.prog 27 ptrE b r n D (fun z => left z && !z.sameKey (key p)) cnt' → cnt' < cnt →
      w.grownBy w' (some r) → w'.heap.size = w.heap.size → (Instr.entry (.pointer (some ⟨r, 0, none⟩))).run Try.prog w' = .ok (.tuple #[.int .u64 (p : Int), ptrOf x]) w' → wpList Try.prog ops Q rest (a.put o.dst (.tuple #[.bool true, .int .u64 (p : Int), ptrOf x])) w') :
    wpList Try.prog ops Q (o :: rest) a w := by
  refine wpList_next_ranges w hg it hop 27 law27 ptrE (Value.int .u64) ptrOf (fun key kl hkey => by obtain ⟨x, rfl, _⟩ := Maps.keyOf_int_inv Try.underlying27 hkey; exact ⟨x, rfl⟩) (fun v y hv => by obtain ⟨c, rfl, _⟩ := ptrE_inv hv; exact ⟨c, rfl⟩) b r n D left cnt hit h hDone ?_
  intro x c kl y w' cnt' hkey hlk hv hat hrg hlt hgr hsz hen
  obtain ⟨x', ex, rfl, hwx⟩ := Maps.keyOf_int_inv Try.underlying27 hkey
  cases ex
  have hb : 0 ≤ x ∧ x ≤ 18446744073709551615 := u64_bounds hwx
  obtain ⟨p, rfl⟩ := Int.eq_ofNat_of_zero_le hb.1
  have hy : y.1 = datum c := by
    rw [ptrE_mk] at hv
    injection hv with hv
    rw [← hv]; cases c <;> rfl
  exact hMore p c w' cnt' (by omega) hlk (fun zd => (hat zd).trans hy) hrg hlt hgr hsz hen
end
theorem ownsMap_fun {w : World} {b n m : Nat} {D E : DataW Nat} (h : w.ownsMap Try.prog 27 ptrE b n D) (h' : w.ownsMap Try.prog 27 ptrE b m E) : D = E := by
  obtain ⟨es, c, hb, _, _, rfl⟩ := h
  obtain ⟨es', c', hb', _, _, rfl⟩ := h'
  rw [hb] at hb'; cases hb'; rfl
/-- What a step hands out is a page that is held. -/
theorem PM.step {w : World} {B n m k : Nat} {f : Nat → Option Nat} (h : PM w B n f k) {D : DataW Nat} (ho : w.ownsMap Try.prog 27 ptrE B m D) {p : Nat} (hp : p < 2 ^ 64) {x : Option Nat} (hat : ∀ zd, D.atKey (key p) zd = datum x) : ∃ b, x = some b ∧ f p = some b := by
  obtain ⟨E, h1, h2, h3, _⟩ := h
  obtain rfl := ownsMap_fun ho h1
  have e1 : f p = x := datum_inj (by rw [← h2 p hp]; exact hat _)
  have e2 := Maps.has_true_of_atKey hat
  rw [h3 p hp, e1] at e2
  rcases x with _ | b
  · cases e2
  · exact ⟨b, rfl, e1⟩
theorem SA.pm {S : Nat → Prop} {w : World} {sb n k : Nat} {f : Nat → Option Nat} {M : Nat → Int} {sm : Value} {B : Nat} {c l : Int} (h : SA S w sb n f k M (.map (some B)) sm c l) : PM w B n f k := by
  rcases h.pages with ⟨h0, _⟩ | ⟨B', h0, _, h1⟩
  · cases h0
  · cases h0; exact h1
set_option maxHeartbeats 4000000 in
theorem clear_all {S : Nat → Prop} {w : World} {sb n k : Nat} {f : Nat → Option Nat} {M : Nat → Int} (h : StoreAt S w sb n f k M) (hS : ∀ b, w.heap.size ≤ b → S b) :
    Calls Try.prog 10 #[addr0 sb, .int .u64 0, .int .u64 274877906944] w fun e w' => e = .returned (.tuple #[]) ∧ Fr S w w' := by
  have cw := fun W => within_in 0 274877906944 W (by omega)
  have ce := fun W => empty_any 0 274877906944 W
  rw [decide_eq_false (by omega)] at ce
  have cwi := fun W => wide_i 0 274877906944 W (by omega) (by omega) (by omega)
  rw [decide_eq_true (by omega)] at cwi
  have cst := fun (W : World) (S' : Nat → Prop) (hW : StoreAt S' W sb n f k M) => stampAll_wide hW 0 274877906944 (by omega) (by omega) (by omega) (by omega)
  have cwp := fun (W : World) (S' : Nat → Prop) (k' pb : Nat) (f' : Nat → Option Nat) (M' : Nat → Int) (sm : Value) (c l : Int) (hW : SA S' W sb n f' k' M' (.map (some pb)) sm c l) (num b : Nat) (h1 : f' num = some b) => wipe_some hW num b (hW.lim num b h1) 0 274877906944 (by omega) (by omega) (by have := hW.lim num b h1; omega) (by omega) h1
  have HH := Lib.hid h; clear h
  have HS := Lib.hid hS; clear hS
  have CW := Lib.hid cw; clear cw
  have CE := Lib.hid ce; clear ce
  have CWI := Lib.hid cwi; clear cwi
  have CST := Lib.hid cst; clear cst
  have CWP := Lib.hid cwp; clear cwp
  unfold addr0 span at *
  go_enter Try.func10, Try.ntmps10
  go_wp2_with fail
  refine (CW.out _).mono ?_
  rintro e w1 ⟨rfl, bl1⟩
  have h1 : StoreAt (less S w1.heap.size) (w1.alloc (box48 0 274877906944)) sb n f k M := (HH.out.bl bl1).less _
  have hS1 : ∀ b, w1.heap.size ≤ b → S b := fun b hb => HS.out b (Nat.le_trans bl1.size hb)
  have fr1 : Fr (less S w1.heap.size) (w1.alloc (box48 0 274877906944)) (w1.alloc (box48 0 274877906944)) := Fr.refl _ _
  have FR1 := Lib.hid fr1; clear fr1
  have H1 := Lib.hid h1; clear h1
  have HS1 := Lib.hid hS1; clear hS1
  have BL1 := Lib.hid bl1; clear bl1
  go_wp2_with fail
  refine (CE.out _).mono ?_
  rintro e w2 ⟨rfl, bl2⟩
  have fr2 := FR1.out.trans (Fr.of_bl bl2)
  have h2 := H1.out.bl bl2
  obtain ⟨c0, c1⟩ := two_cells (box_at fr2)
  have FR2 := Lib.hid fr2; clear fr2 FR1 bl2
  have H2 := Lib.hid h2; clear h2 H1
  go_wp2_with fail
  refine (CST.out _ _ H2.out).mono ?_
  rintro e w3 ⟨rfl, h3, fr3⟩
  have fr3' := FR2.out.trans fr3
  clear c0 c1
  obtain ⟨c0, c1⟩ := two_cells (box_at fr3')
  have FR3 := Lib.hid fr3'; clear fr3' fr3 FR2
  have H3 := Lib.hid h3; clear h3 H2
  go_wp2_with fail
  refine (CWI.out _).mono ?_
  rintro e w4 ⟨rfl, bl4⟩
  have fr4 := FR3.out.trans (Fr.of_bl bl4)
  have h4 := H3.out.bl bl4
  clear c0 c1
  have FR4 := Lib.hid fr4; clear fr4 FR3 bl4
  obtain ⟨pm, sm, c, l, h4⟩ := h4
  obtain ⟨c0, c1, c2, c3⟩ := h4.cell
  clear H3
  have hpg := h4.pages
  rcases hpg with ⟨rfl, _, _⟩ | ⟨B, rfl, _, _⟩
  · have hrg := run_range_nilMap (P := Try.prog) w4 39 27 44 Try.underlying39
    have hnx : ∀ ty, (Instr.next (.pointer (some ⟨w4.heap.size, 0, none⟩)) false ty).run Try.prog (w4.alloc (.mapIter none 0 #[] 0)) = _ := fun ty => run_next_nilMap w4 ty 0 0 #[]
    clear h4
    go_wp2_with fail
    refine wp_loop_rounds 1 ?_
    rw [rounds_succ]
    go_wp2_with fail
    (try simp only [Exit.inBlock, Exit.then]); refine bodyPost_ret (results_none rfl _ _ _) rfl ?_
    exact ⟨rfl, ((Fr.of_bl BL1.out).trans FR4.out.unless).trans (Fr.of_bl (Bl.new _ _))⟩
  · have H4 := Lib.hid h4
    obtain ⟨D0, hown, _⟩ := h4.pm
    have HOWN := Lib.hid hown; clear hown h4
    go_wp2_with (first
      | (at_range; refine wpList_range_own _ rfl _ 39 rfl 27 44 law27 Try.underlying39 _ B n _ rfl HOWN.out ?_; intro w5 hrg0 hg0 hs0)
      | go_in)
    go_frame
    clear c0 c1 c2 c3
    have hlt1 : w1.heap.size < w4.heap.size := by have := FR4.out.size; simp at this; omega
    have bl5 := Bl.of_grown hg0
    have h5 : SA (less (less S w1.heap.size) w4.heap.size) w5 sb n f k M (.map (some B)) sm c l := (H4.out.among (T := less (less S w1.heap.size) w4.heap.size) (fun b hb hs => ⟨hs, by omega⟩)).bl bl5
    have fr5 := FR4.out.trans (Fr.of_bl bl5)
    have hr : less S w1.heap.size w4.heap.size := ⟨HS1.out _ (by omega), by omega⟩
    clear hg0 hs0 bl5
    have HRG0 := Lib.hid hrg0; clear hrg0
    have H5 := Lib.hid h5; clear h5
    have FR5 := Lib.hid fr5; clear fr5
    have HR := Lib.hid hr; clear hr
    go_loopw [7] (fun _ wr => ∃ (left : Lit → Bool) (cnt : Nat) (D : DataW Nat) (f' : Nat → Option Nat) (k' : Nat) (M' : Nat → Int), wr.ranges Try.prog 27 ptrE B w4.heap.size n D left cnt ∧ SA (less (less S w1.heap.size) w4.heap.size) wr sb n f' k' M' (.map (some B)) sm c l ∧ Fr (less S w1.heap.size) (w1.alloc (box48 0 274877906944)) wr) (fun _ wr => wr.rangeLeft B w4.heap.size)
    case atStart => exact ⟨_, _, _, _, _, _, HRG0.out, H5.out, FR5.out⟩
    case round =>
      obtain ⟨left, cnt, D, f', k', M', hrg, hsa, hfr⟩ := hrel
      clear H5 FR5 HRG0 H4 FR4 HOWN
      have HRG := Lib.hid hrg; clear hrg
      have HSA := Lib.hid hsa; clear hsa
      have HFR := Lib.hid hfr; clear hfr
      go_wp2_with (first
        | (at_next; refine wpl_next_pages _ rfl _ rfl B w4.heap.size n _ _ _ rfl HRG.out ?_ ?_)
        | go_in)
      · intro _ _
        go_wp2_with fail
        (try simp only [Exit.inBlock, Exit.then]); refine bodyPost_ret (results_none rfl _ _ _) rfl ?_
        exact ⟨rfl, (Fr.of_bl BL1.out).trans HFR.out.unless⟩
      · intro p x w6 cnt1 hp hlx hat hrg1 hcl hg1 hs1 hen
        have hsa6 : SA (less (less S w1.heap.size) w4.heap.size) w6 sb n f' k' M' (.map (some B)) sm c l := HSA.out.kept (T := fun b => b = w4.heap.size) (Fr.grown hg1 (fun k hk => by cases hk; rfl)) (fun b hb e => hb.2 e)
        have fr6 := HFR.out.trans (Fr.grown hg1 (fun k hk => by cases hk; exact HR.out))
        obtain ⟨b, rfl, hfb⟩ := hsa6.pm.step hrg1.owns hp hat
        obtain ⟨c0, c1⟩ := two_cells (box_at fr6)
        have HSA6 := Lib.hid hsa6; clear hsa6
        have FR6 := Lib.hid fr6; clear fr6
        have HRG1 := Lib.hid hrg1; clear hrg1
        have HFB := Lib.hid hfb; clear hfb
        have HP := Lib.hid hp; clear hp
        clear hg1 hs1 hat hlx
        simp only [ptrOf, Option.map_some] at hen ⊢
        go_wp2_with fail
        refine (CWP.out _ _ _ _ _ _ _ _ _ HSA6.out p b HFB.out).mono ?_
        rintro e w7 ⟨rfl, w8, bl8, hdel⟩
        obtain ⟨w9, cnt2, hrun, hrg2, hle, _⟩ := (HRG1.out.kept (bl8.grownBy none) (by simp) (by simp)).drop law27 Try.underlying39 (key_of HP.out) 0
        rw [hdel] at hrun
        injection hrun with _ e9
        subst e9
        obtain ⟨k9, hsa9, _, fr9⟩ := (HSA6.out.bl bl8).del HP.out hdel
        have fr10 := FR6.out.trans ((Fr.of_bl bl8).trans (fr9.mono fun _ _ e => e.1))
        have hlt9 : cnt2 < cnt := by omega
        clear hdel hle hcl hen c0 c1 bl8 fr9
        have HRG2 := Lib.hid hrg2; clear hrg2
        have HSA9 := Lib.hid hsa9; clear hsa9
        have FR10 := Lib.hid fr10; clear fr10
        go_wp2_with fail
        refine ⟨⟨_, _, _, _, _, _, HRG2.out, HSA9.out, FR10.out⟩, ?_⟩
        rw [HRG2.out.left_eq, HRG.out.left_eq]
        exact hlt9
end Go.Proofs.Ytdfjgfioocdogaa
