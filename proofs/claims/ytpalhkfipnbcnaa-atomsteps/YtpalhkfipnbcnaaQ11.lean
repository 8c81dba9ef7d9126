/-
  Clear of whole pages: few of them, one by one.
  A space in memory: its block, its list of regions, its store; what the list's calls and the store's calls leave of it.
  lay of a space: a span is mapped anew.
-/
import Derived.Test.YtpalhkfipnbcnaaQ10
import Derived.Test.YtpalhkfipnbcnaaQ8
import Derived.Test.YtpalhkfipnbcnaaQ2
set_option linter.unusedVariables false
set_option linter.unusedSimpArgs false
namespace Go.Proofs.Ytpalhkfipnbcnaa
open Go.RowKit
set_option maxRecDepth 100000
set_option maxHeartbeats 4000000 in
theorem clear_narrow {Y : Rest} {S : Nat → Prop} {w : World} {sb n k : Nat} {f : Nat → Option Nat} {M st : Nat → Int} (h : StoreAt Y S w sb n f k M st) (q0 q1 : Nat) (h01 : q0 ≤ q1) (hq1 : q1 < 67108864) (hq : q1 < q0 + 4096) (hn : n < 80000000) (hS : ∀ b, w.heap.size ≤ b → S b) :
    Calls Try.prog 70 #[.pointer (some ⟨sb, 1, none⟩), .int .u64 ((q0 * 4096 : Nat) : Int), .int .u64 (((q1 + 1) * 4096 : Nat) : Int)] w fun e w' => e = .returned (.tuple #[]) ∧ (∃ k' st', StoreAt Y S w' sb (n + 8192) (cut f q0 (q1 + 1 - q0)) k' (wiped M (q0 * 4096) ((q1 + 1) * 4096)) st' ∧ k' + hcnt f q0 (q1 + 1 - q0) = k ∧ Rise st st' (fun p => q0 ≤ p ∧ p ≤ q1)) ∧ Fr S w w' := by
  obtain ⟨a, ha⟩ : ∃ a, a = q0 * 4096 := ⟨_, rfl⟩
  obtain ⟨b, hb⟩ : ∃ b, b = (q1 + 1) * 4096 := ⟨_, rfl⟩
  have cw := fun W => pwithin_in (a : Int) (b : Int) W (by omega)
  have ce := fun W => empty_any (a : Int) (b : Int) W
  rw [decide_eq_false (by omega)] at ce
  have cs := fun (W : World) (hW : StoreAt Y (less S W.heap.size) (W.alloc (box48 a b)) sb n f k M st) => hW
  have cwi := fun W => wide_i (a : Int) (b : Int) W (by omega) (by omega) (by omega)
  rw [decide_eq_false (by omega)] at cwi
  have cf := fun W => first_i (a : Int) (b : Int) W (by omega) (by omega)
  have cl := fun W => last_i (a : Int) (b : Int) W (by omega) (by omega)
  have e0 : (a : Int) / 4096 = (q0 : Int) := by omega
  have e1 : ((b : Int) - 1) / 4096 = (q1 : Int) := by omega
  rw [e0] at cf
  rw [e1] at cl
  clear cs e0 e1
  have cst := fun (W : World) (S' : Nat → Prop) (hW : StoreAt Y S' W sb n f k M st) (hS' : ∀ b, W.heap.size ≤ b → S' b) => stampAll_narrow hW a b (by omega) (by omega) (by omega) (by omega) hS'
  have cwp := fun (W : World) (S' : Nat → Prop) (k' : Nat) (f' : Nat → Option Nat) (M' st' : Nat → Int) (hW : StoreAt Y S' W sb (n + 8192) f' k' M' st') (num : Nat) (h0 : q0 ≤ num) (h1 : num ≤ q1) => wipe_any hW num (by omega) (a : Int) (b : Int) (by omega) (by omega) (by omega) (by omega)
  rw [← ha, ← hb]
  have HA := Lib.hid ha; clear ha
  have HB := Lib.hid hb; clear hb
  have HH := Lib.hid h; clear h
  have HS := Lib.hid hS; clear hS
  have CW := Lib.hid cw; clear cw
  have CE := Lib.hid ce; clear ce
  have CWI := Lib.hid cwi; clear cwi
  have CF := Lib.hid cf; clear cf
  have CL := Lib.hid cl; clear cl
  have CST := Lib.hid cst; clear cst
  have CWP := Lib.hid cwp; clear cwp
  generalize (a : Int) = A at *
  generalize (b : Int) = B at *
  (try unfold addr0 at *); (try unfold span at *)
  go_enter Try.func70, Try.ntmps70
  go_wp2_with fail
  refine (CW.out _).mono ?_
  rintro e w1 ⟨rfl, bl1⟩
  have h1 : StoreAt Y (less S w1.heap.size) (w1.alloc (box48 A B)) sb n f k M st := (HH.out.bl bl1).less _
  have hS1 : ∀ b, w1.heap.size ≤ b → S b := fun b hb => HS.out b (Nat.le_trans bl1.size hb)
  have fr1 : Fr (less S w1.heap.size) (w1.alloc (box48 A B)) (w1.alloc (box48 A B)) := Fr.refl _ _
  have FR1 := Lib.hid fr1; clear fr1
  have H1 := Lib.hid h1; clear h1
  have HS1 := Lib.hid hS1; clear hS1
  have BL1 := Lib.hid bl1; clear bl1
  go_wp2_with fail
  refine (CE.out _).mono ?_
  rintro e w2 ⟨rfl, bl2⟩
  have fr2 := FR1.out.trans (Fr.of_bl bl2)
  have h2 := H1.out.bl bl2
  obtain ⟨c0, c1⟩ := two_cells (box_at fr2)
  have FR2 := Lib.hid fr2; clear fr2 FR1 bl2
  have H2 := Lib.hid h2; clear h2 H1
  go_wp2_with fail
  refine (CST.out _ _ H2.out (less_new HS1.out FR2.out.size)).mono ?_
  rintro e w3 ⟨rfl, ⟨st', h3, hris⟩, fr3⟩
  have HRIS := Lib.hid hris; clear hris
  have fr3' := FR2.out.trans fr3
  clear c0 c1
  obtain ⟨c0, c1⟩ := two_cells (box_at fr3')
  have FR3 := Lib.hid fr3'; clear fr3' fr3 FR2
  have H3 := Lib.hid h3; clear h3 H2
  go_wp2_with fail
  refine (CWI.out _).mono ?_
  rintro e w4 ⟨rfl, bl4⟩
  have fr4 := FR3.out.trans (Fr.of_bl bl4)
  have h4 := H3.out.bl bl4
  clear c0 c1
  obtain ⟨c0, c1⟩ := two_cells (box_at fr4)
  have FR4 := Lib.hid fr4; clear fr4 FR3 bl4
  have H4 := Lib.hid h4; clear h4 H3
  go_wp2_with fail
  refine (CF.out _).mono ?_
  rintro e w5 ⟨rfl, bl5⟩
  have fr5 := FR4.out.trans (Fr.of_bl bl5)
  have h5 := H4.out.bl bl5
  clear c0 c1
  have FR5 := Lib.hid fr5; clear fr5 FR4 bl5
  have H5 := Lib.hid h5; clear h5 H4
  go_wp2_with fail
  go_loopw [8] (fun v wr => ∃ j k' : Nat, v = .int .u64 ((q0 + j : Nat) : Int) ∧ q0 + j ≤ q1 + 1 ∧ StoreAt Y (less S w1.heap.size) wr sb (n + 8192) (cut f q0 j) k' (wiped M (q0 * 4096) ((q0 + j) * 4096)) st' ∧ k' + hcnt f q0 j = k ∧ Fr (less S w1.heap.size) (w1.alloc (box48 A B)) wr) (fun v _ => q1 + 1 - (intOf v).toNat)
  case atStart =>
    refine ⟨0, k, rfl, by omega, ?_, rfl, FR5.out⟩
    have e1 : cut f q0 0 = f := by funext p; simp only [cut]; rw [if_neg (by omega)]
    have e2 : wiped M (q0 * 4096) ((q0 + 0) * 4096) = M := by funext x; simp only [wiped]; rw [if_neg (by omega)]
    rw [e1, e2]; exact H5.out
  case round =>
    obtain ⟨j, k', rfl, hj, hst, hk, hfr⟩ := hrel
    clear H5 FR5
    obtain ⟨c0, c1⟩ := two_cells (box_at hfr)
    have HST := Lib.hid hst; clear hst
    have HFR := Lib.hid hfr; clear hfr
    have HK := Lib.hid hk; clear hk
    go_wp2_with fail
    refine (CL.out _).mono ?_
    rintro e w6 ⟨rfl, bl6⟩
    have fr6 := HFR.out.trans (Fr.of_bl bl6)
    have h6 := HST.out.bl bl6
    clear c0 c1
    obtain ⟨c0, c1⟩ := two_cells (box_at fr6)
    have FR6 := Lib.hid fr6; clear fr6
    have H6 := Lib.hid h6; clear h6 bl6
    by_cases hlt : q0 + j ≤ q1
    · have hltI : ((q0 + j : Nat) : Int) ≤ (q1 : Int) := by omega
      obtain ⟨x, hx⟩ : ∃ x, x = q0 + j := ⟨_, rfl⟩
      rw [← hx] at hltI ⊢
      have hxb : (x : Int) ≤ 67108864 := by omega
      have HX := Lib.hid hx; clear hx
      go_wp2_with fail
      refine (CWP.out _ _ _ _ _ _ H6.out x (by have := HX.out; omega) (by have := HX.out; omega)).mono ?_
      rintro e w7 ⟨rfl, ⟨k7, h7, hk7⟩, fr7⟩
      have H7 := Lib.hid h7; clear h7
      have FR7 := Lib.hid fr7; clear fr7
      have HK7 := Lib.hid hk7; clear hk7
      clear c0 c1
      go_wp2_with fail
      have hx := HX.out
      refine ⟨⟨j + 1, k7, by congr 1; omega, by omega, ?_, ?_, FR6.out.trans FR7.out⟩, ?_⟩
      · have h7 := H7.out
        rw [hx, cut_step, wiped_step] at h7
        exact h7
      · have h8 := HK7.out
        have h9 := HK.out
        rw [hx] at h8
        have e1 : cut f q0 j (q0 + j) = f (q0 + j) := by simp only [cut]; rw [if_neg (by omega)]
        rw [e1] at h8
        simp only [hcnt]
        omega
      · simp only [intOf]
        omega
    · have hgt : (q1 : Int) < ((q0 + j : Nat) : Int) := by omega
      have hjj : j = q1 + 1 - q0 := by omega
      have HJ := Lib.hid hjj
      clear hlt hjj c0 c1
      go_wp2_with fail
      go_end0
      have hjj := HJ.out
      refine ⟨rfl, ⟨k', st', ?_, by rw [← hjj]; exact HK.out, HRIS.out.mono fun p hp => by have := HA.out; have := HB.out; omega⟩, (Fr.of_bl BL1.out).trans FR6.out.unless⟩
      have h6 := H6.out.among (T := S) (fun _ _ e => e.1)
      rw [hjj] at h6
      rw [show q0 + (q1 + 1 - q0) = q1 + 1 by omega] at h6
      rw [HA.out, HB.out]
      exact h6
end Go.Proofs.Ytpalhkfipnbcnaa

set_option linter.unusedVariables false
set_option linter.unusedSimpArgs false
namespace Go.Proofs.Ytpalhkfipnbcnaa
open Go.RowKit
set_option maxRecDepth 100000
def off (T : Nat → Prop) (v : Value) : Nat → Prop := fun b => T b ∧ v.ownBlock ≠ some b
def spX (pm sm : Value) (c l mo ba en : Int) : Ctx := ⟨[pm, sm, .int .u64 c, .int .u64 l, .int .i64 mo, .int .u64 ba, .int .u64 en], 83, by decide⟩
/-- A space at block sb, all its blocks among T: its regions L, its bytes M, its stamps st, how many pages may be mapped, its heap. -/
structure MS (T : Nat → Prop) (w : World) (sb n : Nat) (L : List Rg) (M st : Nat → Int) (mo ba en : Int) : Prop where
  ex : ∃ rg f k, StoreAt ⟨rg, mo, ba, en⟩ (off T rg) w sb n f k M st ∧ Row w 0 rg L ∧ ∀ g, rg.ownBlock = some g → T g
  rs : Rs L
  few : L.length ≤ 256
  by_ : ∀ x, 0 ≤ M x ∧ M x ≤ 255
  mo_ : 0 ≤ mo ∧ mo ≤ 4096
  heap : 0 ≤ ba ∧ ba ≤ 274877906944 ∧ 0 ≤ en ∧ en ≤ 274877906944
section
variable {T : Nat → Prop} {w w' : World} {sb n : Nat} {L : List Rg} {M st : Nat → Int} {mo ba en : Int}
theorem MS.bl (h : MS T w sb n L M st mo ba en) (k : Bl w w') : MS T w' sb n L M st mo ba en := by
  obtain ⟨rg, f, k0, h1, h2, h3⟩ := h.ex
  exact ⟨⟨rg, f, k0, h1.bl k, h2.bl k, h3⟩, h.rs, h.few, h.by_, h.mo_, h.heap⟩
theorem MS.so (h : MS T w sb n L M st mo ba en) : So 0 274877906944 L := h.rs.nm.so
theorem MS.own (h : MS T w sb n L M st mo ba en) : T sb := by
  obtain ⟨rg, f, k0, ⟨pm, sm, c, l, h1⟩, h2, h3⟩ := h.ex
  exact h1.own.1
theorem MS.lt (h : MS T w sb n L M st mo ba en) : sb < w.heap.size := by
  obtain ⟨rg, f, k0, ⟨pm, sm, c, l, h1⟩, h2, h3⟩ := h.ex
  exact h1.lt
theorem MS.mono (h : MS T w sb n L M st mo ba en) {m : Nat} (hn : n ≤ m) : MS T w sb m L M st mo ba en := by
  obtain ⟨rg, f, k0, h1, h2, h3⟩ := h.ex
  exact ⟨⟨rg, f, k0, h1.mono hn, h2, h3⟩, h.rs, h.few, h.by_, h.mo_, h.heap⟩
theorem MS.kept (h : MS T w sb n L M st mo ba en) {U : Nat → Prop} (hf : Fr U w w') (hd : ∀ b, T b → ¬ U b) : MS T w' sb n L M st mo ba en := by
  obtain ⟨rg, f, k0, h1, h2, h3⟩ := h.ex
  exact ⟨⟨rg, f, k0, h1.kept hf (fun b e => hd b e.1), h2.kept (fun g hg => hf.block g (h2.lt g hg).2 (hd g (h3 g hg))), h3⟩, h.rs, h.few, h.by_, h.mo_, h.heap⟩
theorem MS.among (h : MS T w sb n L M st mo ba en) {U : Nat → Prop} (hs : ∀ b, b < w.heap.size → T b → U b) : MS U w sb n L M st mo ba en := by
  obtain ⟨rg, f, k0, h1, h2, h3⟩ := h.ex
  exact ⟨⟨rg, f, k0, h1.among fun b hb e => ⟨hs b hb e.1, e.2⟩, h2, fun g hg => hs g (h2.lt g hg).2 (h3 g hg)⟩, h.rs, h.few, h.by_, h.mo_, h.heap⟩
theorem MS.list (h : MS T w sb n L M st mo ba en) : ∃ X, ListAt X w sb L := by
  obtain ⟨rg, f, k0, ⟨pm, sm, c, l, h1⟩, h2, h3⟩ := h.ex
  exact ⟨spX pm sm c l mo ba en, rg, h1.blk, h2⟩
theorem MS.cells (h : MS T w sb n L M st mo ba en) : w.cell? ⟨sb, 5, none⟩ = some (.int .i64 mo) ∧ w.cell? ⟨sb, 6, none⟩ = some (.int .u64 ba) ∧ w.cell? ⟨sb, 7, none⟩ = some (.int .u64 en) := by
  obtain ⟨rg, f, k0, ⟨pm, sm, c, l, h1⟩, h2, h3⟩ := h.ex
  have := h1.blk
  refine ⟨?_, ?_, ?_⟩ <;> simp [World.cell?, this]
theorem MS.cell0 (h : MS T w sb n L M st mo ba en) : ∃ v, w.cell? ⟨sb, 0, none⟩ = some v := by
  obtain ⟨rg, f, k0, ⟨pm, sm, c, l, h1⟩, h2, h3⟩ := h.ex
  have := h1.blk
  exact ⟨rg, by simp [World.cell?, this]⟩
theorem MS.free (h : MS T w sb n L M st mo ba en) (i : Nat) : w.frozen? ⟨sb, i, none⟩ = false := by
  obtain ⟨rg, f, k0, ⟨pm, sm, c, l, h1⟩, h2, h3⟩ := h.ex
  exact h1.free i
theorem off_new {T : Nat → Prop} {w : World} {rg : Value} {L : List Rg} {base : Nat} (hr : Row w base rg L) (hT : ∀ b, w.heap.size ≤ b → T b) : ∀ b, w.heap.size ≤ b → off T rg b := fun b hb => ⟨hT b hb, fun e => by have := (hr.lt b e).2; omega⟩
/-- The list turns, and nothing else. -/
theorem SA.list {T : Nat → Prop} {w w' : World} {sb n k : Nat} {f : Nat → Option Nat} {M st : Nat → Int} {pm sm : Value} {c l : Int} {rg v : Value} {mo ba en : Int} {L' : List Rg} (h : SA ⟨rg, mo, ba, en⟩ (off T rg) w sb n f k M st pm sm c l) (hr : Row w' w.heap.size v L')
    (hb : w'.heap[sb]? = some (.cells #[v, pm, sm, .int .u64 c, .int .u64 l, .int .i64 mo, .int .u64 ba, .int .u64 en] 83 (0, 0))) (hf : Fr (only sb) w w') : SA ⟨v, mo, ba, en⟩ (off T v) w' sb n f k M st pm sm c l := by
  have h1 : SA ⟨rg, mo, ba, en⟩ (off T v) w sb n f k M st pm sm c l := h.among fun b hb hS => ⟨hS.1, fun e => by have := (hr.lt b e).1; omega⟩
  refine SA.cells (Y' := ⟨v, mo, ba, en⟩) h1 (fun x hx hne => hf.block x hx (fun e => hne e)) hb h.lw h.top (h1.pages.kept fun B hB => ?_) (h1.stamps.kept fun B hB => ?_) h.apart
  · obtain ⟨_, es, q, h2⟩ := h1.pages.isMap hB
    rw [hf.at_ h2 (fun e => by have := h.blk; rw [← show B = sb from e, h2] at this; cases this), h2]
  · obtain ⟨_, es, q, h2⟩ := h1.stamps.isMap hB
    rw [hf.at_ h2 (fun e => by have := h.blk; rw [← show B = sb from e, h2] at this; cases this), h2]
/-- Other numbers in the space's block. -/
theorem SA.nums {T : Nat → Prop} {w w' : World} {sb n k : Nat} {f : Nat → Option Nat} {M st : Nat → Int} {pm sm : Value} {c l : Int} {rg : Value} {mo ba en mo' ba' en' : Int} (h : SA ⟨rg, mo, ba, en⟩ (off T rg) w sb n f k M st pm sm c l)
    (hb : w'.heap[sb]? = some (.cells #[rg, pm, sm, .int .u64 c, .int .u64 l, .int .i64 mo', .int .u64 ba', .int .u64 en'] 83 (0, 0))) (hf : Fr (only sb) w w') : SA ⟨rg, mo', ba', en'⟩ (off T rg) w' sb n f k M st pm sm c l := by
  refine SA.cells (Y' := ⟨rg, mo', ba', en'⟩) h (fun x hx hne => hf.block x hx (fun e => hne e)) hb h.lw h.top (h.pages.kept fun B hB => ?_) (h.stamps.kept fun B hB => ?_) h.apart
  · obtain ⟨_, es, q, h2⟩ := h.pages.isMap hB
    rw [hf.at_ h2 (fun e => by have := h.blk; rw [← show B = sb from e, h2] at this; cases this), h2]
  · obtain ⟨_, es, q, h2⟩ := h.stamps.isMap hB
    rw [hf.at_ h2 (fun e => by have := h.blk; rw [← show B = sb from e, h2] at this; cases this), h2]
theorem Fr.only_of {T : Nat → Prop} {w w' : World} {sb : Nat} (h : Fr (only sb) w w') (hT : T sb) : Fr T w w' := h.mono fun k _ e => by rw [show k = sb from e]; exact hT
/-- What a call of the list leaves of the space. -/
theorem MS.laid (h : MS T w sb n L M st mo ba en) {X : Ctx} (hX : ListAt X w sb L) {L' : List Rg} (hl : ListFrom X w.heap.size w' sb L') (hf : Fr (only sb) w w') (hrs : Rs L') (hfew : L'.length ≤ 256) (hT : ∀ b, w.heap.size ≤ b → T b) : MS T w' sb n L' M st mo ba en := by
  obtain ⟨rg, f, k0, ⟨pm, sm, c, l, h1⟩, h2, h3⟩ := h.ex
  obtain ⟨v0, b0, _⟩ := hX
  obtain ⟨v, b1, r1⟩ := hl
  rw [h1.blk] at b0
  injection b0 with b0
  injection b0 with b0 bt
  have e0 : [rg, pm, sm, .int .u64 c, .int .u64 l, .int .i64 mo, .int .u64 ba, .int .u64 en] = v0 :: X.rest := by simpa using congrArg Array.toList b0
  injection e0 with _ e0
  rw [← e0, ← bt] at b1
  refine ⟨⟨v, f, k0, ⟨pm, sm, c, l, h1.list r1 b1 hf⟩, r1.base_ (b2 := 0) (fun g _ => Nat.zero_le g), fun g hg => hT g (r1.lt g hg).1⟩, hrs, hfew, h.by_, h.mo_, h.heap⟩
/-- What a call of the store leaves of the space. -/
theorem MS.stored (h : MS T w sb n L M st mo ba en) {rg : Value} (hr : Row w 0 rg L) (hg : ∀ g, rg.ownBlock = some g → T g) {f : Nat → Option Nat} {k m : Nat} {M' st' : Nat → Int} (hs : StoreAt ⟨rg, mo, ba, en⟩ (off T rg) w' sb m f k M' st') (hf : Fr (off T rg) w w') (hb : ∀ x, 0 ≤ M' x ∧ M' x ≤ 255) : MS T w' sb m L M' st' mo ba en :=
  ⟨⟨rg, f, k, hs, hr.kept (fun g hg => hf.block g (hr.lt g hg).2 (fun e => e.2 hg)), hg⟩, h.rs, h.few, hb, h.mo_, h.heap⟩
theorem Fr.off_of {T : Nat → Prop} {v : Value} {w w' : World} (h : Fr (off T v) w w') : Fr T w w' := h.mono fun _ _ e => e.1
end
/-- All of T but what was made between. -/
def gap (T : Nat → Prop) (lo hi : Nat) : Nat → Prop := fun b => T b ∧ ¬ (lo ≤ b ∧ b < hi)
theorem MS.gap {T : Nat → Prop} {w w' : World} {sb n : Nat} {L : List Rg} {M st : Nat → Int} {mo ba en : Int} (h : MS T w sb n L M st mo ba en) (k : Bl w w') (lo hi : Nat) (hlo : w.heap.size ≤ lo) : MS (gap T lo hi) w' sb n L M st mo ba en :=
  (h.among (U := Ytpalhkfipnbcnaa.gap T lo hi) fun b hb e => ⟨e, fun e2 => by omega⟩).bl k
theorem MS.ungap {T : Nat → Prop} {w : World} {sb n : Nat} {L : List Rg} {M st : Nat → Int} {mo ba en : Int} {lo hi : Nat} (h : MS (Ytpalhkfipnbcnaa.gap T lo hi) w sb n L M st mo ba en) : MS T w sb n L M st mo ba en := h.among fun b _ e => e.1
theorem gap_new {T : Nat → Prop} {w w' : World} (hT : ∀ b, w.heap.size ≤ b → T b) (lo : Nat) (k : w.heap.size ≤ w'.heap.size) : ∀ b, w'.heap.size ≤ b → gap T lo w'.heap.size b := fun b hb => ⟨hT b (by omega), fun e => by omega⟩
theorem Fr.ungap {T : Nat → Prop} {w w' : World} {lo hi : Nat} (h : Fr (gap T lo hi) w w') : Fr T w w' := h.mono fun _ _ e => e.1
/-! ### New, up, isProt -/
theorem mnew_any (T : Nat → Prop) (m : Int) (w : World) (hT : T w.heap.size) (h0 : 0 ≤ m) (h1 : m ≤ 4096) : Calls Try.prog 27 #[.int .i64 m] w fun e w' => e = .returned (addr0 w.heap.size) ∧ MS T w' w.heap.size 0 [] (fun _ => 0) (fun _ => 0) m 0 0 ∧ Bl w w' ∧ w'.heap.size = w.heap.size + 1 := by
  have mx : ∀ ts t W, (Builtin.max_ ts t #[.int .i64 m, .int .i64 0]).run Try.prog W = .ok (.int .i64 m) W := fun ts t W => by
    rw [max_run]; congr 2; split <;> omega
  unfold addr0
  go_enter Try.func27, Try.ntmps27
  go_wp2
  go_ret
  refine ⟨rfl, ⟨⟨.slice none 0 0, fun _ => none, 0, ⟨.map none, .map none, 0, 0, ?_⟩, RowG.nil, fun g hg => by cases hg⟩, Rs.nil, by simp, fun _ => by omega, ⟨h0, h1⟩, by omega⟩, Bl.new _ _, by simp⟩
  exact ⟨heap_alloc_new w _, ⟨hT, fun e => by cases e⟩, by omega, fun _ _ => Int.le_refl _, .inl ⟨rfl, fun _ => rfl, rfl⟩, .inl ⟨rfl, fun _ _ => rfl⟩, fun B h => (by cases h), fun p b h => (by cases h), fun p q b h => (by cases h), fun _ _ _ _ => rfl, fun p b h => (by cases h)⟩
theorem misProt_yes (p : Int) (w : World) (h0 : 0 ≤ p) (h1 : p ≤ 7) : Calls Try.prog 46 #[.int .i64 p] w fun x w' => x = .returned (.bool true) ∧ w = w' := by
  go_enter Try.func46, Try.ntmps46
  go_wp2
  go_ret
  exact ⟨rfl, rfl⟩
theorem misProt_no (p : Int) (w : World) (h : ¬ (0 ≤ p ∧ p ≤ 7)) : Calls Try.prog 46 #[.int .i64 p] w fun x w' => x = .returned (.bool false) ∧ w = w' := by
  by_cases h0 : 0 ≤ p
  · have h1 : 7 < p := by omega
    have t1 : decide (p ≤ 7) = false := by simp; omega
    clear h
    go_enter Try.func46, Try.ntmps46
    go_wp2
    go_ret
    exact ⟨rfl, rfl⟩
  · have h1 : p < 0 := by omega
    clear h
    go_enter Try.func46, Try.ntmps46
    go_wp2
    go_ret
    exact ⟨rfl, rfl⟩
/-- Rounded up to whole pages; near 2^64 it goes round. -/
def upW (n : Int) : Int := IntKind.u64.wrap (n + 4095) / 4096 * 4096
theorem upW_in {n : Int} (h0 : 0 ≤ n) (h1 : n ≤ 274877906944) : upW n = (n + 4095) / 4096 * 4096 := by unfold upW; rw [IntWalk.u64_in _ (by omega)]
theorem upW_facts (n : Int) : upW n % 4096 = 0 ∧ 0 ≤ upW n ∧ upW n ≤ 18446744073709547520 := by
  unfold upW
  have := wrap_in (n + 4095)
  omega
theorem mup_any (n : Int) (w : World) : Calls Try.prog 47 #[.int .u64 n] w fun e w' => e = .returned (.int .u64 (upW n)) ∧ w = w' := by
  go_enter Try.func47, Try.ntmps47
  go_wp2
  go_ret
  have hw := wrap_in (n + 4095)
  refine ⟨?_, rfl⟩
  show Ending.returned (.int .u64 (IntKind.u64.wrap (IntKind.u64.wrap (n + 4095) - (IntKind.u64.wrap (n + 4095)).tmod 4096))) = _
  unfold upW
  congr 2
  rw [Int.tmod_eq_emod_of_nonneg hw.1, IntWalk.u64_in _ (by omega)]
  omega
end Go.Proofs.Ytpalhkfipnbcnaa

set_option linter.unusedVariables false
set_option linter.unusedSimpArgs false
namespace Go.Proofs.Ytpalhkfipnbcnaa
open Go.RowKit
set_option maxRecDepth 100000
/-! ### how many places -/
theorem tot_joinOne (L : List Rg) (r : Rg) : tot (joinOne L r) = tot L + (r.e - r.s) := by
  rcases last_cases L with rfl | ⟨A, q, rfl⟩
  · rw [joinOne_nil]; simp [tot]
  · by_cases h : q.e = r.s ∧ q.p = r.p
    · rw [joinOne_yes A q r h.1 h.2, tot_append, tot_append]
      simp only [tot]
      omega
    · rw [joinOne_no A q r h, tot_append]
      simp only [tot]
      omega
theorem tot_join (L M : List Rg) : tot (join L M) = tot L + tot M := by
  induction M generalizing L with
  | nil => simp [join, tot]
  | cons r M ih =>
    have e : join L (r :: M) = join (joinOne L r) M := rfl
    rw [e, ih, tot_joinOne]
    simp only [tot]
    omega
theorem tot_within_cons (r : Rg) (L : List Rg) (a b : Int) : tot (within (r :: L) a b) = max 0 (min r.e b - max r.s a) + tot (within L a b) := by
  unfold within
  rw [List.filterMap_cons]
  by_cases h : max r.s a < min r.e b
  · have e : clip a b r = some ⟨max r.s a, min r.e b, r.p⟩ := by unfold clip; rw [if_pos h]
    rw [e]
    simp only [tot]
    omega
  · have e : clip a b r = none := by unfold clip; rw [if_neg h]
    rw [e]
    show tot (List.filterMap (clip a b) L) = _
    omega
theorem tot_within_add (L : List Rg) (a b c : Int) (h1 : a ≤ b) (h2 : b ≤ c) : tot (within L a b) + tot (within L b c) = tot (within L a c) := by
  induction L with
  | nil => simp [within, tot]
  | cons r L ih =>
    rw [tot_within_cons, tot_within_cons, tot_within_cons]
    omega
theorem tot_within_all {L : List Rg} (h : So 0 274877906944 L) : tot (within L 0 274877906944) = tot L := by
  induction L with
  | nil => simp [within, tot]
  | cons r L ih =>
    rw [tot_within_cons, ih (h.tail.mono (by have := h.2 r (by simp); omega) (Int.le_refl _))]
    have := h.2 r (by simp)
    simp only [tot]
    omega
theorem tot_within_free {L : List Rg} {a b : Int} (h : FreeIn L a b) : tot (within L a b) = 0 := by
  have e : within L a b = [] := by
    rw [List.eq_nil_iff_forall_not_mem]
    intro q hq
    obtain ⟨r, hr, hc⟩ := within_mem.1 hq
    obtain ⟨c1, c2, c3, c4⟩ := clip_some hc
    exact h q.s r.p (by omega) (by omega) ⟨r, hr, by omega, by omega, rfl⟩
  rw [e]; rfl
/-- How many places are mapped when a span is laid. -/
theorem tot_layL {L M : List Rg} {s e : Int} (h : So 0 274877906944 L) (h0 : 0 ≤ s) (h1 : s ≤ e) (h2 : e ≤ 274877906944) : tot (layL L s e M) = tot L - tot (within L s e) + tot M := by
  unfold layL
  rw [tot_join, tot_join, tot_join]
  have a1 := tot_within_add L 0 s e h0 h1
  have a2 := tot_within_add L 0 e 274877906944 (by omega) h2
  have a3 := tot_within_all h
  have a4 : tot ([] : List Rg) = 0 := rfl
  omega
theorem tot_within_le (L : List Rg) (a b : Int) : 0 ≤ tot (within L a b) := by
  induction L with
  | nil => simp [within, tot]
  | cons r L ih => rw [tot_within_cons]; omega
/-! ### lay -/
/-- What a change of bytes leaves: where it ends the stamps have risen. -/
def ClearPost (T : Nat → Prop) (w : World) (sb n : Nat) (L : List Rg) (M st : Nat → Int) (mo ba en : Int) (a b : Nat) (w' : World) : Prop :=
  ∃ st', MS T w' sb (n + 8192) L (wiped M a b) st' mo ba en ∧ Rise st st' (fun p => a ≤ p * 4096 ∧ p * 4096 < b) ∧ Fr T w w'
theorem wiped_bd {M : Nat → Int} (h : ∀ x, 0 ≤ M x ∧ M x ≤ 255) (a b : Nat) : ∀ x, 0 ≤ wiped M a b x ∧ wiped M a b x ≤ 255 := fun x => by
  simp only [wiped]
  split
  · omega
  · exact h x
theorem mclear_any {T : Nat → Prop} {w : World} {sb n : Nat} {L : List Rg} {M st : Nat → Int} {mo ba en : Int} (h : MS T w sb n L M st mo ba en) (a b : Nat) (ha : a % 4096 = 0) (hb : b % 4096 = 0) (hab : a < b) (hbt : b ≤ 274877906944) (hnar : b - a ≤ 16777216) (hn : n < 80000000) (hT : ∀ b, w.heap.size ≤ b → T b) :
    Calls Try.prog 70 #[.pointer (some ⟨sb, 1, none⟩), .int .u64 (a : Int), .int .u64 (b : Int)] w fun e w' => e = .returned (.tuple #[]) ∧ ClearPost T w sb n L M st mo ba en a b w' := by
  obtain ⟨rg, f, k0, h1, h2, h3⟩ := h.ex
  have cc := clear_narrow h1 (a / 4096) (b / 4096 - 1) (by omega) (by omega) (by omega) hn (off_new h2 hT)
  rw [show a / 4096 * 4096 = a by omega, show (b / 4096 - 1 + 1) * 4096 = b by omega] at cc
  refine cc.mono ?_
  rintro e w' ⟨rfl, ⟨k', st', h4, _, hr⟩, hf⟩
  exact ⟨rfl, st', h.stored h2 h3 h4 hf (wiped_bd h.by_ a b), hr.mono fun p hp => by omega, hf.off_of⟩
theorem keepM {w w8 w9 : World} {p : Addr} {v : Value} (h : w8.cell? p = some v ∧ Bl w w8) (k : Bl w8 w9) : w9.cell? p = some v ∧ Bl w w9 := ⟨k.cell' h.1, h.2.trans k⟩
/-- The end of a lay that may be. -/
def MLayPost (T : Nat → Prop) (w : World) (sb n : Nat) (L : List Rg) (M st : Nat → Int) (mo ba en : Int) (a b : Nat) (e : Ending) (w' : World) : Prop :=
  e = .returned (.int .i64 0) ∧ ClearPost T w sb n L M st mo ba en a b w'
set_option maxHeartbeats 4000000 in
theorem mlay_ok {T : Nat → Prop} {w : World} {sb n : Nat} {L : List Rg} {M st : Nat → Int} {mo ba en : Int} (h : MS T w sb n L M st mo ba en) (a b : Nat) (p : Int) (hs : Span (a : Int) (b : Int)) (hp0 : 0 ≤ p) (hp1 : p ≤ 7)
    (hc : (layL L a b [⟨a, b, p⟩]).length ≤ 256) (ht : tot (layL L a b [⟨a, b, p⟩]) ≤ mo * 4096) (hn : n < 80000000) (hT : ∀ b, w.heap.size ≤ b → T b) :
    Calls Try.prog 49 #[addr0 sb, .int .u64 (a : Int), .int .u64 (b : Int), .int .i64 p] w (MLayPost T w sb n (layL L a b [⟨a, b, p⟩]) M st mo ba en a b) := by
  have hrs : Rs (layL L a b [⟨a, b, p⟩]) := h.rs.lay (by omega) hs
  obtain ⟨X, hX⟩ := h.list
  have ccp := copy_any hX (by have := h.few; omega)
  have htl := tot_layL (M := [⟨a, b, p⟩]) h.so (show (0 : Int) ≤ a by omega) (Int.le_of_lt hs.2.2.1) hs.2.2.2
  have hwl := So.tot_le (within_so h.so (a := 0) (b := (a : Int))) (by omega)
  have hnar : b - a ≤ 16777216 := by
    have h1 := h.mo_
    have h2 := tot_within_add L 0 a b (by omega) (Int.le_of_lt hs.2.2.1)
    have h3 := tot_within_add L 0 b 274877906944 (by omega) hs.2.2.2
    have h4 := tot_within_all h.so
    have h5 := tot_within_le L b 274877906944
    have h6 := tot_within_le L 0 a
    simp only [tot] at htl
    omega
  have hpg : tot (layL L a b [⟨a, b, p⟩]) / 4096 ≤ mo := by omega
  have hs1 := hs.1
  have hs2 := hs.2.1
  have hs3 := hs.2.2.1
  have hs4 := hs.2.2.2
  have HSP := Lib.hid hs; clear hs
  have HX := Lib.hid hX; clear hX
  have HRS := Lib.hid hrs; clear hrs
  have HC := Lib.hid hc; clear hc
  have H := Lib.hid h; clear h
  have HT := Lib.hid hT; clear hT
  have HF := Lib.hid H.out.few
  have CCP := Lib.hid ccp; clear ccp htl hwl ht
  obtain ⟨L', hL'⟩ : ∃ L', L' = layL L a b [⟨a, b, p⟩] := ⟨_, rfl⟩
  rw [← hL'] at hpg HRS HC ⊢
  have HL' := Lib.hid hL'; clear hL'
  have HHS := Lib.hid (⟨hs1, hs2, hs3, hs4⟩ : (a : Int) % 4096 = 0 ∧ (b : Int) % 4096 = 0 ∧ (a : Int) < b ∧ (b : Int) ≤ 274877906944)
  clear hs1 hs2 hs3 hs4
  unfold addr0 at *
  go_enter Try.func49, Try.ntmps49
  go_wp2_with fail
  refine CCP.out.mono ?_
  rintro e w1 ⟨nb, rfl, hnb, l1, k1⟩
  unfold addr0
  clear CCP
  have L1 := Lib.hid l1; clear l1
  have K1 := Lib.hid k1; clear k1
  have HNB := Lib.hid hnb; clear hnb
  go_wp2_with fail
  have cm := map_ok L1.out.at0 (a : Int) (b : Int) p (by omega) HSP.out hp0 hp1 HF.out (by rw [← HL'.out]; exact HC.out)
  unfold addr0 at cm
  rw [← HL'.out] at cm
  refine cm.mono ?_
  rintro e w2 ⟨rfl, l2, f2⟩
  have k2 : Bl w w2 := Fr.only_new K1.out f2 HNB.out
  have L2 := Lib.hid l2; clear l2
  have K2 := Lib.hid k2; clear k2 f2 cm
  obtain ⟨m0, m1, m2⟩ := (H.out.bl K2.out).cells
  have cp := fun W (hW : Bl w2 W) => pages_any (L2.out.bl hW).at0 HRS.out.nm.so (by have := HC.out; omega)
  have CP := Lib.hid cp; clear cp m1 m2
  have hS : w2.cell? ⟨sb, 5, none⟩ = some (.int .i64 mo) ∧ Bl w2 w2 := ⟨m0, Bl.refl _⟩
  have HS := Lib.hid hS; clear hS m0
  unfold addr0 at CP
  generalize tot L' / 4096 = q at *
  go_wp2_with fail
  go_region_held3 (fun w' => w'.cell? ⟨sb, 5, none⟩ = some (.int .i64 mo) ∧ Bl w2 w') (first | assumption | exact HS.out | exact keepM HS.out ((Bl.refl w2).drewN 1)) ((go_at_call 69; refine (CP.out _ (by first | exact HS.out.2 | exact And.right (a := World.cell? _ ⟨sb, 5, none⟩ = some (.int .i64 mo)) (by assumption))).mono ?_; rintro e w9 ⟨rfl, k9⟩; have hkk := keepM (by first | assumption | exact HS.out) k9))
  all_goals (
    have hL9 := L2.out.bl hkk.2
    have k9' := K2.out.trans hkk.2
    obtain ⟨v, hvb, hvr⟩ := hL9
    obtain ⟨A, cap, hv⟩ := hvr.shape
    subst hv
    have d0 : w9.cell? ⟨nb, 0, none⟩ = some (.slice A L'.length cap) := by rw [cell_of_row w9 nb 0 _ _ (0, 0) hvb]; simp
    have d1 := (H.out.bl k9').free 0
    obtain ⟨v0, d2⟩ := (H.out.bl k9').cell0
    have r9 : Row w9 w.heap.size (.slice A L'.length cap) L' := hvr.base_ (fun g hg => Nat.le_trans K1.out.size (hvr.lt g hg).1)
    have h10 := H.out.laid HX.out ((HX.out.bl k9').set r9) ((Fr.of_bl k9').trans (Fr.set (show only sb sb from rfl) _)) HRS.out HC.out HT.out
    have f10 : Fr T w (w9.setCell ⟨sb, 0, none⟩ (.slice A L'.length cap)) := (Fr.of_bl k9').trans (Fr.set H.out.own _)
    have H10 := Lib.hid h10
    have F10 := Lib.hid f10
    have D0 := Lib.hid d0
    clear h10 f10 hvb hvr r9
    have hN := hn
    clear hkk HS
    go_wp2_with fail
    refine (mclear_any H10.out a b (by have := HHS.out; omega) (by have := HHS.out; omega) (by have := HHS.out; omega) (by have := HHS.out; omega) hnar hn (fun b hb => HT.out b (Nat.le_trans F10.out.size hb))).mono ?_
    rintro e w11 ⟨rfl, st', h11, hr11, f11⟩
    have H11 := Lib.hid h11; clear h11
    have R11 := Lib.hid hr11; clear hr11
    have F11 := Lib.hid f11; clear f11
    clear d0 d1 d2 k9'
    go_wp2_with fail
    go_ret
    exact ⟨rfl, st', H11.out, R11.out, F10.out.trans F11.out⟩)
set_option maxHeartbeats 4000000 in
theorem mlay_many {T : Nat → Prop} {w : World} {sb n : Nat} {L : List Rg} {M st : Nat → Int} {mo ba en : Int} (h : MS T w sb n L M st mo ba en) (a b : Nat) (p : Int) (hs : Span (a : Int) (b : Int)) (hp0 : 0 ≤ p) (hp1 : p ≤ 7)
    (hc : 256 < (layL L a b [⟨a, b, p⟩]).length) :
    Calls Try.prog 49 #[addr0 sb, .int .u64 (a : Int), .int .u64 (b : Int), .int .i64 p] w (NoPost w 12) := by
  obtain ⟨X, hX⟩ := h.list
  have ccp := copy_any hX (by have := h.few; omega)
  have HF := Lib.hid h.few
  have CCP := Lib.hid ccp; clear ccp hX h
  have HSP := Lib.hid hs; clear hs
  have HC := Lib.hid hc; clear hc
  unfold addr0 at *
  go_enter Try.func49, Try.ntmps49
  go_wp2_with fail
  refine CCP.out.mono ?_
  rintro e w1 ⟨nb, rfl, hnb, l1, k1⟩
  unfold addr0
  have L1 := Lib.hid l1; clear l1
  have K1 := Lib.hid k1; clear k1 hnb CCP
  go_wp2_with fail
  have cm := map_many L1.out.at0 (a : Int) (b : Int) p (by omega) HSP.out hp0 hp1 HF.out HC.out
  unfold addr0 at cm
  refine cm.mono ?_
  rintro e w2 ⟨rfl, k2⟩
  have K2 := Lib.hid (K1.out.trans k2); clear k2 cm
  go_wp2_with fail
  go_ret
  exact ⟨rfl, K2.out⟩
set_option maxHeartbeats 4000000 in
theorem mlay_full {T : Nat → Prop} {w : World} {sb n : Nat} {L : List Rg} {M st : Nat → Int} {mo ba en : Int} (h : MS T w sb n L M st mo ba en) (a b : Nat) (p : Int) (hs : Span (a : Int) (b : Int)) (hp0 : 0 ≤ p) (hp1 : p ≤ 7)
    (hc : (layL L a b [⟨a, b, p⟩]).length ≤ 256) (ht : mo * 4096 < tot (layL L a b [⟨a, b, p⟩])) :
    Calls Try.prog 49 #[addr0 sb, .int .u64 (a : Int), .int .u64 (b : Int), .int .i64 p] w (NoPost w 12) := by
  have hrs : Rs (layL L a b [⟨a, b, p⟩]) := h.rs.lay (by omega) hs
  obtain ⟨X, hX⟩ := h.list
  have ccp := copy_any hX (by have := h.few; omega)
  have hpg : mo < tot (layL L a b [⟨a, b, p⟩]) / 4096 := by have := hrs.al.tot; omega
  have HSP := Lib.hid hs; clear hs
  have HRS := Lib.hid hrs; clear hrs
  have HC := Lib.hid hc; clear hc
  have HF := Lib.hid h.few
  have H := Lib.hid h; clear h
  have CCP := Lib.hid ccp; clear ccp ht hX
  obtain ⟨L', hL'⟩ : ∃ L', L' = layL L a b [⟨a, b, p⟩] := ⟨_, rfl⟩
  rw [← hL'] at hpg HRS HC
  have HL' := Lib.hid hL'; clear hL'
  unfold addr0 at *
  go_enter Try.func49, Try.ntmps49
  go_wp2_with fail
  refine CCP.out.mono ?_
  rintro e w1 ⟨nb, rfl, hnb, l1, k1⟩
  unfold addr0
  clear CCP
  have L1 := Lib.hid l1; clear l1
  have K1 := Lib.hid k1; clear k1
  have HNB := Lib.hid hnb; clear hnb
  go_wp2_with fail
  have cm := map_ok L1.out.at0 (a : Int) (b : Int) p (by omega) HSP.out hp0 hp1 HF.out (by rw [← HL'.out]; exact HC.out)
  unfold addr0 at cm
  rw [← HL'.out] at cm
  refine cm.mono ?_
  rintro e w2 ⟨rfl, l2, f2⟩
  have k2 : Bl w w2 := Fr.only_new K1.out f2 HNB.out
  have L2 := Lib.hid l2; clear l2
  have K2 := Lib.hid k2; clear k2 f2 cm
  obtain ⟨m0, m1, m2⟩ := (H.out.bl K2.out).cells
  have cp := fun W (hW : Bl w2 W) => pages_any (L2.out.bl hW).at0 HRS.out.nm.so (by have := HC.out; omega)
  have CP := Lib.hid cp; clear cp m1 m2
  have hS : w2.cell? ⟨sb, 5, none⟩ = some (.int .i64 mo) ∧ Bl w2 w2 := ⟨m0, Bl.refl _⟩
  have HS := Lib.hid hS; clear hS m0
  unfold addr0 at CP
  generalize tot L' / 4096 = q at *
  go_wp2_with fail
  go_region_held3 (fun w' => w'.cell? ⟨sb, 5, none⟩ = some (.int .i64 mo) ∧ Bl w2 w') (first | assumption | exact HS.out | exact keepM HS.out ((Bl.refl w2).drewN 1)) ((go_at_call 69; refine (CP.out _ (by first | exact HS.out.2 | exact And.right (a := World.cell? _ ⟨sb, 5, none⟩ = some (.int .i64 mo)) (by assumption))).mono ?_; rintro e w9 ⟨rfl, k9⟩; have hkk := keepM (by first | assumption | exact HS.out) k9))
  all_goals (
    have k9' := K2.out.trans hkk.2
    have K9 := Lib.hid k9'; clear k9' hkk HS
    go_wp2_with fail
    go_ret
    exact ⟨rfl, K9.out⟩)
set_option maxHeartbeats 4000000 in
theorem mlay_no {T : Nat → Prop} {w : World} {sb n : Nat} {L : List Rg} {M st : Nat → Int} {mo ba en : Int} (h : MS T w sb n L M st mo ba en) (a b p : Int) (h0 : 0 ≤ a) (h1 : a ≤ 18446744073709551615) (h2 : 0 ≤ b) (h3 : b ≤ 18446744073709551615) (hs : ¬ (Span a b ∧ 0 ≤ p ∧ p ≤ 7)) :
    Calls Try.prog 49 #[addr0 sb, .int .u64 a, .int .u64 b, .int .i64 p] w (NoPost w 22) := by
  obtain ⟨X, hX⟩ := h.list
  have ccp := copy_any hX (by have := h.few; omega)
  have CCP := Lib.hid ccp; clear ccp hX h
  have cm := fun W nb => map_no (w := W) nb a b p h0 h1 h2 h3 hs
  have CM := Lib.hid cm; clear cm hs
  unfold addr0 at *
  go_enter Try.func49, Try.ntmps49
  go_wp2_with fail
  refine CCP.out.mono ?_
  rintro e w1 ⟨nb, rfl, hnb, l1, k1⟩
  unfold addr0
  have K1 := Lib.hid k1; clear k1 hnb CCP l1
  go_wp2_with fail
  refine (CM.out _ _).mono ?_
  rintro e w2 ⟨rfl, k2⟩
  have K2 := Lib.hid (K1.out.trans k2); clear k2 CM
  go_wp2_with fail
  go_ret
  exact ⟨rfl, K2.out⟩
end Go.Proofs.Ytpalhkfipnbcnaa
