/-
  Up, whole, Unmap, Protect of a space.
-/
import Derived.Test.YtilahffbfephbaaRefE
import Derived.Deep.Cut
import Derived.IntWalk
set_option linter.unusedVariables false
set_option linter.unusedSimpArgs false
namespace Go.Proofs.Ytilahffbfephbaa
open Go.RowKit
set_option maxRecDepth 100000
theorem up_any (n : Int) (w : World) (h0 : 0 ≤ n) (h1 : n ≤ 274877906944) : Calls Try.prog 32 #[.int .u64 n] w fun e w' => e = .returned (.int .u64 ((n + 4095) / 4096 * 4096)) ∧ w = w' := by
  go_enter Try.func32, Try.ntmps32
  go_wp2
  go_ret
  exact ⟨rfl, rfl⟩
theorem up_whole {n : Int} (h : n % 4096 = 0) : (n + 4095) / 4096 * 4096 = n := by omega
theorem whole_any (s t : Int) (w : World) (h0 : 0 ≤ s) (hs : Span s t) : Calls Try.prog 39 #[.int .u64 s, .int .u64 (t - s)] w fun e w' => e = .returned (.tuple #[.int .u64 t, .bool true]) ∧ w = w' := by
  obtain ⟨a1, a2, a3, a4⟩ := id hs
  have cs := fun W => refSpan_yes s t W h0 hs
  have cu := fun W => up_any (t - s) W (by omega) (by omega)
  simp only [up_whole (show (t - s) % 4096 = 0 by omega)] at cu
  have CS := Lib.hid cs; clear cs hs
  have CU := Lib.hid cu; clear cu
  have d1 : 0 < t - s := by omega
  have d2 : t - s ≤ 274877906944 := by omega
  have d3 : s ≤ 274877906944 := by omega
  have he : s + (t - s) = t := by omega
  have HE := Lib.hid he; clear he
  have t0 : (t - s == 0) = false := by simp; omega
  obtain ⟨d, hd⟩ : ∃ d, d = t - s := ⟨_, rfl⟩
  rw [← hd] at CU d1 d2 HE t0 ⊢
  have HD := Lib.hid hd; clear hd a1 a2
  have d4 : s + d ≤ 274877906944 := by have := HE.out; omega
  go_enter Try.func39, Try.ntmps39
  go_wp2_with fail
  refine (CU.out _).mono ?_
  rintro e w' ⟨rfl, rfl⟩
  go_wp2_with fail
  refine (CU.out _).mono ?_
  rintro e w' ⟨rfl, rfl⟩
  go_wp2_with fail
  rw [HE.out]
  refine (CS.out _).mono ?_
  rintro e w' ⟨rfl, rfl⟩
  go_wp2_with fail
  go_ret2
  exact ⟨rfl, rfl⟩
def CutPost (w : World) (sb : Nat) (P : List Pg) (s t : Int) (e : Ending) (w' : World) : Prop := e = .returned (.int .i64 0) ∧ ∃ P', SpaceAt w' sb P' ∧ Pgs 100 P' ∧ (∀ a q, OnP P' a q ↔ (a < s ∨ t ≤ a) ∧ OnP P a q) ∧ Fr (only sb) w w'
set_option maxHeartbeats 2000000 in
theorem runmap_any {w : World} {sb : Nat} {P : List Pg} (h : SpaceAt w sb P) (hp : Pgs 100 P) (s t : Int) (h0 : 0 ≤ s) (hs : Span s t) :
    Calls Try.prog 17 #[addr0 sb, .int .u64 s, .int .u64 (t - s)] w (CutPost w sb P s t) := by
  have cw := fun W => whole_any s t W h0 hs
  have co := without_any h hp (by omega) s t
  obtain ⟨vs, hvs, hvr⟩ := id h
  have hfz : w.frozen? ⟨sb, 0, none⟩ = false := by simp [World.frozen?, hvs]
  have hlt := h.lt
  have hpo := outP_pgs (s := s) (e := t) hp
  have hon := fun a q => outP_on (P := P) (a := a) (q := q) hs.1 hs.2.1 hs.2.2.1
  have CW := Lib.hid cw; clear cw
  have CO := Lib.hid co; clear co
  have HH := Lib.hid h; clear h hvs hvr vs hp
  have HFZ := Lib.hid hfz; clear hfz
  have HLT := Lib.hid hlt; clear hlt
  obtain ⟨R, hR⟩ : ∃ R, R = outP P s t := ⟨_, rfl⟩
  rw [← hR] at hpo CO
  simp only [← hR] at hon
  clear hR hs
  have HPO := Lib.hid hpo; clear hpo
  have HON := Lib.hid hon; clear hon
  obtain ⟨d, hd⟩ : ∃ d, d = t - s := ⟨_, rfl⟩
  rw [← hd] at CW ⊢
  clear hd
  unfold addr0 at *
  go_enter Try.func17, Try.ntmps17
  go_wp2_with fail
  refine (CW.out _).mono ?_
  rintro e w' ⟨rfl, rfl⟩
  go_wp2_with fail
  refine CO.out.mono ?_
  rintro e w1 ⟨v1, rfl, r1, k1⟩
  have hrl := Lib.hid (regs_len HPO.out)
  obtain ⟨A1, cap1, hv1⟩ := r1.shape
  subst hv1
  have R1 := Lib.hid r1; clear r1
  have K1 := Lib.hid k1; clear k1
  go_wp2_with fail
  refine (regions_any R1.out HPO.out (by omega)).mono ?_
  rintro e w2 ⟨v2, rfl, r2, k2⟩
  obtain ⟨A2, cap2, hv2⟩ := r2.shape
  obtain ⟨rl, hrl2⟩ : ∃ rl, rl = (regs R).length := ⟨_, rfl⟩
  rw [← hrl2] at hv2 hrl
  have hrlI : (rl : Int) ≤ 100 := by have := hrl.out; omega
  subst hv2
  clear hrl2 r2
  have K2 := Lib.hid (K1.out.trans k2)
  have R2 := Lib.hid (R1.out.bl k2); clear k2
  obtain ⟨AS, capS, e0, e1, _⟩ := (HH.out.bl K2.out).cells
  have f0 : w2.frozen? ⟨sb, 0, none⟩ = false := by rw [K2.out.frozen (p := ⟨sb, 0, none⟩) HLT.out]; exact HFZ.out
  go_wp2_with fail
  go_ret
  exact ⟨rfl, R, (HH.out.bl K2.out).set R2.out, HPO.out, HON.out, (Fr.of_bl K2.out).trans (Fr.set (by exact rfl) _)⟩
theorem pflat_set (L : List Pg) (k : Nat) (x : Pg) (p : Int) (hk : L[k]? = some x) : (flat pgC L).set (k * 3 + 1) (.int .i64 p) = flat pgC (L.set k ⟨x.no, p, x.b⟩) := by
  induction L generalizing k with
  | nil => cases hk
  | cons y L ih =>
    have e : ∀ (z : Pg) (M : List Pg), flat pgC (z :: M) = pgC z ++ flat pgC M := fun z M => by simp [flat]
    cases k with
    | zero =>
      simp only [List.getElem?_cons_zero, Option.some.injEq] at hk
      subst hk
      rw [List.set_cons_zero, e, e]
      rfl
    | succ k =>
      rw [List.getElem?_cons_succ] at hk
      rw [List.set_cons_succ, e, e, ← ih k hk, List.set_append, if_neg (by rw [pgC_len]; omega), pgC_len, show (k + 1) * 3 + 1 - 3 = k * 3 + 1 by omega]
theorem prow_set {w : World} {base g cap n : Nat} {L : List Pg} (h : PRow w base (.slice (some ⟨g, 0, none⟩) n cap) L) (k : Nat) (x : Pg) (p : Int) (hk : L[k]? = some x) :
    PRow (w.setCell ⟨g, k * 3 + 1, none⟩ (.int .i64 p)) base (.slice (some ⟨g, 0, none⟩) n cap) (L.set k ⟨x.no, p, x.b⟩) := by
  have hne : L ≠ [] := by intro e; rw [e] at hk; cases hk
  have hn : n = L.length := by obtain ⟨_, _, _, h1, _⟩ := h.form hne; injection h1
  subst hn
  refine ⟨?_, fun e => ?_⟩
  · have h1 := (h.1.stored (k * 3 + 1) (.int .i64 p)).1
    rw [pflat_set L k x p hk] at h1
    simpa using h1
  · have := congrArg List.length e
    simp at this
    exact absurd this hne
/-- Half way through: the first k as they will be. -/
def half (f : Pg → Pg) (P : List Pg) (k : Nat) : List Pg := (P.take k).map f ++ P.drop k
theorem half_zero (f : Pg → Pg) (P : List Pg) : half f P 0 = P := by simp [half]
theorem half_all (f : Pg → Pg) (P : List Pg) : half f P P.length = P.map f := by simp [half]
theorem half_len (f : Pg → Pg) (P : List Pg) (k : Nat) (h : k ≤ P.length) : (half f P k).length = P.length := by simp [half]; omega
theorem half_get (f : Pg → Pg) (P : List Pg) (k : Nat) (x : Pg) (h : P[k]? = some x) : (half f P k)[k]? = some x := by
  have hk := (List.getElem?_eq_some_iff.1 h).1
  have hl : ((P.take k).map f).length = k := by simp; omega
  rw [half, List.getElem?_append_right (by omega), hl, List.getElem?_drop]
  simpa using h
theorem half_next (f : Pg → Pg) (P : List Pg) (k : Nat) (x : Pg) (h : P[k]? = some x) : half f P (k + 1) = (half f P k).set k (f x) := by
  have hk := (List.getElem?_eq_some_iff.1 h).1
  have hl : ((P.take k).map f).length = k := by simp; omega
  have hd : P.drop k = x :: P.drop (k + 1) := by
    rw [List.drop_eq_getElem_cons hk]
    congr 1
    rw [List.getElem?_eq_getElem hk] at h; injection h
  rw [half, half, hd, List.set_append, if_neg (by omega), hl, Nat.sub_self, List.set_cons_zero, List.take_add_one, h]
  simp
def pf (s t p : Int) (x : Pg) : Pg := if s ≤ x.no * 4096 ∧ x.no * 4096 < t then ⟨x.no, p, x.b⟩ else x
theorem protP_eq (P : List Pg) (s t p : Int) : protP P s t p = P.map (pf s t p) := rfl
theorem set_same (L : List Pg) (k : Nat) (x : Pg) (h : L[k]? = some x) : L.set k x = L := by
  apply List.ext_getElem?
  intro j
  rw [List.getElem?_set]
  split
  · rename_i hj
    subst hj
    rw [h]
    simp [(List.getElem?_eq_some_iff.1 h).1]
  · rfl
set_option maxHeartbeats 4000000 in
theorem rprotect_hole {w : World} {sb : Nat} {P : List Pg} (h : SpaceAt w sb P) (hp : Pgs 100 P) (s t p : Int) (h0 : 0 ≤ s) (hs : Span s t) (hp0 : 0 ≤ p) (hp1 : p ≤ 7) (hm : ¬ ∀ y, s ≤ y → y < t → ∃ q, OnP P y q) :
    Calls Try.prog 19 #[addr0 sb, .int .u64 s, .int .u64 (t - s), .int .i64 p] w (NoPost w 12) := by
  have cw := fun W => whole_any s t W h0 hs
  have co := fun W (k : Bl w W) => without_any (h.bl k) hp (by omega) s t
  obtain ⟨s1, s2, s3, s4⟩ := hs
  obtain ⟨hcnt, hle⟩ := count_span (P := P) hp s1 s2 s3
  have CW := Lib.hid cw; clear cw
  have CO := Lib.hid co; clear co
  have HM := Lib.hid hm; clear hm
  have HC := Lib.hid hcnt; clear hcnt
  have HS1 := Lib.hid s1; clear s1
  have HS2 := Lib.hid s2; clear s2
  have hlen := hp.len
  obtain ⟨AS, capS, e0, _, hpr⟩ := h.cells
  have HP := Lib.hid hp; clear hp
  have HPR := Lib.hid hpr; clear hpr
  obtain ⟨d, hd⟩ : ∃ d, d = t - s := ⟨_, rfl⟩
  rw [← hd] at CW ⊢
  have hd4 : (t - s) / 4096 = d / 4096 := by rw [hd]
  have HD4 := Lib.hid hd4; clear hd4
  have hts : s ≤ t := by omega
  have hd0 : 0 ≤ (t - s) / 4096 := by omega
  have HD := Lib.hid hd; clear hd
  have hlenI : (P.length : Int) ≤ 100 := by omega
  obtain ⟨n, hn⟩ : ∃ n, n = P.length := ⟨_, rfl⟩
  rw [← hn] at hlenI e0 HPR HC hle hlen
  have HN := Lib.hid hn; clear hn
  obtain ⟨R, hR⟩ : ∃ R, R = outP P s t := ⟨_, rfl⟩
  simp only [← hR] at HC CO hle
  obtain ⟨m, hmm⟩ : ∃ m, m = R.length := ⟨_, rfl⟩
  simp only [← hmm] at HC hle
  clear hR
  have hmI : (m : Int) ≤ (n : Int) := by omega
  have HMM := Lib.hid hmm; clear hmm
  have k0 : Bl w w.drew := (Bl.refl w).drew
  have HS0 : Hid (w.drew.cell? ⟨sb, 0, none⟩ = some (.slice AS n capS) ∧ Bl w w.drew) := Lib.hid ⟨e0, k0⟩
  have HE0 := Lib.hid e0; clear e0 k0
  have HH := Lib.hid h; clear h
  have hwb : IntKind.u64.wrap (IntKind.i64.wrap ((n : Int) - (m : Int))) = (n : Int) - (m : Int) ∧ IntKind.u64.wrap ((IntKind.u64.wrap (t - s)).tdiv 4096) = (t - s) / 4096 := by
    rw [IntWalk.i64_in _ (by omega), IntWalk.u64_in _ (by omega), IntWalk.u64_in (t - s) (by omega), Int.tdiv_eq_ediv_of_nonneg (by omega), IntWalk.u64_in _ (by omega)]
    exact ⟨rfl, rfl⟩
  have tb : (IntKind.u64.wrap (IntKind.i64.wrap ((n : Int) - (m : Int))) != IntKind.u64.wrap ((IntKind.u64.wrap (t - s)).tdiv 4096)) = true := by
    rw [hwb.1, hwb.2]
    simp only [bne_iff_ne, ne_eq]
    exact fun e => HM.out (HC.out.1 e)
  have HSX := Lib.hid s4; clear s4 hwb
  unfold addr0 at *
  go_enter Try.func19, Try.ntmps19
  go_wp2_with fail
  refine (CW.out _).mono ?_
  rintro e w' ⟨rfl, rfl⟩
  go_wp2_with fail
  go_region_held3 (fun w' => w'.cell? ⟨sb, 0, none⟩ = some (.slice AS n capS) ∧ Bl w w') (first | assumption | exact HS0.out | exact ⟨HE0.out, Bl.refl _⟩) ((go_at_call 38; refine (CO.out _ (by first | assumption | exact HS0.out.2 | (rename_i hh; exact hh.2))).mono ?_; rintro e w9 ⟨v9, rfl, r9, k9⟩; obtain ⟨A9, cap9, hv9⟩ := r9.shape; rw [← HMM.out] at hv9; subst hv9; clear r9; have hkk : w9.cell? ⟨sb, 0, none⟩ = some (.slice AS n capS) ∧ Bl w w9 := ⟨k9.cell' (by first | assumption | exact HE0.out), (by first | exact HS0.out.2.trans k9 | exact (Bl.refl _).trans k9)⟩))
  all_goals go_wp2_with fail
  all_goals go_ret
  all_goals exact ⟨rfl, hkk.2⟩
set_option maxHeartbeats 4000000 in
theorem rprotect_ok {w : World} {sb : Nat} {P : List Pg} (h : SpaceAt w sb P) (hp : Pgs 100 P) (s t p : Int) (h0 : 0 ≤ s) (hs : Span s t) (hp0 : 0 ≤ p) (hp1 : p ≤ 7) (hm : ∀ y, s ≤ y → y < t → ∃ q, OnP P y q) :
    Calls Try.prog 19 #[addr0 sb, .int .u64 s, .int .u64 (t - s), .int .i64 p] w (SetPost w sb P s t p) := by
  have cw := fun W => whole_any s t W h0 hs
  have co := fun W (k : Bl w W) => without_any (h.bl k) hp (by omega) s t
  obtain ⟨s1, s2, s3, s4⟩ := hs
  obtain ⟨hcnt, hle⟩ := count_span (P := P) hp s1 s2 s3
  have CW := Lib.hid cw; clear cw
  have CO := Lib.hid co; clear co
  have HM := Lib.hid hm; clear hm
  have HC := Lib.hid hcnt; clear hcnt
  have HS1 := Lib.hid s1; clear s1
  have HS2 := Lib.hid s2; clear s2
  have hlen := hp.len
  obtain ⟨AS, capS, e0, _, hpr⟩ := h.cells
  have HP := Lib.hid hp; clear hp
  have HPR := Lib.hid hpr; clear hpr
  obtain ⟨d, hd⟩ : ∃ d, d = t - s := ⟨_, rfl⟩
  rw [← hd] at CW ⊢
  have hd4 : (t - s) / 4096 = d / 4096 := by rw [hd]
  have HD4 := Lib.hid hd4; clear hd4
  have hts : s ≤ t := by omega
  have hd0 : 0 ≤ (t - s) / 4096 := by omega
  have HD := Lib.hid hd; clear hd
  have hlenI : (P.length : Int) ≤ 100 := by omega
  obtain ⟨n, hn⟩ : ∃ n, n = P.length := ⟨_, rfl⟩
  rw [← hn] at hlenI e0 HPR HC hle hlen
  have HN := Lib.hid hn; clear hn
  obtain ⟨R, hR⟩ : ∃ R, R = outP P s t := ⟨_, rfl⟩
  simp only [← hR] at HC CO hle
  obtain ⟨m, hmm⟩ : ∃ m, m = R.length := ⟨_, rfl⟩
  simp only [← hmm] at HC hle
  clear hR
  have hmI : (m : Int) ≤ (n : Int) := by omega
  have HMM := Lib.hid hmm; clear hmm
  have k0 : Bl w w.drew := (Bl.refl w).drew
  have HS0 : Hid (w.drew.cell? ⟨sb, 0, none⟩ = some (.slice AS n capS) ∧ Bl w w.drew) := Lib.hid ⟨e0, k0⟩
  have HE0 := Lib.hid e0; clear e0 k0
  have HH := Lib.hid h; clear h
  have hwb : IntKind.u64.wrap (IntKind.i64.wrap ((n : Int) - (m : Int))) = (n : Int) - (m : Int) ∧ IntKind.u64.wrap ((IntKind.u64.wrap (t - s)).tdiv 4096) = (t - s) / 4096 := by
    rw [IntWalk.i64_in _ (by omega), IntWalk.u64_in _ (by omega), IntWalk.u64_in (t - s) (by omega), Int.tdiv_eq_ediv_of_nonneg (by omega), IntWalk.u64_in _ (by omega)]
    exact ⟨rfl, rfl⟩
  have tb : (IntKind.u64.wrap (IntKind.i64.wrap ((n : Int) - (m : Int))) != IntKind.u64.wrap ((IntKind.u64.wrap (t - s)).tdiv 4096)) = false := by
    rw [hwb.1, hwb.2]
    simp only [bne_eq_false_iff_eq]
    exact HC.out.2 HM.out
  have HSX := Lib.hid s4; clear s4 hwb
  unfold addr0 at *
  go_enter Try.func19, Try.ntmps19
  go_wp2_with fail
  refine (CW.out _).mono ?_
  rintro e w' ⟨rfl, rfl⟩
  go_wp2_with fail
  go_region_held3 (fun w' => w'.cell? ⟨sb, 0, none⟩ = some (.slice AS n capS) ∧ Bl w w') (first | assumption | exact HS0.out | exact ⟨HE0.out, Bl.refl _⟩) ((go_at_call 38; refine (CO.out _ (by first | assumption | exact HS0.out.2 | (rename_i hh; exact hh.2))).mono ?_; rintro e w9 ⟨v9, rfl, r9, k9⟩; obtain ⟨A9, cap9, hv9⟩ := r9.shape; rw [← HMM.out] at hv9; subst hv9; clear r9; have hkk : w9.cell? ⟨sb, 0, none⟩ = some (.slice AS n capS) ∧ Bl w w9 := ⟨k9.cell' (by first | assumption | exact HE0.out), (by first | exact HS0.out.2.trans k9 | exact (Bl.refl _).trans k9)⟩))
  go_upto_region 6 with (fail)
  clear tb
  obtain ⟨hk1, hk2⟩ := hkk
  have K9 := Lib.hid hk2; clear hk2
  have hPne : P ≠ [] := by
    obtain ⟨q, x, hx, _⟩ := HM.out s (by omega) (by omega)
    intro e; rw [e] at hx; cases hx
  have hpr9 := HPR.out.bl K9.out
  obtain ⟨g, capx, cur, hA, _, hnc, hg, _⟩ := hpr9.form hPne
  have hA' : AS = some ⟨g, 0, none⟩ := by injection hA
  subst hA'
  clear hA hnc hg
  obtain ⟨i0, hi0, hz0, hz1, hz2⟩ := info_parts info70
  have hown : (w9.alloc (.cells #[] 70)).ownsRow w9.heap.size 70 3 (.slice (some ⟨w9.heap.size, 0, none⟩) 0 0) 0 [] := World.ownsRow_made w9 #[] 0 (Nat.le_refl _) (by decide) rfl
  have hrow2 := hpr9.bl (Bl.new w9 (.cells #[] 70))
  have hrow3 := hrow2.1
  rw [← HN.out] at hrow3
  obtain ⟨v', W', hrun, h2, h3, h4, h5⟩ := run_append_own_at (P := Try.prog) (w9.alloc (.cells #[] 70)) w9.heap.size 41 41 70 i0 _ 3 40 Try.underlying41 hi0 hz0 hz1 hz2 rfl (by omega) _ 0 [] hown ⟨g, 0, none⟩ n capS (flat pgC P) (by rw [flat_length pgC_len, HN.out]) (fun j u hj => by
    have e1 : (⟨g, 0, none⟩ : Addr).add j = ⟨g, j, none⟩ := by unfold Addr.add; split <;> simp_all
    have hj2 : j < n * 3 := by rw [HN.out, ← flat_length pgC_len P]; exact (List.getElem?_eq_some_iff.1 hj).1
    rw [e1, hrow3.cellAt j hj2]; exact hj) (fun u hu => by
      simp only [flat, List.mem_flatMap] at hu
      obtain ⟨x, _, hx⟩ := hu
      exact pgC_one x u hx) (by simp only [maxLen]; omega) (by omega) (by simp)
  have hrowW : PRow W' w9.heap.size v' P := ⟨by rw [← HN.out]; simpa using h2, fun e => absurd e hPne⟩
  have hblW : Bl w9 W' := Below.grown (Bl.new w9 _) h3 (by simp) (fun k hk => by simp [Value.ownBlock] at hk; omega)
  obtain ⟨g2, cap2, cur2, hv2, hbg2, _, _, _⟩ := hrowW.form hPne
  rw [← HN.out] at hv2
  subst hv2
  have HROWW := Lib.hid hrowW; clear hrowW
  have HBLW := Lib.hid hblW; clear hblW h2 h3 h4 h5 hown hrow2 hrow3 hpr9 hi0 hz0 hz1 hz2
  have HRUN := Lib.hid hrun; clear hrun
  have HNE := Lib.hid hPne; clear hPne
  have hk1' := (Bl.new w9 (.cells #[] 70)).cell' hk1
  have hsl9 := block_lt_of_cell hk1
  go_upto_region 7 with (first | (at_builtin; refine wpl_append_run rfl (.tmp 46) (.tmp 50) 41 rfl _ _ _ rfl rfl HRUN.out ?_))
  clear hk1 hk1' hsl9
  go_wp2_with fail
  go_loopw [12] (fun i wr => ∃ k : Nat, k ≤ n ∧ i = .int .i64 k ∧ PRow wr w9.heap.size (.slice (some ⟨g2, 0, none⟩) n cap2) (half (pf s t p) P k) ∧ Bl w9 wr) (fun i _ => n - (intOf i).toNat)
  case atStart => exact ⟨0, by omega, rfl, by rw [half_zero]; exact HROWW.out, HBLW.out⟩
  case round =>
    obtain ⟨k, hk, rfl, hrow, hbl⟩ := hrel
    have HROW := Lib.hid hrow; clear hrow
    have HBL := Lib.hid hbl; clear hbl
    have hkI : (k : Int) ≤ (n : Int) := by omega
    by_cases hlt : k < n
    · have hltL : k < P.length := by have := HN.out; omega
      obtain ⟨x, hx⟩ : ∃ x, P[k]? = some x := ⟨P[k], List.getElem?_eq_getElem hltL⟩
      have hhx := half_get (pf s t p) P k x hx
      have hnx := half_next (pf s t p) P k x hx
      obtain ⟨c0, c1, c2⟩ := prow_cells HROW.out k x hhx
      obtain ⟨x1, x2⟩ := HP.out.2 x (List.mem_of_getElem? hx)
      have x3 : x.no < 100 := x2
      have hltI : (k : Int) < (n : Int) := by omega
      have f1 := HROW.out.free (k * 3 + 1)
      clear x2 hltL hx
      by_cases ha : s ≤ x.no * 4096
      · by_cases hb : x.no * 4096 < t
        · have hst := prow_set HROW.out k x p hhx
          have hpf : pf s t p x = ⟨x.no, p, x.b⟩ := if_pos ⟨ha, hb⟩
          rw [hpf] at hnx
          rw [← hnx] at hst
          have HST := Lib.hid hst; clear hst hnx hhx hpf
          go_wp2_with fail
          refine ⟨⟨k + 1, by omega, by go_num, HST.out, HBL.out.set hbg2 _⟩, ?_⟩
          simp only [intOf]; omega
        · have hb' : t ≤ x.no * 4096 := by omega
          have hpf : pf s t p x = x := if_neg (fun h => hb h.2)
          rw [hpf, set_same _ _ _ hhx] at hnx
          have HNX := Lib.hid hnx; clear hnx hhx hpf
          go_wp2_with fail
          refine ⟨⟨k + 1, by omega, by go_num, by rw [HNX.out]; exact HROW.out, HBL.out⟩, ?_⟩
          simp only [intOf]; omega
      · have ha' : x.no * 4096 < s := by omega
        have hpf : pf s t p x = x := if_neg (fun h => ha h.1)
        rw [hpf, set_same _ _ _ hhx] at hnx
        have HNX := Lib.hid hnx; clear hnx hhx hpf
        go_wp2_with fail
        refine ⟨⟨k + 1, by omega, by go_num, by rw [HNX.out]; exact HROW.out, HBL.out⟩, ?_⟩
        simp only [intOf]; omega
    · have hge : (n : Int) ≤ (k : Int) := by omega
      have hfin := HROW.out
      rw [show k = P.length by have := HN.out; omega, half_all, ← protP_eq] at hfin
      obtain ⟨Q, hQ⟩ : ∃ Q, Q = protP P s t p := ⟨_, rfl⟩
      have hqp := protP_pgs (s := s) (e := t) (p := p) HP.out
      have hqo := fun a q => protP_on (P := P) (p := p) (a := a) (q := q) HS1.out HS2.out HM.out
      simp only [← hQ] at hfin hqp hqo
      clear hQ
      have HF := Lib.hid hfin; clear hfin
      have HQP := Lib.hid hqp; clear hqp
      have HQO := Lib.hid hqo; clear hqo
      have hrl := regs_len HQP.out
      obtain ⟨rl, hrl2⟩ : ∃ rl, rl = (regs Q).length := ⟨_, rfl⟩
      rw [← hrl2] at hrl
      have hrlI : (rl : Int) ≤ 100 := by omega
      have HRL := Lib.hid hrl2; clear hrl2 hrl
      go_wp2_with fail
      refine (regions_any HF.out HQP.out (by omega)).mono ?_
      rintro e w5 ⟨v5, rfl, r5, k5⟩
      obtain ⟨A5, cap5, hv5⟩ := r5.shape
      rw [← HRL.out] at hv5
      subst hv5
      have HBL5 := Lib.hid ((K9.out.trans HBL.out).trans k5)
      have HF5 := Lib.hid (HF.out.bl k5); clear k5 r5
      obtain ⟨AS2, capS2, e0, e1, _⟩ := (HH.out.bl HBL5.out).cells
      have f0 : w5.frozen? ⟨sb, 0, none⟩ = false := by
        obtain ⟨vz, hz, _⟩ := HH.out.bl HBL5.out
        simp [World.frozen?, hz]
      go_wp2_with fail
      go_ret
      exact ⟨rfl, Q, (HH.out.bl HBL5.out).set HF5.out, HQP.out, HQO.out, (Fr.of_bl HBL5.out).trans (Fr.set (by exact rfl) _)⟩
end Go.Proofs.Ytilahffbfephbaa
