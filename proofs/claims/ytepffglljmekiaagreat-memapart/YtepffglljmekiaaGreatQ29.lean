/-
  Put of a space: bytes are laid, whatever may be done there, but for what is not mapped.
  Unmap and Protect that would make too many regions.
-/
import Derived.Test.YtepffglljmekiaaGreatQ28
import Derived.Test.YtepffglljmekiaaGreatQ11
set_option linter.unusedVariables false
set_option linter.unusedSimpArgs false
namespace Go.Proofs.YtepffglljmekiaaGreat
open Go.RowKit
set_option maxRecDepth 100000
theorem rest_any (a : Int) (w : World) (h0 : 0 ≤ a) : Calls Tryz.prog 60 #[.int .u64 a] w fun e w' => e = .returned (.int .i64 (4096 - a % 4096)) ∧ w = w' := by
  go_enter Tryz.func60, Tryz.ntmps60
  go_wp2
  go_ret
  exact ⟨rfl, rfl⟩
/-- A place of a region: all of its page is mapped. -/
theorem page_in {L : List Rg} (h : Rs L) {r : Rg} (hr : r ∈ L) {a d : Nat} (h1 : r.s ≤ a) (h2 : (a : Int) < r.e) (hd : d ≤ 4096 - a % 4096) : (a : Int) + d ≤ r.e := by
  have := h.al r hr
  have := h.nm.so.2 r hr
  omega
/-- Where a Put stands: t bytes are done. -/
structure PR (T : Nat → Prop) (w : World) (sb n0 : Nat) (L : List Rg) (P : Nat → (Nat → Int) → (Nat → Int) → Prop) (mo ba en : Int) (xs : List Int) (t : Nat) (wr : World) (A : Option Addr) (cap : Nat) : Prop where
  le : t ≤ xs.length
  cap_ : xs.length - t ≤ cap
  rd : Rd wr A (xs.drop t)
  out : t < xs.length → ∀ ad, A = some ad → ¬ T ad.block
  ms : ∃ M st, MS T wr sb (n0 + 6 * t) L M st mo ba en ∧ P t M st
  fr : Fr T w wr
/-- What holds while bytes are laid, page by page. -/
def PutStep (L : List Rg) (a : Nat) (xs : List Int) (P : Nat → (Nat → Int) → (Nat → Int) → Prop) : Prop := ∀ t M st (c d : Nat), P t M st → t < xs.length → c = (a + t) % 18446744073709551616 → d = min (xs.length - t) (4096 - c % 4096) →
  ((∃ q, In L c q) → ∀ st', Rise st st' (fun p => ∃ x, c ≤ x ∧ x < c + d ∧ p = x / 4096) → P (t + d) (lay M c ((xs.drop t).take d)) st') ∧ ((∀ q, ¬ In L c q) → P (t + d) M st)
theorem getD_drop_take {xs : List Int} (h : ∀ k, 0 ≤ xs.getD k 0 ∧ xs.getD k 0 ≤ 255) (t d : Nat) : ∀ k, 0 ≤ ((xs.drop t).take d).getD k 0 ∧ ((xs.drop t).take d).getD k 0 ≤ 255 := fun k => by
  rw [List.getD_eq_getElem?_getD, List.getElem?_take]
  split
  · rw [List.getElem?_drop]
    have := h (t + k)
    rwa [List.getD_eq_getElem?_getD] at this
  · simp
theorem PR.step {T : Nat → Prop} {w : World} {sb n0 : Nat} {L : List Rg} {P : Nat → (Nat → Int) → (Nat → Int) → Prop} {mo ba en : Int} {xs : List Int} {t d : Nat} {wr w3 : World} {B : Option Addr} {cp : Nat} (h : PR T w sb n0 L P mo ba en xs t wr B cp) (hd : d ≤ xs.length - t) (hd0 : 0 < d) {M st : Nat → Int} (hm : MS T w3 sb (n0 + 6 * (t + d)) L M st mo ba en) (hp : P (t + d) M st) (fr : Fr T wr w3) :
    PR T w sb n0 L P mo ba en xs (t + d) w3 (if cp = d then B else B.map (·.add d)) (cp - d) := by
  have hcap := h.cap_
  have hle := h.le
  refine ⟨by omega, by omega, ?_, ?_, ⟨M, st, hm, hp⟩, h.fr.trans fr⟩
  · have h1 := (h.rd.fr fr (fun h0 => h.out (by omega))).drop d cp (by rw [List.length_drop]; omega) (by rw [List.length_drop]; omega)
    rw [List.drop_drop] at h1
    exact h1
  · intro _ ad had
    split at had
    · exact h.out (by omega) ad had
    · rcases B with _ | a0
      · cases had
      · simp only [Option.map_some, Option.some.injEq] at had
        subst had
        rw [add_block]
        exact h.out (by omega) a0 rfl
theorem mod_step (a t c d : Nat) (h : c = (a + t) % 18446744073709551616) : IntKind.u64.wrap ((c : Int) + (d : Int)) = (((a + (t + d)) % 18446744073709551616 : Nat) : Int) := by
  rw [IntKind.wrap_u64]; omega
set_option maxHeartbeats 4000000 in
theorem mput_any {T : Nat → Prop} {w : World} {sb n0 : Nat} {L : List Rg} {M st : Nat → Int} {mo ba en : Int} (h : MS T w sb n0 L M st mo ba en) (a : Nat) (A : Option Addr) (len cap : Nat) (xs : List Int) (hr : Rd w A xs) (hl : xs.length = len) (hlc : len ≤ cap) (hb : ∀ k, 0 ≤ xs.getD k 0 ∧ xs.getD k 0 ≤ 255)
    (hA : 0 < len → ∀ ad, A = some ad → ¬ T ad.block) (ha : a < 2 ^ 64) (hlen : len ≤ 100000) (hn : n0 < 10000000) (hT : ∀ b, w.heap.size ≤ b → T b) (P : Nat → (Nat → Int) → (Nat → Int) → Prop) (hP0 : P 0 M st) (hP : PutStep L a xs P) :
    Calls Tryz.prog 22 #[addr0 sb, .int .u64 (a : Int), .slice A len cap] w fun e w' => e = .returned (.tuple #[]) ∧ ∃ M' st', MS T w' sb (n0 + 6 * len) L M' st' mo ba en ∧ P len M' st' ∧ Fr T w w' := by
  have hpr : PR T w sb n0 L P mo ba en xs 0 w A cap := ⟨Nat.zero_le _, by omega, hr, fun h0 => hA (by omega), ⟨M, st, h, hP0⟩, Fr.refl _ _⟩
  have HPR := Lib.hid hpr; clear hpr h hr hA hP0
  have HL := Lib.hid hl; clear hl
  have HB := Lib.hid hb; clear hb
  have HT := Lib.hid hT; clear hT
  have HP := Lib.hid hP; clear hP
  have hlI : (len : Int) ≤ 100000 := by omega
  unfold addr0
  go_enter Tryz.func22, Tryz.ntmps22
  go_wp2_with fail
  go_loopw [1, 2, 6, 7, 8] (fun v1 v2 _ _ _ wr => ∃ (t cp : Nat) (B : Option Addr), v1 = .int .u64 (((a + t) % 18446744073709551616 : Nat) : Int) ∧ v2 = .slice B (len - t) cp ∧ PR T w sb n0 L P mo ba en xs t wr B cp) (fun _ v2 _ _ _ _ => lenV v2)
  case atStart => exact ⟨0, cap, A, by congr 2; omega, rfl, HPR.out⟩
  case round =>
    obtain ⟨t, cp, B, rfl, rfl, hpr⟩ := hrel
    clear HPR
    have htl := hpr.le
    rw [HL.out] at htl
    by_cases hlt : t < len
    · obtain ⟨c, hc⟩ : ∃ c, c = (a + t) % 18446744073709551616 := ⟨_, rfl⟩
      rw [← hc]
      obtain ⟨d, hd⟩ : ∃ d, d = min (len - t) (4096 - c % 4096) := ⟨_, rfl⟩
      have hd0 : 0 < d := by omega
      have hd1 : d ≤ len - t := by omega
      have hd2 : d ≤ 4096 - c % 4096 := by omega
      have hc0 : (c : Int) ≤ 18446744073709551615 := by omega
      have hcp := hpr.cap_
      rw [HL.out] at hcp
      have hmn : ∀ W', (Builtin.min_ #[3, 3] 3 #[.int .i64 ((len - t : Nat) : Int), .int .i64 (4096 - (c : Int) % 4096)]).run Tryz.prog W' = .ok (.int .i64 (d : Int)) W' := by
        intro W'
        rw [min_run]
        congr 2
        split <;> omega
      obtain ⟨M1, st1, hms, hp1⟩ := hpr.ms
      have hstep := HP.out t M1 st1 c d hp1 (by rw [HL.out]; exact hlt) hc (by rw [HL.out]; exact hd)
      obtain ⟨X, hX⟩ := hms.list
      have cat := at_any hX hms.so (c : Int) (by have := hms.few; omega)
      have CAT := Lib.hid cat; clear cat hX
      have CR := Lib.hid (fun W => rest_any (c : Int) W (by omega))
      have HPRR := Lib.hid hpr; clear hpr
      have HMS := Lib.hid hms; clear hms
      have HST := Lib.hid hstep; clear hstep hp1
      have HC := Lib.hid hc; clear hc
      have HD := Lib.hid hd; clear hd
      have hrlI : (0 : Int) < ((len - t : Nat) : Int) := by omega
      have hd0I : (0 : Int) < (d : Int) := by omega
      have hdI : (d : Int) ≤ ((len - t : Nat) : Int) := by omega
      have hdcI : (d : Int) ≤ (cp : Int) := by omega
      unfold addr0 at *
      go_wp2_with fail
      refine (CR.out _).mono ?_
      rintro e w' ⟨rfl, rfl⟩
      go_wp2_with fail
      refine CAT.out.mono ?_
      rintro e w1 ⟨r, ok, rfl, hok, k1⟩
      clear CAT CR hmn
      have K1 := Lib.hid (k1.alloc (.cells #[.int .u64 r.s, .int .u64 r.e, .int .i64 r.p] 79))
      unfold rgV
      rcases hok with ⟨rfl, m1, m2, m3⟩ | ⟨rfl, rfl, m1⟩
      · have hin : ∃ q, In L c q := ⟨r.p, r, m1, m2, m3, rfl⟩
        have htop := page_in HMS.out.rs m1 m2 m3 hd2
        have hto2 := HMS.out.so.2 r m1
        have HIN := Lib.hid hin
        have HTOP : Hid (c + d ≤ 274877906944) := Lib.hid (by omega)
        clear m1 m2 m3 hin htop hto2 k1
        obtain ⟨rs_, re_, rp_⟩ := r
        simp only at K1 ⊢
        have hs2 := slice29to B (len - t) cp d (by omega)
        go_wp2_with fail
        generalize w1.alloc (.cells #[.int .u64 rs_, .int .u64 re_, .int .i64 rp_] 79) = W at *
        go_region_with (go_at_call 63; have hmW := HMS.out.bl K1.out; refine (mwrite_any (hmW.bl (Bl.refl W).drew) c B d cp ((xs.drop t).take d) ((HPRR.out.rd.fr (Fr.of_bl (S := T) K1.out.drew) (fun _ => HPRR.out.out (by rw [HL.out]; exact hlt))).take d) (by rw [List.length_take, List.length_drop, HL.out]; omega) (by omega) (getD_drop_take HB.out t d) (fun _ => HPRR.out.out (by rw [HL.out]; exact hlt)) HTOP.out (by omega) (by omega) (fun b hb => HT.out b (Nat.le_trans HPRR.out.fr.size (Nat.le_trans K1.out.size hb)))).mono ?_; rintro e w3 ⟨rfl, st3, m3, r3, f3⟩)
        all_goals (
          have hpg : pagesOf c d ≤ 2 * d := by unfold pagesOf; split <;> omega
          have hpr2 := HPRR.out.step (by rw [HL.out]; exact hd1) hd0 (m3.mono (by omega)) (HST.out.1 HIN.out st3 r3) ((Fr.of_bl (K1.out.drew)).trans f3)
          have HPR2 := Lib.hid hpr2
          clear hpr2 m3 r3 f3 hs2 hpg HMS HST K1 HPRR
          go_wp2_with fail
          refine ⟨⟨t + d, cp - d, _, by rw [mod_step a t c d HC.out], by congr 1; omega, HPR2.out⟩, by simp only [lenV]; omega⟩)
      · have HNO := Lib.hid m1; clear m1 k1
        simp only at K1 ⊢
        have hpr2 := HPRR.out.step (by rw [HL.out]; exact hd1) hd0 ((HMS.out.bl K1.out).mono (by omega)) (HST.out.2 HNO.out) (Fr.of_bl K1.out)
        have HPR2 := Lib.hid hpr2
        clear hpr2 HMS HST HPRR
        go_wp2_with fail
        refine ⟨⟨t + d, cp - d, _, by rw [mod_step a t c d HC.out], by congr 1; omega, HPR2.out⟩, by simp only [lenV]; omega⟩
    · obtain rfl : t = len := by omega
      rw [show t - t = 0 by omega]
      have HPRR := Lib.hid hpr; clear hpr hlt
      go_wp2_with fail
      go_end0
      obtain ⟨M1, st1, m1, p1⟩ := HPRR.out.ms
      exact ⟨rfl, M1, st1, m1, p1, HPRR.out.fr⟩
end Go.Proofs.YtepffglljmekiaaGreat

set_option linter.unusedVariables false
set_option linter.unusedSimpArgs false
namespace Go.Proofs.YtepffglljmekiaaGreat
open Go.RowKit
set_option maxRecDepth 100000
set_option maxHeartbeats 1000000 in
theorem unmap_many {X : Ctx} {w : World} {b : Nat} {L : List Rg} (h : ListAt X w b L) (s e : Int) (h0 : 0 ≤ s) (hs : Span s e) (hl : L.length ≤ 256) (hc : 256 < (layL L s e []).length) :
    Calls Tryz.prog 67 #[addr0 b, .int .u64 s, .int .u64 e] w (NoPost w 12) := by
  have c1 := fun W => isSpan_yes s e W h0 hs
  have c3 := lay_many h s e (M := []) (RowG.nil (base := 0)) hl (by simp) hc
  have C1 := Lib.hid c1; clear c1
  have C3 := Lib.hid c3; clear c3 h hs hl hc
  unfold addr0 at *
  go_enter Tryz.func67, Tryz.ntmps67
  go_wp2_with fail
  refine (C1.out _).mono ?_
  rintro e w' ⟨rfl, rfl⟩
  go_wp2_with fail
  refine C3.out.mono ?_
  rintro e w' ⟨rfl, h1⟩
  have H1 := Lib.hid h1; clear h1
  go_wp2_with fail
  go_ret
  exact ⟨rfl, H1.out⟩
set_option maxHeartbeats 1000000 in
theorem protect_many {X : Ctx} {w : World} {b : Nat} {L : List Rg} (h : ListAt X w b L) (hso : So 0 274877906944 L) (s t p : Int) (h0 : 0 ≤ s) (hs : Span s t) (hp0 : 0 ≤ p) (hp1 : p ≤ 7) (hl : L.length ≤ 256) (hm : Mapped L s t) (hc : 256 < (layL L s t [⟨s, t, p⟩]).length) :
    Calls Tryz.prog 69 #[addr0 b, .int .u64 s, .int .u64 t, .int .i64 p] w (NoPost w 12) := by
  have c1 := fun W => isSpan_yes s t W h0 hs
  have c2 := fun W => isProt_yes p W hp0 hp1
  have cf := fun W (k : Bl w W) => first_any (h.bl k) hso s t 0 (by omega)
  have C1 := Lib.hid c1; clear c1
  have C2 := Lib.hid c2; clear c2
  have CF := Lib.hid cf; clear cf
  have HH := Lib.hid h; clear h
  have HSO := Lib.hid hso; clear hso hs
  have HL := Lib.hid hl; clear hl
  have HM := Lib.hid hm; clear hm
  have HC := Lib.hid hc; clear hc
  unfold addr0 at *
  go_enter Tryz.func69, Tryz.ntmps69
  go_wp2_with fail
  refine (C1.out _).mono ?_
  rintro e w' ⟨rfl, rfl⟩
  go_wp2_with fail
  refine (C2.out _).mono ?_
  rintro e w' ⟨rfl, rfl⟩
  go_wp2_with fail
  refine (CF.out _ (Bl.refl _)).mono ?_
  rintro e w1 ⟨x, ok, rfl, hok, k1⟩
  have K1 := Lib.hid k1; clear k1
  rcases hok with ⟨rfl, a1, a2, a3, a4⟩ | ⟨rfl, rfl, a1⟩
  · exact absurd (can_zero.2 (HM.out x a1 a2)) a3
  clear a1
  go_wp2_with fail
  refine (lay_many ((HH.out.bl K1.out).bl (Bl.new w1 (.cells #[.int .u64 s, .int .u64 t, .int .i64 p] 79))) s t (lit_row w1 ⟨s, t, p⟩) HL.out (by simp) HC.out).mono ?_
  rintro e w' ⟨rfl, h1⟩
  have H1 := Lib.hid h1; clear h1
  go_wp2_with fail
  go_ret
  exact ⟨rfl, (K1.out.alloc _).trans H1.out⟩
end Go.Proofs.YtepffglljmekiaaGreat
