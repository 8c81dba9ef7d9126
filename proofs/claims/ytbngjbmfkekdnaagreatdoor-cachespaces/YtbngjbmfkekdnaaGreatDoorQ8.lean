/-
  Put of a space: bytes are laid, whatever may be done there, but for what is not mapped.
  Unmap and Protect that would make too many regions.
  Peek, Protect, Unmap, Check, Out of a space.
  The heap of a space: SetBrk, resize, Brk.
  Stamp of a store and of a space; Regions; a Check that only asks; In; Fetch; faults of a width that is none.
  Faults, loads, stores and fetches of any width.
  Store of any width; Fetch; which prot a place has.
-/
import Derived.Test.YtbngjbmfkekdnaaGreatDoorQ7
import Derived.Test.YtbngjbmfkekdnaaGreatDoorQ3
set_option linter.unusedVariables false
set_option linter.unusedSimpArgs false
namespace Go.Proofs.YtbngjbmfkekdnaaGreatDoor
open Go.RowKit
set_option maxRecDepth 100000
theorem rest_any (a : Int) (w : World) (h0 : 0 ≤ a) : Calls Tryz.prog 31 #[.int .u64 a] w fun e w' => e = .returned (.int .i64 (4096 - a % 4096)) ∧ w = w' := by
  go_enter Tryz.func31, Tryz.ntmps31
  go_wp2
  go_ret
  exact ⟨rfl, rfl⟩
/-- A place of a region: all of its page is mapped. -/
theorem page_in {L : List Rg} (h : Rs L) {r : Rg} (hr : r ∈ L) {a d : Nat} (h1 : r.s ≤ a) (h2 : (a : Int) < r.e) (hd : d ≤ 4096 - a % 4096) : (a : Int) + d ≤ r.e := by
  have := h.al r hr
  have := h.nm.so.2 r hr
  omega
/-- Where a Put stands: t bytes are done. -/
structure PR (T : Nat → Prop) (w : World) (sb n0 : Nat) (L : List Rg) (P : Nat → (Nat → Int) → (Nat → Int) → Prop) (mo ba en : Int) (xs : List Int) (t : Nat) (wr : World) (A : Option Addr) (cap : Nat) : Prop where
  le : t ≤ xs.length
  cap_ : xs.length - t ≤ cap
  rd : Rd wr A (xs.drop t)
  out : t < xs.length → ∀ ad, A = some ad → ¬ T ad.block
  ms : ∃ M st, MS T wr sb (n0 + 6 * t) L M st mo ba en ∧ P t M st
  fr : Fr T w wr
/-- What holds while bytes are laid, page by page. -/
def PutStep (L : List Rg) (a : Nat) (xs : List Int) (P : Nat → (Nat → Int) → (Nat → Int) → Prop) : Prop := ∀ t M st (c d : Nat), P t M st → t < xs.length → c = (a + t) % 18446744073709551616 → d = min (xs.length - t) (4096 - c % 4096) →
  ((∃ q, In L c q) → ∀ st', Rise st st' (fun p => ∃ x, c ≤ x ∧ x < c + d ∧ p = x / 4096) → P (t + d) (lay M c ((xs.drop t).take d)) st') ∧ ((∀ q, ¬ In L c q) → P (t + d) M st)
theorem getD_drop_take {xs : List Int} (h : ∀ k, 0 ≤ xs.getD k 0 ∧ xs.getD k 0 ≤ 255) (t d : Nat) : ∀ k, 0 ≤ ((xs.drop t).take d).getD k 0 ∧ ((xs.drop t).take d).getD k 0 ≤ 255 := fun k => by
  rw [List.getD_eq_getElem?_getD, List.getElem?_take]
  split
  · rw [List.getElem?_drop]
    have := h (t + k)
    rwa [List.getD_eq_getElem?_getD] at this
  · simp
theorem PR.step {T : Nat → Prop} {w : World} {sb n0 : Nat} {L : List Rg} {P : Nat → (Nat → Int) → (Nat → Int) → Prop} {mo ba en : Int} {xs : List Int} {t d : Nat} {wr w3 : World} {B : Option Addr} {cp : Nat} (h : PR T w sb n0 L P mo ba en xs t wr B cp) (hd : d ≤ xs.length - t) (hd0 : 0 < d) {M st : Nat → Int} (hm : MS T w3 sb (n0 + 6 * (t + d)) L M st mo ba en) (hp : P (t + d) M st) (fr : Fr T wr w3) :
    PR T w sb n0 L P mo ba en xs (t + d) w3 (if cp = d then B else B.map (·.add d)) (cp - d) := by
  have hcap := h.cap_
  have hle := h.le
  refine ⟨by omega, by omega, ?_, ?_, ⟨M, st, hm, hp⟩, h.fr.trans fr⟩
  · have h1 := (h.rd.fr fr (fun h0 => h.out (by omega))).drop d cp (by rw [List.length_drop]; omega) (by rw [List.length_drop]; omega)
    rw [List.drop_drop] at h1
    exact h1
  · intro _ ad had
    split at had
    · exact h.out (by omega) ad had
    · rcases B with _ | a0
      · cases had
      · simp only [Option.map_some, Option.some.injEq] at had
        subst had
        rw [add_block]
        exact h.out (by omega) a0 rfl
theorem mod_step (a t c d : Nat) (h : c = (a + t) % 18446744073709551616) : IntKind.u64.wrap ((c : Int) + (d : Int)) = (((a + (t + d)) % 18446744073709551616 : Nat) : Int) := by
  rw [IntKind.wrap_u64]; omega
set_option maxHeartbeats 4000000 in
theorem mput_any {T : Nat → Prop} {w : World} {sb n0 : Nat} {L : List Rg} {M st : Nat → Int} {mo ba en : Int} (h : MS T w sb n0 L M st mo ba en) (a : Nat) (A : Option Addr) (len cap : Nat) (xs : List Int) (hr : Rd w A xs) (hl : xs.length = len) (hlc : len ≤ cap) (hb : ∀ k, 0 ≤ xs.getD k 0 ∧ xs.getD k 0 ≤ 255)
    (hA : 0 < len → ∀ ad, A = some ad → ¬ T ad.block) (ha : a < 2 ^ 64) (hlen : len ≤ 100000) (hn : n0 < 10000000) (hT : ∀ b, w.heap.size ≤ b → T b) (P : Nat → (Nat → Int) → (Nat → Int) → Prop) (hP0 : P 0 M st) (hP : PutStep L a xs P) :
    Calls Tryz.prog 11 #[addr0 sb, .int .u64 (a : Int), .slice A len cap] w fun e w' => e = .returned (.tuple #[]) ∧ ∃ M' st', MS T w' sb (n0 + 6 * len) L M' st' mo ba en ∧ P len M' st' ∧ Fr T w w' := by
  have hpr : PR T w sb n0 L P mo ba en xs 0 w A cap := ⟨Nat.zero_le _, by omega, hr, fun h0 => hA (by omega), ⟨M, st, h, hP0⟩, Fr.refl _ _⟩
  have HPR := Lib.hid hpr; clear hpr h hr hA hP0
  have HL := Lib.hid hl; clear hl
  have HB := Lib.hid hb; clear hb
  have HT := Lib.hid hT; clear hT
  have HP := Lib.hid hP; clear hP
  have hlI : (len : Int) ≤ 100000 := by omega
  unfold addr0
  go_enter Tryz.func11, Tryz.ntmps11
  go_wp2_with fail
  go_loopw [1, 2, 6, 7, 8] (fun v1 v2 _ _ _ wr => ∃ (t cp : Nat) (B : Option Addr), v1 = .int .u64 (((a + t) % 18446744073709551616 : Nat) : Int) ∧ v2 = .slice B (len - t) cp ∧ PR T w sb n0 L P mo ba en xs t wr B cp) (fun _ v2 _ _ _ _ => lenV v2)
  case atStart => exact ⟨0, cap, A, by congr 2; omega, rfl, HPR.out⟩
  case round =>
    obtain ⟨t, cp, B, rfl, rfl, hpr⟩ := hrel
    clear HPR
    have htl := hpr.le
    rw [HL.out] at htl
    by_cases hlt : t < len
    · obtain ⟨c, hc⟩ : ∃ c, c = (a + t) % 18446744073709551616 := ⟨_, rfl⟩
      rw [← hc]
      obtain ⟨d, hd⟩ : ∃ d, d = min (len - t) (4096 - c % 4096) := ⟨_, rfl⟩
      have hd0 : 0 < d := by omega
      have hd1 : d ≤ len - t := by omega
      have hd2 : d ≤ 4096 - c % 4096 := by omega
      have hc0 : (c : Int) ≤ 18446744073709551615 := by omega
      have hcp := hpr.cap_
      rw [HL.out] at hcp
      have hmn : ∀ W', (Builtin.min_ #[3, 3] 3 #[.int .i64 ((len - t : Nat) : Int), .int .i64 (4096 - (c : Int) % 4096)]).run Tryz.prog W' = .ok (.int .i64 (d : Int)) W' := by
        intro W'
        rw [min_run]
        congr 2
        split <;> omega
      obtain ⟨M1, st1, hms, hp1⟩ := hpr.ms
      have hstep := HP.out t M1 st1 c d hp1 (by rw [HL.out]; exact hlt) hc (by rw [HL.out]; exact hd)
      obtain ⟨X, hX⟩ := hms.list
      have cat := at_any hX hms.so (c : Int) (by have := hms.few; omega)
      have CAT := Lib.hid cat; clear cat hX
      have CR := Lib.hid (fun W => rest_any (c : Int) W (by omega))
      have HPRR := Lib.hid hpr; clear hpr
      have HMS := Lib.hid hms; clear hms
      have HST := Lib.hid hstep; clear hstep hp1
      have HC := Lib.hid hc; clear hc
      have HD := Lib.hid hd; clear hd
      have hrlI : (0 : Int) < ((len - t : Nat) : Int) := by omega
      have hd0I : (0 : Int) < (d : Int) := by omega
      have hdI : (d : Int) ≤ ((len - t : Nat) : Int) := by omega
      have hdcI : (d : Int) ≤ (cp : Int) := by omega
      unfold addr0 at *
      go_wp2_with fail
      refine (CR.out _).mono ?_
      rintro e w' ⟨rfl, rfl⟩
      go_wp2_with fail
      refine CAT.out.mono ?_
      rintro e w1 ⟨r, ok, rfl, hok, k1⟩
      clear CAT CR hmn
      have K1 := Lib.hid (k1.alloc (.cells #[.int .u64 r.s, .int .u64 r.e, .int .i64 r.p] 79))
      unfold rgV
      rcases hok with ⟨rfl, m1, m2, m3⟩ | ⟨rfl, rfl, m1⟩
      · have hin : ∃ q, In L c q := ⟨r.p, r, m1, m2, m3, rfl⟩
        have htop := page_in HMS.out.rs m1 m2 m3 hd2
        have hto2 := HMS.out.so.2 r m1
        have HIN := Lib.hid hin
        have HTOP : Hid (c + d ≤ 274877906944) := Lib.hid (by omega)
        clear m1 m2 m3 hin htop hto2 k1
        obtain ⟨rs_, re_, rp_⟩ := r
        simp only at K1 ⊢
        have hs2 := slice29to B (len - t) cp d (by omega)
        go_wp2_with fail
        generalize w1.alloc (.cells #[.int .u64 rs_, .int .u64 re_, .int .i64 rp_] 79) = W at *
        go_region_with (go_at_call 33; have hmW := HMS.out.bl K1.out; refine (mwrite_any (hmW.bl (Bl.refl W).drew) c B d cp ((xs.drop t).take d) ((HPRR.out.rd.fr (Fr.of_bl (S := T) K1.out.drew) (fun _ => HPRR.out.out (by rw [HL.out]; exact hlt))).take d) (by rw [List.length_take, List.length_drop, HL.out]; omega) (by omega) (getD_drop_take HB.out t d) (fun _ => HPRR.out.out (by rw [HL.out]; exact hlt)) HTOP.out (by omega) (by omega) (fun b hb => HT.out b (Nat.le_trans HPRR.out.fr.size (Nat.le_trans K1.out.size hb)))).mono ?_; rintro e w3 ⟨rfl, st3, m3, r3, f3⟩)
        all_goals (
          have hpg : pagesOf c d ≤ 2 * d := by unfold pagesOf; split <;> omega
          have hpr2 := HPRR.out.step (by rw [HL.out]; exact hd1) hd0 (m3.mono (by omega)) (HST.out.1 HIN.out st3 r3) ((Fr.of_bl (K1.out.drew)).trans f3)
          have HPR2 := Lib.hid hpr2
          clear hpr2 m3 r3 f3 hs2 hpg HMS HST K1 HPRR
          go_wp2_with fail
          refine ⟨⟨t + d, cp - d, _, by rw [mod_step a t c d HC.out], by congr 1; omega, HPR2.out⟩, by simp only [lenV]; omega⟩)
      · have HNO := Lib.hid m1; clear m1 k1
        simp only at K1 ⊢
        have hpr2 := HPRR.out.step (by rw [HL.out]; exact hd1) hd0 ((HMS.out.bl K1.out).mono (by omega)) (HST.out.2 HNO.out) (Fr.of_bl K1.out)
        have HPR2 := Lib.hid hpr2
        clear hpr2 HMS HST HPRR
        go_wp2_with fail
        refine ⟨⟨t + d, cp - d, _, by rw [mod_step a t c d HC.out], by congr 1; omega, HPR2.out⟩, by simp only [lenV]; omega⟩
    · obtain rfl : t = len := by omega
      rw [show t - t = 0 by omega]
      have HPRR := Lib.hid hpr; clear hpr hlt
      go_wp2_with fail
      go_end0
      obtain ⟨M1, st1, m1, p1⟩ := HPRR.out.ms
      exact ⟨rfl, M1, st1, m1, p1, HPRR.out.fr⟩
end Go.Proofs.YtbngjbmfkekdnaaGreatDoor

set_option linter.unusedVariables false
set_option linter.unusedSimpArgs false
namespace Go.Proofs.YtbngjbmfkekdnaaGreatDoor
open Go.RowKit
set_option maxRecDepth 100000
set_option maxHeartbeats 1000000 in
theorem unmap_many {X : Ctx} {w : World} {b : Nat} {L : List Rg} (h : ListAt X w b L) (s e : Int) (h0 : 0 ≤ s) (hs : Span s e) (hl : L.length ≤ 256) (hc : 256 < (layL L s e []).length) :
    Calls Tryz.prog 42 #[addr0 b, .int .u64 s, .int .u64 e] w (NoPost w 12) := by
  have c1 := fun W => isSpan_yes s e W h0 hs
  have c3 := lay_many h s e (M := []) (RowG.nil (base := 0)) hl (by simp) hc
  have C1 := Lib.hid c1; clear c1
  have C3 := Lib.hid c3; clear c3 h hs hl hc
  unfold addr0 at *
  go_enter Tryz.func42, Tryz.ntmps42
  go_wp2_with fail
  refine (C1.out _).mono ?_
  rintro e w' ⟨rfl, rfl⟩
  go_wp2_with fail
  refine C3.out.mono ?_
  rintro e w' ⟨rfl, h1⟩
  have H1 := Lib.hid h1; clear h1
  go_wp2_with fail
  go_ret
  exact ⟨rfl, H1.out⟩
set_option maxHeartbeats 1000000 in
theorem protect_many {X : Ctx} {w : World} {b : Nat} {L : List Rg} (h : ListAt X w b L) (hso : So 0 274877906944 L) (s t p : Int) (h0 : 0 ≤ s) (hs : Span s t) (hp0 : 0 ≤ p) (hp1 : p ≤ 7) (hl : L.length ≤ 256) (hm : Mapped L s t) (hc : 256 < (layL L s t [⟨s, t, p⟩]).length) :
    Calls Tryz.prog 39 #[addr0 b, .int .u64 s, .int .u64 t, .int .i64 p] w (NoPost w 12) := by
  have c1 := fun W => isSpan_yes s t W h0 hs
  have c2 := fun W => isProt_yes p W hp0 hp1
  have cf := fun W (k : Bl w W) => first_any (h.bl k) hso s t 0 (by omega)
  have C1 := Lib.hid c1; clear c1
  have C2 := Lib.hid c2; clear c2
  have CF := Lib.hid cf; clear cf
  have HH := Lib.hid h; clear h
  have HSO := Lib.hid hso; clear hso hs
  have HL := Lib.hid hl; clear hl
  have HM := Lib.hid hm; clear hm
  have HC := Lib.hid hc; clear hc
  unfold addr0 at *
  go_enter Tryz.func39, Tryz.ntmps39
  go_wp2_with fail
  refine (C1.out _).mono ?_
  rintro e w' ⟨rfl, rfl⟩
  go_wp2_with fail
  refine (C2.out _).mono ?_
  rintro e w' ⟨rfl, rfl⟩
  go_wp2_with fail
  refine (CF.out _ (Bl.refl _)).mono ?_
  rintro e w1 ⟨x, ok, rfl, hok, k1⟩
  have K1 := Lib.hid k1; clear k1
  rcases hok with ⟨rfl, a1, a2, a3, a4⟩ | ⟨rfl, rfl, a1⟩
  · exact absurd (can_zero.2 (HM.out x a1 a2)) a3
  clear a1
  go_wp2_with fail
  refine (lay_many ((HH.out.bl K1.out).bl (Bl.new w1 (.cells #[.int .u64 s, .int .u64 t, .int .i64 p] 79))) s t (lit_row w1 ⟨s, t, p⟩) HL.out (by simp) HC.out).mono ?_
  rintro e w' ⟨rfl, h1⟩
  have H1 := Lib.hid h1; clear h1
  go_wp2_with fail
  go_ret
  exact ⟨rfl, (K1.out.alloc _).trans H1.out⟩
end Go.Proofs.YtbngjbmfkekdnaaGreatDoor

set_option linter.unusedVariables false
set_option linter.unusedSimpArgs false
namespace Go.Proofs.YtbngjbmfkekdnaaGreatDoor
open Go.RowKit
set_option maxRecDepth 100000
def ProtAny (T : Nat → Prop) (w : World) (sb n : Nat) (L : List Rg) (M st : Nat → Int) (mo ba en : Int) (a b : Nat) (p r : Int) (w' : World) : Prop :=
  (r = 0 ∧ Span (a : Int) (b : Int) ∧ 0 ≤ p ∧ p ≤ 7 ∧ Mapped L a b ∧ (layL L a b [⟨a, b, p⟩]).length ≤ 256 ∧ ∃ st', MS T w' sb (n + 8192) (layL L a b [⟨a, b, p⟩]) M st' mo ba en ∧ Rise st st' (fun q => a ≤ q * 4096 ∧ q * 4096 < b) ∧ Fr T w w') ∨
  (r ≠ 0 ∧ ¬ (Span (a : Int) (b : Int) ∧ 0 ≤ p ∧ p ≤ 7 ∧ Mapped L a b ∧ (layL L a b [⟨a, b, p⟩]).length ≤ 256) ∧ Bl w w')
theorem mtouch_any {T : Nat → Prop} {w : World} {sb n : Nat} {L : List Rg} {M st : Nat → Int} {mo ba en : Int} (h : MS T w sb n L M st mo ba en) (a b : Nat) (ha : a % 4096 = 0) (hb : b % 4096 = 0) (hab : a < b) (hbt : b ≤ 274877906944) (hn : n < 80000000) (hT : ∀ b, w.heap.size ≤ b → T b) :
    Calls Tryz.prog 40 #[.pointer (some ⟨sb, 1, none⟩), .int .u64 (a : Int), .int .u64 (b : Int)] w fun e w' => e = .returned (.tuple #[]) ∧ ∃ st', MS T w' sb (n + 8192) L M st' mo ba en ∧ Rise st st' (fun q => a ≤ q * 4096 ∧ q * 4096 < b) ∧ Fr T w w' := by
  obtain ⟨rg, f, k0, h1, h2, h3⟩ := h.ex
  refine (touch_any h1 a b hab hbt hn (off_new h2 hT)).mono ?_
  rintro e w' ⟨rfl, ⟨st', h4, hr⟩, hf⟩
  exact ⟨rfl, st', h.stored h2 h3 h4 hf h.by_, hr.mono fun p hp => by omega, hf.off_of⟩
/-- The list's own Protect, in all its ways. -/
theorem lprotect_any {X : Ctx} {w : World} {b0 : Nat} {L : List Rg} (h : ListAt X w b0 L) (hrs : Rs L) (hl : L.length ≤ 256) (a b : Nat) (p : Int) (ha : a < 2 ^ 64) (hb : b < 2 ^ 64) :
    Calls Tryz.prog 39 #[addr0 b0, .int .u64 (a : Int), .int .u64 (b : Int), .int .i64 p] w fun e w' => ∃ r, e = .returned (.int .i64 r) ∧
      ((r = 0 ∧ Span (a : Int) (b : Int) ∧ 0 ≤ p ∧ p ≤ 7 ∧ Mapped L a b ∧ (layL L a b [⟨a, b, p⟩]).length ≤ 256 ∧ ListFrom X w.heap.size w' b0 (layL L a b [⟨a, b, p⟩]) ∧ Fr (only b0) w w') ∨
       (r ≠ 0 ∧ ¬ (Span (a : Int) (b : Int) ∧ 0 ≤ p ∧ p ≤ 7 ∧ Mapped L a b ∧ (layL L a b [⟨a, b, p⟩]).length ≤ 256) ∧ Bl w w')) := by
  by_cases hs : Span (a : Int) (b : Int) ∧ 0 ≤ p ∧ p ≤ 7
  · obtain ⟨hs, hp0, hp1⟩ := hs
    by_cases hm : Mapped L a b
    · rcases Nat.lt_or_ge 256 (layL L a b [⟨a, b, p⟩]).length with hc | hc
      · refine (protect_many h hrs.nm.so a b p (by omega) hs hp0 hp1 hl hm hc).mono ?_
        rintro e w' ⟨rfl, k⟩
        exact ⟨12, rfl, .inr ⟨by omega, fun e => by omega, k⟩⟩
      · refine (protect_ok h hrs.nm.so a b p (by omega) hs hp0 hp1 hl hm hc).mono ?_
        rintro e w' ⟨rfl, k, f⟩
        exact ⟨0, rfl, .inl ⟨rfl, hs, hp0, hp1, hm, hc, k, f⟩⟩
    · refine (protect_hole h hrs.nm.so a b p (by omega) hs hp0 hp1 hl hm).mono ?_
      rintro e w' ⟨rfl, k⟩
      exact ⟨12, rfl, .inr ⟨by omega, fun e => hm e.2.2.2.1, k⟩⟩
  · refine (protect_no b0 a b p (by omega) (by omega) (by omega) (by omega) hs).mono ?_
    rintro e w' ⟨rfl, k⟩
    exact ⟨22, rfl, .inr ⟨by omega, fun e => hs ⟨e.1, e.2.1, e.2.2.1⟩, k⟩⟩
set_option maxHeartbeats 2000000 in
theorem mprotect_any {T : Nat → Prop} {w : World} {sb n : Nat} {L : List Rg} {M st : Nat → Int} {mo ba en : Int} (h : MS T w sb n L M st mo ba en) (a b : Nat) (size p : Int) (ha : a < 2 ^ 64) (hb : (b : Int) = IntKind.u64.wrap (a + upW size)) (hn : n < 80000000) (hT : ∀ b, w.heap.size ≤ b → T b) :
    Calls Tryz.prog 16 #[addr0 sb, .int .u64 (a : Int), .int .u64 size, .int .i64 p] w fun e w' => ∃ r, e = .returned (.int .i64 r) ∧ ProtAny T w sb n L M st mo ba en a b p r w' := by
  have hb2 : b < 2 ^ 64 := by have := wrap_in (a + upW size); omega
  obtain ⟨X, hX⟩ := h.list
  have cl := lprotect_any hX h.rs h.few a b p ha hb2
  have cu := fun W => mup_any size W
  have CU := Lib.hid cu; clear cu
  have CL := Lib.hid cl; clear cl
  have HX := Lib.hid hX; clear hX
  have H := Lib.hid h; clear h
  have HT := Lib.hid hT; clear hT
  have HB := Lib.hid hb; clear hb
  generalize upW size = us at *
  have hx0 : (0 : Int) ≤ (a : Int) := by omega
  unfold addr0 at *
  go_enter Tryz.func16, Tryz.ntmps16
  go_wp2_with fail
  refine (CU.out _).mono ?_
  rintro e w' ⟨rfl, rfl⟩
  go_wp2_with fail
  rw [← HB.out]
  refine CL.out.mono ?_
  rintro e w1 ⟨r, rfl, hr⟩
  clear CL CU
  rcases hr with ⟨rfl, s1, p0, p1, hm, hc, hl, hf⟩ | ⟨hr, hno, k⟩
  · have h1 := H.out.laid HX.out hl hf (H.out.rs.lay (by omega) s1) hc HT.out
    have f1 : Fr T w w1 := hf.only_of H.out.own
    have H1 := Lib.hid h1
    have F1 := Lib.hid f1
    have S1 := Lib.hid s1
    have HM := Lib.hid hm
    have HC := Lib.hid hc
    clear h1 f1 s1 hm hc hl hf
    go_wp2_with fail
    refine (mtouch_any H1.out a b (by have := S1.out.1; omega) (by have := S1.out.2.1; omega) (by have := S1.out.2.2.1; omega) (by have := S1.out.2.2.2; omega) hn (fun b hb => HT.out b (Nat.le_trans F1.out.size hb))).mono ?_
    rintro e w2 ⟨rfl, st', m2, r2, f2⟩
    have M2 := Lib.hid m2; clear m2
    have R2 := Lib.hid r2; clear r2
    have F2 := Lib.hid f2; clear f2
    go_wp2_with fail
    go_ret
    exact ⟨0, rfl, .inl ⟨rfl, S1.out, p0, p1, HM.out, HC.out, st', M2.out, R2.out, F1.out.trans F2.out⟩⟩
  · have t5 : (r != 0) = true := by simp [hr]
    have HR := Lib.hid hr; clear hr
    have HNO := Lib.hid hno; clear hno
    have K := Lib.hid k; clear k
    go_wp2_with fail
    go_ret
    exact ⟨r, rfl, .inr ⟨HR.out, HNO.out, K.out⟩⟩
/-- What an Unmap does, and when. -/
def UnmapAny (T : Nat → Prop) (w : World) (sb n : Nat) (L : List Rg) (M st : Nat → Int) (mo ba en : Int) (a b : Nat) (r : Int) (w' : World) : Prop :=
  (r = 0 ∧ Span (a : Int) (b : Int) ∧ (layL L a b []).length ≤ 256 ∧ ClearPost T w sb n (layL L a b []) M st mo ba en a b w') ∨ (r ≠ 0 ∧ ¬ (Span (a : Int) (b : Int) ∧ (layL L a b []).length ≤ 256) ∧ Bl w w')
theorem lunmap_any {X : Ctx} {w : World} {b0 : Nat} {L : List Rg} (h : ListAt X w b0 L) (hl : L.length ≤ 256) (a b : Nat) (ha : a < 2 ^ 64) (hb : b < 2 ^ 64) :
    Calls Tryz.prog 42 #[addr0 b0, .int .u64 (a : Int), .int .u64 (b : Int)] w fun e w' => ∃ r, e = .returned (.int .i64 r) ∧
      ((r = 0 ∧ Span (a : Int) (b : Int) ∧ (layL L a b []).length ≤ 256 ∧ ListFrom X w.heap.size w' b0 (layL L a b []) ∧ Fr (only b0) w w') ∨ (r ≠ 0 ∧ ¬ (Span (a : Int) (b : Int) ∧ (layL L a b []).length ≤ 256) ∧ Bl w w')) := by
  by_cases hs : Span (a : Int) (b : Int)
  · rcases Nat.lt_or_ge 256 (layL L a b []).length with hc | hc
    · refine (unmap_many h a b (by omega) hs hl hc).mono ?_
      rintro e w' ⟨rfl, k⟩
      exact ⟨12, rfl, .inr ⟨by omega, fun e => by omega, k⟩⟩
    · refine (unmap_ok h a b (by omega) hs hl hc).mono ?_
      rintro e w' ⟨rfl, k, f⟩
      exact ⟨0, rfl, .inl ⟨rfl, hs, hc, k, f⟩⟩
  · refine (unmap_no b0 a b (by omega) (by omega) (by omega) (by omega) hs).mono ?_
    rintro e w' ⟨rfl, k⟩
    exact ⟨22, rfl, .inr ⟨by omega, fun e => hs e.1, k⟩⟩
set_option maxHeartbeats 2000000 in
theorem munmap_of {T : Nat → Prop} {w : World} {sb n : Nat} {L : List Rg} {M st : Nat → Int} {mo ba en : Int} (h : MS T w sb n L M st mo ba en) (a b : Nat) (size : Int) (ha : a < 2 ^ 64) (hb : (b : Int) = IntKind.u64.wrap (a + upW size)) (hn : n < 80000000) (hT : ∀ b, w.heap.size ≤ b → T b)
    (hcl : ∀ W L', a % 4096 = 0 → b % 4096 = 0 → a < b → b ≤ 274877906944 → w.heap.size ≤ W.heap.size → MS T W sb n L' M st mo ba en → Calls Tryz.prog 43 #[.pointer (some ⟨sb, 1, none⟩), .int .u64 (a : Int), .int .u64 (b : Int)] W fun e w' => e = .returned (.tuple #[]) ∧ ClearPost T W sb n L' M st mo ba en a b w') :
    Calls Tryz.prog 18 #[addr0 sb, .int .u64 (a : Int), .int .u64 size] w fun e w' => ∃ r, e = .returned (.int .i64 r) ∧ UnmapAny T w sb n L M st mo ba en a b r w' := by
  have hb2 : b < 2 ^ 64 := by have := wrap_in (a + upW size); omega
  obtain ⟨X, hX⟩ := h.list
  have cl := lunmap_any hX h.few a b ha hb2
  have cu := fun W => mup_any size W
  have CU := Lib.hid cu; clear cu
  have CL := Lib.hid cl; clear cl
  have HX := Lib.hid hX; clear hX
  have H := Lib.hid h; clear h
  have HT := Lib.hid hT; clear hT
  have HB := Lib.hid hb; clear hb
  have HCL := Lib.hid hcl; clear hcl
  generalize upW size = us at *
  have hx0 : (0 : Int) ≤ (a : Int) := by omega
  unfold addr0 at *
  go_enter Tryz.func18, Tryz.ntmps18
  go_wp2_with fail
  refine (CU.out _).mono ?_
  rintro e w' ⟨rfl, rfl⟩
  go_wp2_with fail
  rw [← HB.out]
  refine CL.out.mono ?_
  rintro e w1 ⟨r, rfl, hr⟩
  clear CL CU
  rcases hr with ⟨rfl, s1, hc, hl, hf⟩ | ⟨hr, hno, k⟩
  · have h1 := H.out.laid HX.out hl hf (H.out.rs.cut (by omega) s1) hc HT.out
    have f1 : Fr T w w1 := hf.only_of H.out.own
    have H1 := Lib.hid h1
    have F1 := Lib.hid f1
    have S1 := Lib.hid s1
    have HC := Lib.hid hc
    clear h1 f1 s1 hc hl hf
    go_wp2_with fail
    refine (HCL.out w1 _ (by have := S1.out.1; omega) (by have := S1.out.2.1; omega) (by have := S1.out.2.2.1; omega) (by have := S1.out.2.2.2; omega) F1.out.size H1.out).mono ?_
    rintro e w2 ⟨rfl, st', m2, r2, f2⟩
    have M2 := Lib.hid m2; clear m2
    have R2 := Lib.hid r2; clear r2
    have F2 := Lib.hid f2; clear f2
    go_wp2_with fail
    go_ret
    exact ⟨0, rfl, .inl ⟨rfl, S1.out, HC.out, st', M2.out, R2.out, F1.out.trans F2.out⟩⟩
  · have t5 : (r != 0) = true := by simp [hr]
    have HR := Lib.hid hr; clear hr
    have HNO := Lib.hid hno; clear hno
    have K := Lib.hid k; clear k
    go_wp2_with fail
    go_ret
    exact ⟨r, rfl, .inr ⟨HR.out, HNO.out, K.out⟩⟩
/-- What Check answers. -/
def CheckIs (L : List Rg) (a : Nat) (n p r : Int) : Prop := (r = 22 ∧ (n < 0 ∨ 4194304 < n)) ∨ (0 ≤ n ∧ n ≤ 4194304 ∧ ((r = 0 ∧ ∀ y, (a : Int) ≤ y → y < a + n → Can L p y) ∨ (r = 14 ∧ ∃ y, (a : Int) ≤ y ∧ y < a + n ∧ ¬ Can L p y)))
end Go.Proofs.YtbngjbmfkekdnaaGreatDoor

set_option linter.unusedVariables false
set_option linter.unusedSimpArgs false
namespace Go.Proofs.YtbngjbmfkekdnaaGreatDoor
open Go.RowKit
set_option maxRecDepth 100000
theorem MS.setNums {T : Nat → Prop} {w w' : World} {sb n : Nat} {L : List Rg} {M st : Nat → Int} {mo ba en ba' en' : Int} (h : MS T w sb n L M st mo ba en) (hf : Fr (only sb) w w')
    (hb : ∀ v pm sm c l, w.heap[sb]? = some (.cells #[v, pm, sm, .int .u64 c, .int .u64 l, .int .i64 mo, .int .u64 ba, .int .u64 en] 65 (0, 0)) → w'.heap[sb]? = some (.cells #[v, pm, sm, .int .u64 c, .int .u64 l, .int .i64 mo, .int .u64 ba', .int .u64 en'] 65 (0, 0)))
    (hh : 0 ≤ ba' ∧ ba' ≤ 274877906944 ∧ 0 ≤ en' ∧ en' ≤ 274877906944) : MS T w' sb n L M st mo ba' en' := by
  obtain ⟨rg, f, k0, ⟨pm, sm, c, l, h1⟩, h2, h3⟩ := h.ex
  refine ⟨⟨rg, f, k0, ⟨pm, sm, c, l, h1.nums (hb _ _ _ _ _ h1.blk) hf⟩, h2.kept (fun g hg => hf.block g (h2.lt g hg).2 (fun e => ?_)), h3⟩, h.rs, h.few, h.by_, h.mo_, hh⟩
  obtain ⟨cur, hcur⟩ := h2.type hg
  have := h1.blk
  rw [← show g = sb from e, hcur] at this
  exact absurd (cells_ty this) (by decide)
def Clears (T : Nat → Prop) (w : World) (sb n : Nat) (M st : Nat → Int) (mo ba en : Int) (a b : Nat) : Prop := ∀ W L', a % 4096 = 0 → b % 4096 = 0 → a < b → b ≤ 274877906944 → w.heap.size ≤ W.heap.size → MS T W sb n L' M st mo ba en → Calls Tryz.prog 43 #[.pointer (some ⟨sb, 1, none⟩), .int .u64 (a : Int), .int .u64 (b : Int)] W fun e w' => e = .returned (.tuple #[]) ∧ ClearPost T W sb n L' M st mo ba en a b w'
/-- How the heap's pages were moved. -/
def ResizeIs (T : Nat → Prop) (w : World) (sb n : Nat) (L : List Rg) (M st : Nat → Int) (mo ba en : Int) (was now : Nat) (ok : Bool) (w' : World) : Prop :=
  (was < now ∧ ok = true ∧ FreeIn L was now ∧ (layL L was now [⟨was, now, 3⟩]).length ≤ 256 ∧ tot (layL L was now [⟨was, now, 3⟩]) ≤ mo * 4096 ∧ ClearPost T w sb n (layL L was now [⟨was, now, 3⟩]) M st mo ba en was now w') ∨
  (now < was ∧ ok = true ∧ (layL L now was []).length ≤ 256 ∧ ClearPost T w sb n (layL L now was []) M st mo ba en now was w') ∨
  (now = was ∧ ok = true ∧ Bl w w') ∨
  (ok = false ∧ Bl w w' ∧ ((was < now ∧ (¬ FreeIn L was now ∨ 256 < (layL L was now [⟨was, now, 3⟩]).length ∨ mo * 4096 < tot (layL L was now [⟨was, now, 3⟩]))) ∨ (now < was ∧ 256 < (layL L now was []).length)))
def upN (x : Int) : Nat := ((x + 4095) / 4096 * 4096).toNat
theorem upN_of {x : Int} (h0 : 0 ≤ x) (h1 : x ≤ 274877906944) : (upN x : Int) = upW x ∧ upN x % 4096 = 0 ∧ upN x ≤ 274877906944 ∧ (upN x : Int) = (x + 4095) / 4096 * 4096 := by
  rw [upW_in h0 h1]; unfold upN; omega
/-- What Brk answers, and what it does. -/
def BrkIs (T : Nat → Prop) (w : World) (sb n : Nat) (L : List Rg) (M st : Nat → Int) (mo ba en x y : Int) (w' : World) : Prop :=
  (¬ (ba ≤ x ∧ x ≤ 274877906944) ∧ y = en ∧ Bl w w') ∨
  (ba ≤ x ∧ x ≤ 274877906944 ∧ ∃ ok w1, ResizeIs T w sb n L M st mo ba en (upN en) (upN x) ok w1 ∧ ((ok = false ∧ y = en ∧ w' = w1) ∨ (ok = true ∧ y = x ∧ w' = w1.setCell ⟨sb, 7, none⟩ (.int .u64 x))))
end Go.Proofs.YtbngjbmfkekdnaaGreatDoor

set_option linter.unusedVariables false
set_option linter.unusedSimpArgs false
namespace Go.Proofs.YtbngjbmfkekdnaaGreatDoor
open Go.RowKit
set_option maxRecDepth 100000
theorem zeroU (w : World) : (zeroValue 29).run Tryz.prog w = .ok (.int .u64 0) w := by kernel_rfl
/-- What a look-up among the stamps finds. -/
theorem SMV.look {S : Nat → Prop} {w : World} {sm : Value} {n : Nat} {c : Int} {st : Nat → Int} (h : SMV S w sm n c st) {p : Nat} (hp : p < 2 ^ 64) :
    ∃ v ok, (Instr.lookup 61 sm (.int .u64 (p : Int)) true).run Tryz.prog w = .ok (.tuple #[.int .u64 v, .bool ok]) w ∧ ((ok = true ∧ v = st p) ∨ (ok = false ∧ c = st p)) := by
  rcases h with ⟨rfl, h1⟩ | ⟨B, D, rfl, _, hown, g, hg1, hg2, hg3⟩
  · exact ⟨0, false, Maps.look_nil true law27 Tryz.underlying61 (zeroU w) (key_of hp), .inr ⟨rfl, (h1 p hp).symm⟩⟩
  · have hz : plainElem (H := Nat) Tryz.prog 29 (.int .u64 0) = some (.lit (.int .u64 0), []) := plainElem_int Tryz.underlying29 (by decide)
    obtain ⟨v, ps, hrun, hv⟩ := hown.look_ok law27 Tryz.underlying61 (zeroU w) hz (key_of hp)
    obtain ⟨a, rfl, e, _⟩ := plainElem_int_inv Tryz.underlying29 hv
    refine ⟨a, _, hrun, ?_⟩
    rw [hg1 p hp]
    rcases hgp : g p with _ | y
    · exact .inr ⟨rfl, by rw [hg3 p hp, hgp]; rfl⟩
    · refine .inl ⟨rfl, ?_⟩
      rw [hg2 p y hp hgp] at e
      injection e with e
      injection e with e
      injection e with _ e
      rw [hg3 p hp, hgp, ← e]; rfl
set_option maxHeartbeats 1000000 in
theorem pstamp_any {Y : Rest} {S : Nat → Prop} {w : World} {sb n k : Nat} {f : Nat → Option Nat} {M st : Nat → Int} (h : StoreAt Y S w sb n f k M st) (p : Nat) (hp : p < 2 ^ 64) :
    Calls Tryz.prog 111 #[.pointer (some ⟨sb, 1, none⟩), .int .u64 (p : Int)] w fun e w' => e = .returned (.int .u64 (st p)) ∧ w = w' := by
  obtain ⟨pm, sm, c, l, h⟩ := h
  obtain ⟨c0, c1, c2, c3⟩ := h.cell
  obtain ⟨v, ok, hlook, hv⟩ := h.stamps.look hp
  clear h
  rcases hv with ⟨rfl, hv⟩ | ⟨rfl, hv⟩
  · have HV := Lib.hid hv; clear hv
    go_enter Tryz.func111, Tryz.ntmps111
    go_wp2
    go_ret
    exact ⟨by rw [← HV.out]; rfl, rfl⟩
  · have HV := Lib.hid hv; clear hv
    go_enter Tryz.func111, Tryz.ntmps111
    go_wp2
    go_ret
    exact ⟨by rw [← HV.out]; rfl, rfl⟩
set_option maxHeartbeats 1000000 in
theorem mstamp_any {T : Nat → Prop} {w : World} {sb n : Nat} {L : List Rg} {M st : Nat → Int} {mo ba en : Int} (h : MS T w sb n L M st mo ba en) (p : Nat) (hp : p < 2 ^ 64) :
    Calls Tryz.prog 105 #[addr0 sb, .int .u64 (p : Int)] w fun e w' => e = .returned (.int .u64 (st p)) ∧ w = w' := by
  obtain ⟨rg, f, k0, h3, _, _⟩ := h.ex
  have cr := pstamp_any h3 p hp
  have CR := Lib.hid cr; clear cr h3 h
  unfold addr0
  go_enter Tryz.func105, Tryz.ntmps105
  go_wp2_with fail
  refine CR.out.mono ?_
  rintro e w1 ⟨rfl, rfl⟩
  go_wp2_with fail
  go_ret
  exact ⟨rfl, rfl⟩
def InPost (n : Int) (w : World) (e : Ending) (w' : World) : Prop := ∃ A len cap r xs, e = .returned (.tuple #[.slice A len cap, .int .i64 r]) ∧ Rd w' A xs ∧ xs.length = len ∧ len ≤ cap ∧ len ≤ 4194304 ∧ (len = 0 ∨ (len : Int) = n) ∧ ((A = none ∧ len = 0 ∧ cap = 0) ∨ ∃ b, A = some ⟨b, 0, none⟩ ∧ w.heap.size ≤ b) ∧ (∀ k, 0 ≤ xs.getD k 0 ∧ xs.getD k 0 ≤ 255) ∧ Bl w w'
end Go.Proofs.YtbngjbmfkekdnaaGreatDoor

set_option linter.unusedVariables false
set_option linter.unusedSimpArgs false
namespace Go.Proofs.YtbngjbmfkekdnaaGreatDoor
open Go.RowKit
set_option maxRecDepth 100000
set_option maxHeartbeats 1000000 in
theorem fault_bad {w : World} (sb : Nat) (kind a n p : Int) (hn : ¬ (n = 1 ∨ n = 2 ∨ n = 4 ∨ n = 8)) :
    Calls Tryz.prog 63 #[addr0 sb, .int .i64 kind, .int .u64 a, .int .i64 n, .int .i64 p] w fun e w' => e = .returned (faultV kind a) ∧ Bl w w' := by
  have cw := fun W => width_no n W hn
  have CW := Lib.hid cw; clear cw hn
  unfold addr0 at *
  go_enter Tryz.func63, Tryz.ntmps63
  go_wp2_with fail
  refine (CW.out _).mono ?_
  rintro e w' ⟨rfl, rfl⟩
  go_wp2_with fail
  (try simp only [Exit.inBlock, Exit.then])
  refine bodyPost_ret (results_cell_row rfl _ _ w.heap.size 41 _ (0, 0) _ rfl (heap_alloc_new w _) Tryz.underlying41 rfl (by kernel_rfl)) rfl ?_
  exact ⟨rfl, Bl.new _ _⟩
/-- A word. -/
def Wd (x : Int) : Prop := 0 ≤ x ∧ x ≤ 18446744073709551615
theorem Wd.zero : Wd 0 := ⟨by omega, by omega⟩
theorem Wd.nat {a : Nat} (h : a < 2 ^ 64) : Wd (a : Int) := ⟨by omega, by omega⟩
theorem can_under {L : List Rg} {p y : Int} (h : So 0 274877906944 L) (hc : Can L p y) : y < 274877906944 := by
  obtain ⟨q, ⟨r, hr, _, h2, _⟩, _⟩ := hc
  have := h.2 r hr
  omega
/-- A fault's place is a word. -/
theorem Wd.fault {L : List Rg} {p a x : Int} {n : Nat} (h : So 0 274877906944 L) (ha : Wd a) (h1 : a ≤ x) (h2 : x < a + n) (hn : n ≤ 8) (hc : ∀ y, a ≤ y → y < x → Can L p y) : Wd x := by
  rcases Int.lt_or_le a x with h3 | h3
  · have := can_under h (hc a (Int.le_refl _) h3)
    exact ⟨by have := ha.1; omega, by omega⟩
  · have := ha.1; have := ha.2
    exact ⟨by omega, by omega⟩
/-- Some fault, or none; the memory that was there stays. -/
def SomeFault (w : World) (e : Ending) (w' : World) : Prop := ∃ k x, e = .returned (faultV k x) ∧ Wd x ∧ Bl w w'
theorem fault_some {T : Nat → Prop} {w : World} {sb n0 : Nat} {L : List Rg} {M st : Nat → Int} {mo ba en : Int} (h : MS T w sb n0 L M st mo ba en) (kind a n p : Int) (h0 : 0 ≤ a) (h1 : a ≤ 18446744073709551615) :
    Calls Tryz.prog 63 #[addr0 sb, .int .i64 kind, .int .u64 a, .int .i64 n, .int .i64 p] w (SomeFault w) := by
  by_cases hn : n = 1 ∨ n = 2 ∨ n = 4 ∨ n = 8
  · obtain ⟨m, rfl⟩ := Int.eq_ofNat_of_zero_le (show 0 ≤ n by omega)
    refine (fault_any h kind a m p h0 h1 (by omega)).mono ?_
    rintro e w' ⟨k, x, rfl, hh, kk⟩
    refine ⟨k, x, rfl, ?_, kk⟩
    rcases hh with ⟨_, h2, h3, _, h5⟩ | ⟨_, rfl, _⟩
    · exact Wd.fault h.so ⟨h0, h1⟩ h2 h3 (by omega) h5
    · exact Wd.zero
  · refine (fault_bad sb kind a n p hn).mono ?_
    rintro e w' ⟨rfl, kk⟩
    exact ⟨kind, a, rfl, ⟨h0, h1⟩, kk⟩
set_option maxHeartbeats 1000000 in
theorem probe_some {T : Nat → Prop} {w : World} {sb n0 : Nat} {L : List Rg} {M st : Nat → Int} {mo ba en : Int} (h : MS T w sb n0 L M st mo ba en) (a n : Int) (h0 : 0 ≤ a) (h1 : a ≤ 18446744073709551615) :
    Calls Tryz.prog 35 #[addr0 sb, .int .u64 a, .int .i64 n] w (SomeFault w) := by
  have cf := fault_some (h.bl (Bl.new w (.cells #[.int .i64 0, .int .u64 0] 41))) 2 a n 2 h0 h1
  have CF := Lib.hid cf; clear cf h
  unfold addr0 at *
  go_enter Tryz.func35, Tryz.ntmps35
  go_wp2_with fail
  refine CF.out.mono ?_
  rintro e w1 ⟨k, x, rfl, wd, kk⟩
  have WD := Lib.hid wd; clear wd
  have hb := new2 w w1 _ _ _ kk
  obtain ⟨d0, d1⟩ := two_cells hb
  have k1 := (Bl.new w (.cells #[.int .i64 0, .int .u64 0] 41)).trans kk
  have f0 : ∀ i, w1.frozen? ⟨w.heap.size, i, none⟩ = false := fun i => by simp [World.frozen?, hb]
  have f00 := f0 0
  have f01 := f0 1
  have HB := Lib.hid hb; clear hb
  have K1 := Lib.hid k1; clear k1 kk f0
  unfold faultV
  go_wp2_with fail
  (try simp only [Exit.inBlock, Exit.then])
  refine bodyPost_ret (results_cell_row rfl _ _ w.heap.size 41 _ (0, 0) _ rfl (set2 _ _ HB.out) Tryz.underlying41 rfl (by kernel_rfl)) rfl ?_
  exact ⟨k, x, rfl, WD.out, (K1.out.set (Nat.le_refl _) _).set (Nat.le_refl _) _⟩
/-- A number, and a fault or none. -/
def SomeLoad (q : IntKind) (w : World) (e : Ending) (w' : World) : Prop := ∃ y k x, e = .returned (.tuple #[.int q y, faultV k x]) ∧ (q = .u64 → Wd y) ∧ Wd x ∧ Bl w w'
set_option maxHeartbeats 1000000 in
theorem half_any {T : Nat → Prop} {w : World} {sb n0 : Nat} {L : List Rg} {M st : Nat → Int} {mo ba en : Int} (h : MS T w sb n0 L M st mo ba en) (a : Nat) (ha : a < 2 ^ 64) :
    Calls Tryz.prog 106 #[addr0 sb, .int .u64 (a : Int)] w fun e w' => ∃ y k x, e = .returned (.tuple #[.int .u32 y, faultV k x]) ∧ 0 ≤ y ∧ y ≤ 65535 ∧ Wd x ∧ Bl w w' := by
  have cf := fault_any (h.bl (Bl.new w (.cells #[.int .i64 0, .int .u64 0] 41))) 3 a 2 4 (by omega) (by omega) (by decide)
  have cn := fun W (hW : Bl w W) => number_any (h.bl hW) a 2 ha (by omega) (by omega)
  have hnb : 0 ≤ numAt M a 2 ∧ numAt M a 2 ≤ 65535 := by
    have h1 := h.by_ a
    have h2 := h.by_ (a + 1)
    have e : numAt M a 2 = M a + M (a + 1) * 256 := by simp [numAt, getS, bytesAt, List.range_succ]
    omega
  have HSO := Lib.hid h.so
  have CF := Lib.hid cf; clear cf h
  have CN := Lib.hid cn; clear cn
  generalize numAt M a 2 = N at *
  obtain ⟨n0', n1'⟩ := hnb
  unfold addr0 at *
  go_enter Tryz.func106, Tryz.ntmps106
  go_wp2_with fail
  refine CF.out.mono ?_
  rintro e w1 ⟨k, x, rfl, hh, kk⟩
  have hb := new2 w w1 _ _ _ kk
  have k1 := (Bl.new w (.cells #[.int .i64 0, .int .u64 0] 41)).trans kk
  clear CF kk
  have HB := Lib.hid hb; clear hb
  have K1 := Lib.hid k1; clear k1
  unfold faultV
  rcases hh with ⟨hk, hh⟩ | ⟨hk, hx, hh⟩
  · subst hk
    have WD := Lib.hid (Wd.fault HSO.out (Wd.nat ha) hh.1 hh.2.1 (by omega) hh.2.2.2)
    clear hh
    go_wp2_with fail
    have hb2 := (Bl.new w1 (.cells #[.int .i64 3, .int .u64 x] 41)).at_ HB.out
    obtain ⟨d0, d1⟩ := two_cells hb2
    obtain ⟨d2, d3⟩ := two_cells (heap_alloc_new w1 (.cells #[.int .i64 3, .int .u64 x] 41))
    have f0 : ∀ i, (w1.alloc (.cells #[.int .i64 3, .int .u64 x] 41)).frozen? ⟨w.heap.size, i, none⟩ = false := fun i => by simp [World.frozen?, hb2]
    have f00 := f0 0
    have f01 := f0 1
    have HB2 := Lib.hid hb2; clear hb2
    have K2 := Lib.hid (K1.out.alloc (.cells #[.int .i64 3, .int .u64 x] 41))
    clear HB K1 f0 CN
    generalize w1.alloc (.cells #[.int .i64 3, .int .u64 x] 41) = W at *
    go_region
    all_goals (
      (try go_wp2_with fail)
      (try simp only [Exit.inBlock, Exit.then])
      refine bodyPost_ret (results_tmp_row rfl _ _ w.heap.size 41 _ (0, 0) _ rfl (set2 _ _ HB2.out) Tryz.underlying41 rfl (by kernel_rfl)) rfl ?_
      exact ⟨0, 3, x, rfl, by omega, by omega, WD.out, (K2.out.drew.set (Nat.le_refl _) _).set (Nat.le_refl _) _⟩)
  · subst hk hx
    clear hh
    go_wp2_with fail
    refine (CN.out _ (K1.out.alloc _)).mono ?_
    rintro e w2 ⟨rfl, k2⟩
    have hb2 := k2.at_ ((Bl.new w1 (.cells #[.int .i64 0, .int .u64 0] 41)).at_ HB.out)
    obtain ⟨d0, d1⟩ := two_cells hb2
    have f0 : ∀ i, w2.frozen? ⟨w.heap.size, i, none⟩ = false := fun i => by simp [World.frozen?, hb2]
    have f00 := f0 0
    have f01 := f0 1
    have HB2 := Lib.hid hb2; clear hb2
    have K2 := Lib.hid ((K1.out.alloc (.cells #[.int .i64 0, .int .u64 0] 41)).trans k2)
    clear HB K1 f0 CN k2
    go_wp2_with fail
    (try simp only [Exit.inBlock, Exit.then])
    refine bodyPost_ret (results_tmp_row rfl _ _ w.heap.size 41 _ (0, 0) _ rfl (set2 _ _ HB2.out) Tryz.underlying41 rfl (by kernel_rfl)) rfl ?_
    exact ⟨_, 0, 0, rfl, n0', n1', Wd.zero, (K2.out.set (Nat.le_refl _) _).set (Nat.le_refl _) _⟩
/-- A Store of any width. -/
def SomeStore (T : Nat → Prop) (w : World) (sb n0 : Nat) (L : List Rg) (M st : Nat → Int) (mo ba en : Int) (w' : World) : Prop := ∃ M' st', MS T w' sb n0 L M' st' mo ba en ∧ Rise st st' (fun p => ∃ x : Nat, x / 4096 = p ∧ M' x ≠ M x) ∧ Fr T w w'
theorem lay_ne {M : Nat → Int} {a : Nat} {cs : List Int} {x : Nat} (h : lay M a cs x ≠ M x) : a ≤ x ∧ x < a + cs.length := by
  rcases Nat.lt_or_ge x a with h1 | h1
  · exact absurd (lay_out _ _ _ _ (.inl h1)) h
  · rcases Nat.lt_or_ge x (a + cs.length) with h2 | h2
    · exact ⟨h1, h2⟩
    · exact absurd (lay_out _ _ _ _ (.inr h2)) h
end Go.Proofs.YtbngjbmfkekdnaaGreatDoor

set_option linter.unusedVariables false
set_option linter.unusedSimpArgs false
namespace Go.Proofs.YtbngjbmfkekdnaaGreatDoor
open Go.RowKit
set_option maxRecDepth 100000
set_option maxHeartbeats 1000000 in
theorem store_bad {w : World} (sb : Nat) (a n x : Int) (hn : ¬ (n = 1 ∨ n = 2 ∨ n = 4 ∨ n = 8)) (ha : Wd a) :
    Calls Tryz.prog 14 #[addr0 sb, .int .u64 a, .int .i64 n, .int .u64 x] w (SomeFault w) := by
  have cp : ∀ W, Calls Tryz.prog 35 #[addr0 sb, .int .u64 a, .int .i64 n] W fun e w' => e = .returned (faultV 2 a) ∧ Bl W w' := fun W => by
    have cf := fun W => fault_bad (w := W) sb 2 a n 2 hn
    have CF := Lib.hid cf; clear cf
    unfold addr0 at *
    go_enter Tryz.func35, Tryz.ntmps35
    go_wp2_with fail
    refine (CF.out _).mono ?_
    rintro e w1 ⟨rfl, kk⟩
    have hb := new2 W w1 _ _ _ kk
    obtain ⟨d0, d1⟩ := two_cells hb
    have k1 := (Bl.new W (.cells #[.int .i64 0, .int .u64 0] 41)).trans kk
    have f0 : ∀ i, w1.frozen? ⟨W.heap.size, i, none⟩ = false := fun i => by simp [World.frozen?, hb]
    have f00 := f0 0
    have f01 := f0 1
    have HB := Lib.hid hb; clear hb
    have K1 := Lib.hid k1; clear k1 kk f0
    unfold faultV
    go_wp2_with fail
    (try simp only [Exit.inBlock, Exit.then])
    refine bodyPost_ret (results_cell_row rfl _ _ W.heap.size 41 _ (0, 0) _ rfl (set2 _ _ HB.out) Tryz.underlying41 rfl (by kernel_rfl)) rfl ?_
    exact ⟨rfl, (K1.out.set (Nat.le_refl _) _).set (Nat.le_refl _) _⟩
  have CP := Lib.hid cp; clear cp hn
  unfold addr0 at *
  go_enter Tryz.func14, Tryz.ntmps14
  go_wp2_with fail
  refine (CP.out _).mono ?_
  rintro e w1 ⟨rfl, kk⟩
  have hb := new2 w w1 _ _ _ kk
  have k1 := (Bl.new w (.cells #[.int .i64 0, .int .u64 0] 41)).trans kk
  clear CP kk
  unfold faultV
  have hb2 := (Bl.new w1 (.cells #[.int .i64 2, .int .u64 a] 41)).at_ hb
  obtain ⟨d0, d1⟩ := two_cells hb2
  obtain ⟨d2, d3⟩ := two_cells (heap_alloc_new w1 (.cells #[.int .i64 2, .int .u64 a] 41))
  have f0 : ∀ i, (w1.alloc (.cells #[.int .i64 2, .int .u64 a] 41)).frozen? ⟨w.heap.size, i, none⟩ = false := fun i => by simp [World.frozen?, hb2]
  have f00 := f0 0
  have f01 := f0 1
  have HB2 := Lib.hid hb2; clear hb2
  have K2 := Lib.hid (k1.alloc (.cells #[.int .i64 2, .int .u64 a] 41))
  clear hb k1 f0
  go_wp2_with fail
  (try simp only [Exit.inBlock, Exit.then])
  refine bodyPost_ret (results_cell_row rfl _ _ w.heap.size 41 _ (0, 0) _ rfl (set2 _ _ HB2.out) Tryz.underlying41 rfl (by kernel_rfl)) rfl ?_
  exact ⟨2, a, rfl, ha, (K2.out.set (Nat.le_refl _) _).set (Nat.le_refl _) _⟩
theorem SomeStore.none_ {T : Nat → Prop} {w w' : World} {sb n0 : Nat} {L : List Rg} {M st : Nat → Int} {mo ba en : Int} (h : MS T w sb n0 L M st mo ba en) (k : Bl w w') : SomeStore T w sb n0 L M st mo ba en w' :=
  ⟨M, st, h.bl k, (Rise.refl st).mono fun p ⟨x, _, hx⟩ => absurd rfl hx, Fr.of_bl k⟩
theorem store_some {T : Nat → Prop} {w : World} {sb n0 : Nat} {L : List Rg} {M st : Nat → Int} {mo ba en : Int} (h : MS T w sb n0 L M st mo ba en) (a : Nat) (n x : Int) (ha : a < 2 ^ 64) (hn0 : n0 < 80000000) (hT : ∀ b, w.heap.size ≤ b → T b) :
    Calls Tryz.prog 14 #[addr0 sb, .int .u64 (a : Int), .int .i64 n, .int .u64 x] w fun e w' => (∃ k y, e = .returned (faultV k y) ∧ Wd y) ∧ ∃ n1, n1 ≤ n0 + 9 ∧ ∃ M' st', MS T w' sb n1 L M' st' mo ba en ∧ Rise st st' (fun p => ∃ x : Nat, x / 4096 = p ∧ M' x ≠ M x) ∧ Fr T w w' := by
  by_cases hn : n = 1 ∨ n = 2 ∨ n = 4 ∨ n = 8
  · obtain ⟨m, rfl⟩ := Int.eq_ofNat_of_zero_le (show 0 ≤ n by omega)
    refine (mstore_any h a m x ha (by omega) hn0 hT).mono ?_
    rintro e w' ⟨k, y, rfl, hh⟩
    refine ⟨⟨k, y, rfl, ?_⟩, n0 + 9, Nat.le_refl _, ?_⟩
    · rcases hh with ⟨_, h2, h3, _, h5, _⟩ | ⟨_, rfl, _⟩
      · exact Wd.fault h.so (Wd.nat ha) h2 h3 (by omega) h5
      · exact Wd.zero
    rcases hh with ⟨_, _, _, _, _, kk⟩ | ⟨_, _, _, st', h3, r3, f3⟩
    · exact ⟨M, st, (h.bl kk).mono (by omega), (Rise.refl st).mono fun p ⟨x, _, hx⟩ => absurd rfl hx, Fr.of_bl kk⟩
    · refine ⟨_, st', h3, r3.mono fun p ⟨y, hy, hx⟩ => ?_, f3⟩
      have := lay_ne hx
      rw [putB_length] at this
      exact ⟨y, this.1, this.2, hy.symm⟩
  · refine (store_bad sb a n x hn (Wd.nat ha)).mono ?_
    rintro e w' ⟨k, y, rfl, wd, kk⟩
    exact ⟨⟨k, y, rfl, wd⟩, n0, by omega, SomeStore.none_ h kk⟩
set_option maxHeartbeats 4000000 in
theorem fetch_some {T : Nat → Prop} {w : World} {sb n0 : Nat} {L : List Rg} {M st : Nat → Int} {mo ba en : Int} (h : MS T w sb n0 L M st mo ba en) (a : Nat) (ha : a < 2 ^ 64) :
    Calls Tryz.prog 81 #[addr0 sb, .int .u64 (a : Int)] w (SomeLoad .u32 w) := by
  unfold addr0
  by_cases hodd : (a : Int) % 2 = 0
  · have t1 : ((a : Int) % 2 != 0) = false := by simp [hodd]
    have c1 := half_any (h.bl (Bl.new w (.cells #[.int .i64 0, .int .u64 0] 41))) a ha
    have c2 := fun W (hW : Bl w W) => half_any (h.bl hW) ((a + 2) % 18446744073709551616) (by omega)
    have C1 := Lib.hid c1; clear c1
    have C2 := Lib.hid c2; clear c2 h
    have HOD := Lib.hid hodd; clear hodd
    unfold addr0 at *
    go_enter Tryz.func81, Tryz.ntmps81
    go_wp2_with fail
    refine C1.out.mono ?_
    rintro e w1 ⟨y, k, x, rfl, y0, y1, wd, kk⟩
    have WD := Lib.hid wd; clear wd
    have hb := new2 w w1 _ _ _ kk
    have k1 := (Bl.new w (.cells #[.int .i64 0, .int .u64 0] 41)).trans kk
    clear C1 kk
    have hb2 := (Bl.new w1 (.cells #[.int .i64 k, .int .u64 x] 41)).at_ hb
    have hb3 := heap_alloc_new w1 (.cells #[.int .i64 k, .int .u64 x] 41)
    have K2 := Lib.hid (k1.alloc (.cells #[.int .i64 k, .int .u64 x] 41))
    obtain ⟨d0, d1⟩ := two_cells hb2
    obtain ⟨d2, d3⟩ := two_cells hb3
    have fz : ∀ i, (w1.alloc (.cells #[.int .i64 k, .int .u64 x] 41)).frozen? ⟨w.heap.size, i, none⟩ = false := fun i => by simp [World.frozen?, hb2]
    have f00 := fz 0
    have f01 := fz 1
    have HB2 := Lib.hid hb2
    have HB3 := Lib.hid hb3
    have hlt1 : w.heap.size < w1.heap.size := lt_at hb
    clear hb k1 hb2 hb3 fz
    unfold faultV
    by_cases hk : k = 0
    · subst hk
      by_cases hb : bits .and .u32 y 3 = 3
      · have tb : (bits .and .u32 y 3 != 3) = false := by simp [hb]
        have e2 : IntKind.u64.wrap ((a : Int) + 2) = (((a + 2) % 18446744073709551616 : Nat) : Int) := by rw [IntKind.wrap_u64]; omega
        clear hb
        have E2 := Lib.hid e2; clear e2
        go_wp2_with fail
        rw [E2.out]
        refine (C2.out _ K2.out).mono ?_
        rintro e w2 ⟨y2, k2, x2, rfl, z0, z1, wd2, kk2⟩
        have WD2 := Lib.hid wd2; clear wd2
        have hb4 := kk2.at_ HB2.out
        have hb5 := kk2.at_ HB3.out
        have K4 := Lib.hid (K2.out.trans kk2)
        clear d0 d1 d2 d3 f00 f01 C2 kk2
        obtain ⟨d0, d1⟩ := two_cells hb4
        obtain ⟨d2, d3⟩ := two_cells hb5
        have fz : ∀ i, w2.frozen? ⟨w.heap.size, i, none⟩ = false := fun i => by simp [World.frozen?, hb4]
        have fy : ∀ i, w2.frozen? ⟨w1.heap.size, i, none⟩ = false := fun i => by simp [World.frozen?, hb5]
        have f10 := fy 0
        have f11 := fy 1
        have hne : w.heap.size ≠ w1.heap.size := by omega
        have hb6 : ((w2.setCell ⟨w1.heap.size, 0, none⟩ (.int .i64 k2)).setCell ⟨w1.heap.size, 1, none⟩ (.int .u64 x2)).heap[w.heap.size]? = some (.cells #[.int .i64 0, .int .u64 0] 41 (0, 0)) := by
          rw [Below.heap_setCell _ _ _ _ hne, Below.heap_setCell _ _ _ _ hne]; exact hb4
        have hb7 := set2 (.int .i64 k2) (.int .u64 x2) hb5
        have hsz : w.heap.size ≤ w1.heap.size := by omega
        have K7 := Lib.hid ((K4.out.set (p := ⟨w1.heap.size, 0, none⟩) hsz (.int .i64 k2)).set (p := ⟨w1.heap.size, 1, none⟩) hsz (.int .u64 x2))
        have HB6 := Lib.hid hb6
        have HB7 := Lib.hid hb7
        clear hb6 hb7 hb4 hb5 fz fy
        unfold faultV
        go_upto_region 7 with (fail)
        clear d0 d1 d2 d3 f10 f11
        generalize (w2.setCell ⟨w1.heap.size, 0, none⟩ (.int .i64 k2)).setCell ⟨w1.heap.size, 1, none⟩ (.int .u64 x2) = W at *
        obtain ⟨d0, d1⟩ := two_cells HB6.out
        obtain ⟨d2, d3⟩ := two_cells HB7.out
        have fz : ∀ i, W.frozen? ⟨w.heap.size, i, none⟩ = false := fun i => by simp [World.frozen?, HB6.out]
        have f00 := fz 0
        have f01 := fz 1
        clear fz
        by_cases hk2 : k2 = 0
        · subst hk2
          go_wp2_with fail
          (try simp only [Exit.inBlock, Exit.then])
          refine bodyPost_ret (results_tmp_row rfl _ _ w.heap.size 41 _ (0, 0) _ rfl (set2 _ _ HB6.out) Tryz.underlying41 rfl (by kernel_rfl)) rfl ?_
          exact ⟨_, 0, 0, rfl, (fun e => by cases e), Wd.zero, (K7.out.set (Nat.le_refl _) _).set (Nat.le_refl _) _⟩
        · have tk : (k2 != 0) = true := by simp [hk2]
          clear hk2
          go_wp2_with fail
          go_region
          all_goals (
            (try go_wp2_with fail)
            (try simp only [Exit.inBlock, Exit.then])
            refine bodyPost_ret (results_tmp_row rfl _ _ w.heap.size 41 _ (0, 0) _ rfl (set2 _ _ HB6.out) Tryz.underlying41 rfl (by kernel_rfl)) rfl ?_
            exact ⟨0, k2, x2, rfl, (fun e => by cases e), WD2.out, (K7.out.drew.set (Nat.le_refl _) _).set (Nat.le_refl _) _⟩)
      · have tb : (bits .and .u32 y 3 != 3) = true := by simp [hb]
        clear hb C2
        go_wp2_with fail
        generalize w1.alloc (.cells #[.int .i64 0, .int .u64 x] 41) = W at *
        go_region
        all_goals (
          (try go_wp2_with fail)
          (try simp only [Exit.inBlock, Exit.then])
          refine bodyPost_ret (results_tmp_row rfl _ _ w.heap.size 41 _ (0, 0) _ rfl (set2 _ _ HB2.out) Tryz.underlying41 rfl (by kernel_rfl)) rfl ?_
          exact ⟨y, 0, x, rfl, (fun e => by cases e), WD.out, (K2.out.drew.set (Nat.le_refl _) _).set (Nat.le_refl _) _⟩)
    · have tk : (k != 0) = true := by simp [hk]
      clear hk C2
      go_wp2_with fail
      generalize w1.alloc (.cells #[.int .i64 k, .int .u64 x] 41) = W at *
      go_region
      all_goals (
        (try go_wp2_with fail)
        (try simp only [Exit.inBlock, Exit.then])
        refine bodyPost_ret (results_tmp_row rfl _ _ w.heap.size 41 _ (0, 0) _ rfl (set2 _ _ HB2.out) Tryz.underlying41 rfl (by kernel_rfl)) rfl ?_
        exact ⟨y, k, x, rfl, (fun e => by cases e), WD.out, (K2.out.drew.set (Nat.le_refl _) _).set (Nat.le_refl _) _⟩)
  · have t1 : ((a : Int) % 2 != 0) = true := by simp [hodd]
    clear h
    go_enter Tryz.func81, Tryz.ntmps81
    go_wp2_with fail
    (try simp only [Exit.inBlock, Exit.then])
    refine bodyPost_ret (results_tmp_row rfl _ _ w.heap.size 41 _ (0, 0) _ rfl (heap_alloc_new w _) Tryz.underlying41 rfl (by kernel_rfl)) rfl ?_
    exact ⟨0, 3, a, rfl, (fun e => by cases e), Wd.nat ha, Bl.new _ _⟩
end Go.Proofs.YtbngjbmfkekdnaaGreatDoor
