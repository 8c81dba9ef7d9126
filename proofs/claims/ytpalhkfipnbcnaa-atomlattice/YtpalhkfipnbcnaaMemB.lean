/-
  lay of a space: a span is mapped anew.
-/
import Derived.Test.YtpalhkfipnbcnaaMemA
set_option linter.unusedVariables false
set_option linter.unusedSimpArgs false
namespace Go.Proofs.Ytpalhkfipnbcnaa
open Go.RowKit
set_option maxRecDepth 100000
/-! ### how many places -/
theorem tot_joinOne (L : List Rg) (r : Rg) : tot (joinOne L r) = tot L + (r.e - r.s) := by
  rcases last_cases L with rfl | ⟨A, q, rfl⟩
  · rw [joinOne_nil]; simp [tot]
  · by_cases h : q.e = r.s ∧ q.p = r.p
    · rw [joinOne_yes A q r h.1 h.2, tot_append, tot_append]
      simp only [tot]
      omega
    · rw [joinOne_no A q r h, tot_append]
      simp only [tot]
      omega
theorem tot_join (L M : List Rg) : tot (join L M) = tot L + tot M := by
  induction M generalizing L with
  | nil => simp [join, tot]
  | cons r M ih =>
    have e : join L (r :: M) = join (joinOne L r) M := rfl
    rw [e, ih, tot_joinOne]
    simp only [tot]
    omega
theorem tot_within_cons (r : Rg) (L : List Rg) (a b : Int) : tot (within (r :: L) a b) = max 0 (min r.e b - max r.s a) + tot (within L a b) := by
  unfold within
  rw [List.filterMap_cons]
  by_cases h : max r.s a < min r.e b
  · have e : clip a b r = some ⟨max r.s a, min r.e b, r.p⟩ := by unfold clip; rw [if_pos h]
    rw [e]
    simp only [tot]
    omega
  · have e : clip a b r = none := by unfold clip; rw [if_neg h]
    rw [e]
    show tot (List.filterMap (clip a b) L) = _
    omega
theorem tot_within_add (L : List Rg) (a b c : Int) (h1 : a ≤ b) (h2 : b ≤ c) : tot (within L a b) + tot (within L b c) = tot (within L a c) := by
  induction L with
  | nil => simp [within, tot]
  | cons r L ih =>
    rw [tot_within_cons, tot_within_cons, tot_within_cons]
    omega
theorem tot_within_all {L : List Rg} (h : So 0 274877906944 L) : tot (within L 0 274877906944) = tot L := by
  induction L with
  | nil => simp [within, tot]
  | cons r L ih =>
    rw [tot_within_cons, ih (h.tail.mono (by have := h.2 r (by simp); omega) (Int.le_refl _))]
    have := h.2 r (by simp)
    simp only [tot]
    omega
theorem tot_within_free {L : List Rg} {a b : Int} (h : FreeIn L a b) : tot (within L a b) = 0 := by
  have e : within L a b = [] := by
    rw [List.eq_nil_iff_forall_not_mem]
    intro q hq
    obtain ⟨r, hr, hc⟩ := within_mem.1 hq
    obtain ⟨c1, c2, c3, c4⟩ := clip_some hc
    exact h q.s r.p (by omega) (by omega) ⟨r, hr, by omega, by omega, rfl⟩
  rw [e]; rfl
/-- How many places are mapped when a span is laid. -/
theorem tot_layL {L M : List Rg} {s e : Int} (h : So 0 274877906944 L) (h0 : 0 ≤ s) (h1 : s ≤ e) (h2 : e ≤ 274877906944) : tot (layL L s e M) = tot L - tot (within L s e) + tot M := by
  unfold layL
  rw [tot_join, tot_join, tot_join]
  have a1 := tot_within_add L 0 s e h0 h1
  have a2 := tot_within_add L 0 e 274877906944 (by omega) h2
  have a3 := tot_within_all h
  have a4 : tot ([] : List Rg) = 0 := rfl
  omega
theorem tot_within_le (L : List Rg) (a b : Int) : 0 ≤ tot (within L a b) := by
  induction L with
  | nil => simp [within, tot]
  | cons r L ih => rw [tot_within_cons]; omega
/-! ### lay -/
/-- What a change of bytes leaves: where it ends the stamps have risen. -/
def ClearPost (T : Nat → Prop) (w : World) (sb n : Nat) (L : List Rg) (M st : Nat → Int) (mo ba en : Int) (a b : Nat) (w' : World) : Prop :=
  ∃ st', MS T w' sb (n + 8192) L (wiped M a b) st' mo ba en ∧ Rise st st' (fun p => a ≤ p * 4096 ∧ p * 4096 < b) ∧ Fr T w w'
theorem wiped_bd {M : Nat → Int} (h : ∀ x, 0 ≤ M x ∧ M x ≤ 255) (a b : Nat) : ∀ x, 0 ≤ wiped M a b x ∧ wiped M a b x ≤ 255 := fun x => by
  simp only [wiped]
  split
  · omega
  · exact h x
theorem mclear_any {T : Nat → Prop} {w : World} {sb n : Nat} {L : List Rg} {M st : Nat → Int} {mo ba en : Int} (h : MS T w sb n L M st mo ba en) (a b : Nat) (ha : a % 4096 = 0) (hb : b % 4096 = 0) (hab : a < b) (hbt : b ≤ 274877906944) (hnar : b - a ≤ 16777216) (hn : n < 80000000) (hT : ∀ b, w.heap.size ≤ b → T b) :
    Calls Try.prog 70 #[.pointer (some ⟨sb, 1, none⟩), .int .u64 (a : Int), .int .u64 (b : Int)] w fun e w' => e = .returned (.tuple #[]) ∧ ClearPost T w sb n L M st mo ba en a b w' := by
  obtain ⟨rg, f, k0, h1, h2, h3⟩ := h.ex
  have cc := clear_narrow h1 (a / 4096) (b / 4096 - 1) (by omega) (by omega) (by omega) hn (off_new h2 hT)
  rw [show a / 4096 * 4096 = a by omega, show (b / 4096 - 1 + 1) * 4096 = b by omega] at cc
  refine cc.mono ?_
  rintro e w' ⟨rfl, ⟨k', st', h4, _, hr⟩, hf⟩
  exact ⟨rfl, st', h.stored h2 h3 h4 hf (wiped_bd h.by_ a b), hr.mono fun p hp => by omega, hf.off_of⟩
theorem keepM {w w8 w9 : World} {p : Addr} {v : Value} (h : w8.cell? p = some v ∧ Bl w w8) (k : Bl w8 w9) : w9.cell? p = some v ∧ Bl w w9 := ⟨k.cell' h.1, h.2.trans k⟩
/-- The end of a lay that may be. -/
def MLayPost (T : Nat → Prop) (w : World) (sb n : Nat) (L : List Rg) (M st : Nat → Int) (mo ba en : Int) (a b : Nat) (e : Ending) (w' : World) : Prop :=
  e = .returned (.int .i64 0) ∧ ClearPost T w sb n L M st mo ba en a b w'
set_option maxHeartbeats 4000000 in
theorem mlay_ok {T : Nat → Prop} {w : World} {sb n : Nat} {L : List Rg} {M st : Nat → Int} {mo ba en : Int} (h : MS T w sb n L M st mo ba en) (a b : Nat) (p : Int) (hs : Span (a : Int) (b : Int)) (hp0 : 0 ≤ p) (hp1 : p ≤ 7)
    (hc : (layL L a b [⟨a, b, p⟩]).length ≤ 256) (ht : tot (layL L a b [⟨a, b, p⟩]) ≤ mo * 4096) (hn : n < 80000000) (hT : ∀ b, w.heap.size ≤ b → T b) :
    Calls Try.prog 49 #[addr0 sb, .int .u64 (a : Int), .int .u64 (b : Int), .int .i64 p] w (MLayPost T w sb n (layL L a b [⟨a, b, p⟩]) M st mo ba en a b) := by
  have hrs : Rs (layL L a b [⟨a, b, p⟩]) := h.rs.lay (by omega) hs
  obtain ⟨X, hX⟩ := h.list
  have ccp := copy_any hX (by have := h.few; omega)
  have htl := tot_layL (M := [⟨a, b, p⟩]) h.so (show (0 : Int) ≤ a by omega) (Int.le_of_lt hs.2.2.1) hs.2.2.2
  have hwl := So.tot_le (within_so h.so (a := 0) (b := (a : Int))) (by omega)
  have hnar : b - a ≤ 16777216 := by
    have h1 := h.mo_
    have h2 := tot_within_add L 0 a b (by omega) (Int.le_of_lt hs.2.2.1)
    have h3 := tot_within_add L 0 b 274877906944 (by omega) hs.2.2.2
    have h4 := tot_within_all h.so
    have h5 := tot_within_le L b 274877906944
    have h6 := tot_within_le L 0 a
    simp only [tot] at htl
    omega
  have hpg : tot (layL L a b [⟨a, b, p⟩]) / 4096 ≤ mo := by omega
  have hs1 := hs.1
  have hs2 := hs.2.1
  have hs3 := hs.2.2.1
  have hs4 := hs.2.2.2
  have HSP := Lib.hid hs; clear hs
  have HX := Lib.hid hX; clear hX
  have HRS := Lib.hid hrs; clear hrs
  have HC := Lib.hid hc; clear hc
  have H := Lib.hid h; clear h
  have HT := Lib.hid hT; clear hT
  have HF := Lib.hid H.out.few
  have CCP := Lib.hid ccp; clear ccp htl hwl ht
  obtain ⟨L', hL'⟩ : ∃ L', L' = layL L a b [⟨a, b, p⟩] := ⟨_, rfl⟩
  rw [← hL'] at hpg HRS HC ⊢
  have HL' := Lib.hid hL'; clear hL'
  have HHS := Lib.hid (⟨hs1, hs2, hs3, hs4⟩ : (a : Int) % 4096 = 0 ∧ (b : Int) % 4096 = 0 ∧ (a : Int) < b ∧ (b : Int) ≤ 274877906944)
  clear hs1 hs2 hs3 hs4
  unfold addr0 at *
  go_enter Try.func49, Try.ntmps49
  go_wp2_with fail
  refine CCP.out.mono ?_
  rintro e w1 ⟨nb, rfl, hnb, l1, k1⟩
  unfold addr0
  clear CCP
  have L1 := Lib.hid l1; clear l1
  have K1 := Lib.hid k1; clear k1
  have HNB := Lib.hid hnb; clear hnb
  go_wp2_with fail
  have cm := map_ok L1.out.at0 (a : Int) (b : Int) p (by omega) HSP.out hp0 hp1 HF.out (by rw [← HL'.out]; exact HC.out)
  unfold addr0 at cm
  rw [← HL'.out] at cm
  refine cm.mono ?_
  rintro e w2 ⟨rfl, l2, f2⟩
  have k2 : Bl w w2 := Fr.only_new K1.out f2 HNB.out
  have L2 := Lib.hid l2; clear l2
  have K2 := Lib.hid k2; clear k2 f2 cm
  obtain ⟨m0, m1, m2⟩ := (H.out.bl K2.out).cells
  have cp := fun W (hW : Bl w2 W) => pages_any (L2.out.bl hW).at0 HRS.out.nm.so (by have := HC.out; omega)
  have CP := Lib.hid cp; clear cp m1 m2
  have hS : w2.cell? ⟨sb, 5, none⟩ = some (.int .i64 mo) ∧ Bl w2 w2 := ⟨m0, Bl.refl _⟩
  have HS := Lib.hid hS; clear hS m0
  unfold addr0 at CP
  generalize tot L' / 4096 = q at *
  go_wp2_with fail
  go_region_held3 (fun w' => w'.cell? ⟨sb, 5, none⟩ = some (.int .i64 mo) ∧ Bl w2 w') (first | assumption | exact HS.out | exact keepM HS.out ((Bl.refl w2).drewN 1)) ((go_at_call 69; refine (CP.out _ (by first | exact HS.out.2 | exact And.right (a := World.cell? _ ⟨sb, 5, none⟩ = some (.int .i64 mo)) (by assumption))).mono ?_; rintro e w9 ⟨rfl, k9⟩; have hkk := keepM (by first | assumption | exact HS.out) k9))
  all_goals (
    have hL9 := L2.out.bl hkk.2
    have k9' := K2.out.trans hkk.2
    obtain ⟨v, hvb, hvr⟩ := hL9
    obtain ⟨A, cap, hv⟩ := hvr.shape
    subst hv
    have d0 : w9.cell? ⟨nb, 0, none⟩ = some (.slice A L'.length cap) := by rw [cell_of_row w9 nb 0 _ _ (0, 0) hvb]; simp
    have d1 := (H.out.bl k9').free 0
    obtain ⟨v0, d2⟩ := (H.out.bl k9').cell0
    have r9 : Row w9 w.heap.size (.slice A L'.length cap) L' := hvr.base_ (fun g hg => Nat.le_trans K1.out.size (hvr.lt g hg).1)
    have h10 := H.out.laid HX.out ((HX.out.bl k9').set r9) ((Fr.of_bl k9').trans (Fr.set (show only sb sb from rfl) _)) HRS.out HC.out HT.out
    have f10 : Fr T w (w9.setCell ⟨sb, 0, none⟩ (.slice A L'.length cap)) := (Fr.of_bl k9').trans (Fr.set H.out.own _)
    have H10 := Lib.hid h10
    have F10 := Lib.hid f10
    have D0 := Lib.hid d0
    clear h10 f10 hvb hvr r9
    have hN := hn
    clear hkk HS
    go_wp2_with fail
    refine (mclear_any H10.out a b (by have := HHS.out; omega) (by have := HHS.out; omega) (by have := HHS.out; omega) (by have := HHS.out; omega) hnar hn (fun b hb => HT.out b (Nat.le_trans F10.out.size hb))).mono ?_
    rintro e w11 ⟨rfl, st', h11, hr11, f11⟩
    have H11 := Lib.hid h11; clear h11
    have R11 := Lib.hid hr11; clear hr11
    have F11 := Lib.hid f11; clear f11
    clear d0 d1 d2 k9'
    go_wp2_with fail
    go_ret
    exact ⟨rfl, st', H11.out, R11.out, F10.out.trans F11.out⟩)
set_option maxHeartbeats 4000000 in
theorem mlay_many {T : Nat → Prop} {w : World} {sb n : Nat} {L : List Rg} {M st : Nat → Int} {mo ba en : Int} (h : MS T w sb n L M st mo ba en) (a b : Nat) (p : Int) (hs : Span (a : Int) (b : Int)) (hp0 : 0 ≤ p) (hp1 : p ≤ 7)
    (hc : 256 < (layL L a b [⟨a, b, p⟩]).length) :
    Calls Try.prog 49 #[addr0 sb, .int .u64 (a : Int), .int .u64 (b : Int), .int .i64 p] w (NoPost w 12) := by
  obtain ⟨X, hX⟩ := h.list
  have ccp := copy_any hX (by have := h.few; omega)
  have HF := Lib.hid h.few
  have CCP := Lib.hid ccp; clear ccp hX h
  have HSP := Lib.hid hs; clear hs
  have HC := Lib.hid hc; clear hc
  unfold addr0 at *
  go_enter Try.func49, Try.ntmps49
  go_wp2_with fail
  refine CCP.out.mono ?_
  rintro e w1 ⟨nb, rfl, hnb, l1, k1⟩
  unfold addr0
  have L1 := Lib.hid l1; clear l1
  have K1 := Lib.hid k1; clear k1 hnb CCP
  go_wp2_with fail
  have cm := map_many L1.out.at0 (a : Int) (b : Int) p (by omega) HSP.out hp0 hp1 HF.out HC.out
  unfold addr0 at cm
  refine cm.mono ?_
  rintro e w2 ⟨rfl, k2⟩
  have K2 := Lib.hid (K1.out.trans k2); clear k2 cm
  go_wp2_with fail
  go_ret
  exact ⟨rfl, K2.out⟩
set_option maxHeartbeats 4000000 in
theorem mlay_full {T : Nat → Prop} {w : World} {sb n : Nat} {L : List Rg} {M st : Nat → Int} {mo ba en : Int} (h : MS T w sb n L M st mo ba en) (a b : Nat) (p : Int) (hs : Span (a : Int) (b : Int)) (hp0 : 0 ≤ p) (hp1 : p ≤ 7)
    (hc : (layL L a b [⟨a, b, p⟩]).length ≤ 256) (ht : mo * 4096 < tot (layL L a b [⟨a, b, p⟩])) :
    Calls Try.prog 49 #[addr0 sb, .int .u64 (a : Int), .int .u64 (b : Int), .int .i64 p] w (NoPost w 12) := by
  have hrs : Rs (layL L a b [⟨a, b, p⟩]) := h.rs.lay (by omega) hs
  obtain ⟨X, hX⟩ := h.list
  have ccp := copy_any hX (by have := h.few; omega)
  have hpg : mo < tot (layL L a b [⟨a, b, p⟩]) / 4096 := by have := hrs.al.tot; omega
  have HSP := Lib.hid hs; clear hs
  have HRS := Lib.hid hrs; clear hrs
  have HC := Lib.hid hc; clear hc
  have HF := Lib.hid h.few
  have H := Lib.hid h; clear h
  have CCP := Lib.hid ccp; clear ccp ht hX
  obtain ⟨L', hL'⟩ : ∃ L', L' = layL L a b [⟨a, b, p⟩] := ⟨_, rfl⟩
  rw [← hL'] at hpg HRS HC
  have HL' := Lib.hid hL'; clear hL'
  unfold addr0 at *
  go_enter Try.func49, Try.ntmps49
  go_wp2_with fail
  refine CCP.out.mono ?_
  rintro e w1 ⟨nb, rfl, hnb, l1, k1⟩
  unfold addr0
  clear CCP
  have L1 := Lib.hid l1; clear l1
  have K1 := Lib.hid k1; clear k1
  have HNB := Lib.hid hnb; clear hnb
  go_wp2_with fail
  have cm := map_ok L1.out.at0 (a : Int) (b : Int) p (by omega) HSP.out hp0 hp1 HF.out (by rw [← HL'.out]; exact HC.out)
  unfold addr0 at cm
  rw [← HL'.out] at cm
  refine cm.mono ?_
  rintro e w2 ⟨rfl, l2, f2⟩
  have k2 : Bl w w2 := Fr.only_new K1.out f2 HNB.out
  have L2 := Lib.hid l2; clear l2
  have K2 := Lib.hid k2; clear k2 f2 cm
  obtain ⟨m0, m1, m2⟩ := (H.out.bl K2.out).cells
  have cp := fun W (hW : Bl w2 W) => pages_any (L2.out.bl hW).at0 HRS.out.nm.so (by have := HC.out; omega)
  have CP := Lib.hid cp; clear cp m1 m2
  have hS : w2.cell? ⟨sb, 5, none⟩ = some (.int .i64 mo) ∧ Bl w2 w2 := ⟨m0, Bl.refl _⟩
  have HS := Lib.hid hS; clear hS m0
  unfold addr0 at CP
  generalize tot L' / 4096 = q at *
  go_wp2_with fail
  go_region_held3 (fun w' => w'.cell? ⟨sb, 5, none⟩ = some (.int .i64 mo) ∧ Bl w2 w') (first | assumption | exact HS.out | exact keepM HS.out ((Bl.refl w2).drewN 1)) ((go_at_call 69; refine (CP.out _ (by first | exact HS.out.2 | exact And.right (a := World.cell? _ ⟨sb, 5, none⟩ = some (.int .i64 mo)) (by assumption))).mono ?_; rintro e w9 ⟨rfl, k9⟩; have hkk := keepM (by first | assumption | exact HS.out) k9))
  all_goals (
    have k9' := K2.out.trans hkk.2
    have K9 := Lib.hid k9'; clear k9' hkk HS
    go_wp2_with fail
    go_ret
    exact ⟨rfl, K9.out⟩)
set_option maxHeartbeats 4000000 in
theorem mlay_no {T : Nat → Prop} {w : World} {sb n : Nat} {L : List Rg} {M st : Nat → Int} {mo ba en : Int} (h : MS T w sb n L M st mo ba en) (a b p : Int) (h0 : 0 ≤ a) (h1 : a ≤ 18446744073709551615) (h2 : 0 ≤ b) (h3 : b ≤ 18446744073709551615) (hs : ¬ (Span a b ∧ 0 ≤ p ∧ p ≤ 7)) :
    Calls Try.prog 49 #[addr0 sb, .int .u64 a, .int .u64 b, .int .i64 p] w (NoPost w 22) := by
  obtain ⟨X, hX⟩ := h.list
  have ccp := copy_any hX (by have := h.few; omega)
  have CCP := Lib.hid ccp; clear ccp hX h
  have cm := fun W nb => map_no (w := W) nb a b p h0 h1 h2 h3 hs
  have CM := Lib.hid cm; clear cm hs
  unfold addr0 at *
  go_enter Try.func49, Try.ntmps49
  go_wp2_with fail
  refine CCP.out.mono ?_
  rintro e w1 ⟨nb, rfl, hnb, l1, k1⟩
  unfold addr0
  have K1 := Lib.hid k1; clear k1 hnb CCP l1
  go_wp2_with fail
  refine (CM.out _ _).mono ?_
  rintro e w2 ⟨rfl, k2⟩
  have K2 := Lib.hid (K1.out.trans k2); clear k2 CM
  go_wp2_with fail
  go_ret
  exact ⟨rfl, K2.out⟩
end Go.Proofs.Ytpalhkfipnbcnaa
