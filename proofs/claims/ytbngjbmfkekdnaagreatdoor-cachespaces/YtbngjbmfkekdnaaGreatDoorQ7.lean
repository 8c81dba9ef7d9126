/-
  lay of a space: a span is mapped anew.
  Which places lack what is asked; faults; numbers that are loaded and stored; bytes that are peeked at.
  Store of a space.
  find, Map.
  Pages of a space; what a program that does nothing does not answer.
  Touch of a store.
-/
import Derived.Test.YtbngjbmfkekdnaaGreatDoorQ6
import Derived.Deep.RegionWith
set_option linter.unusedVariables false
set_option linter.unusedSimpArgs false
namespace Go.Proofs.YtbngjbmfkekdnaaGreatDoor
open Go.RowKit
set_option maxRecDepth 100000
/-! ### how many places -/
theorem tot_joinOne (L : List Rg) (r : Rg) : tot (joinOne L r) = tot L + (r.e - r.s) := by
  rcases last_cases L with rfl | ⟨A, q, rfl⟩
  · rw [joinOne_nil]; simp [tot]
  · by_cases h : q.e = r.s ∧ q.p = r.p
    · rw [joinOne_yes A q r h.1 h.2, tot_append, tot_append]
      simp only [tot]
      omega
    · rw [joinOne_no A q r h, tot_append]
      simp only [tot]
      omega
theorem tot_join (L M : List Rg) : tot (join L M) = tot L + tot M := by
  induction M generalizing L with
  | nil => simp [join, tot]
  | cons r M ih =>
    have e : join L (r :: M) = join (joinOne L r) M := rfl
    rw [e, ih, tot_joinOne]
    simp only [tot]
    omega
theorem tot_within_cons (r : Rg) (L : List Rg) (a b : Int) : tot (within (r :: L) a b) = max 0 (min r.e b - max r.s a) + tot (within L a b) := by
  unfold within
  rw [List.filterMap_cons]
  by_cases h : max r.s a < min r.e b
  · have e : clip a b r = some ⟨max r.s a, min r.e b, r.p⟩ := by unfold clip; rw [if_pos h]
    rw [e]
    simp only [tot]
    omega
  · have e : clip a b r = none := by unfold clip; rw [if_neg h]
    rw [e]
    show tot (List.filterMap (clip a b) L) = _
    omega
theorem tot_within_add (L : List Rg) (a b c : Int) (h1 : a ≤ b) (h2 : b ≤ c) : tot (within L a b) + tot (within L b c) = tot (within L a c) := by
  induction L with
  | nil => simp [within, tot]
  | cons r L ih =>
    rw [tot_within_cons, tot_within_cons, tot_within_cons]
    omega
theorem tot_within_all {L : List Rg} (h : So 0 274877906944 L) : tot (within L 0 274877906944) = tot L := by
  induction L with
  | nil => simp [within, tot]
  | cons r L ih =>
    rw [tot_within_cons, ih (h.tail.mono (by have := h.2 r (by simp); omega) (Int.le_refl _))]
    have := h.2 r (by simp)
    simp only [tot]
    omega
theorem tot_within_free {L : List Rg} {a b : Int} (h : FreeIn L a b) : tot (within L a b) = 0 := by
  have e : within L a b = [] := by
    rw [List.eq_nil_iff_forall_not_mem]
    intro q hq
    obtain ⟨r, hr, hc⟩ := within_mem.1 hq
    obtain ⟨c1, c2, c3, c4⟩ := clip_some hc
    exact h q.s r.p (by omega) (by omega) ⟨r, hr, by omega, by omega, rfl⟩
  rw [e]; rfl
/-- How many places are mapped when a span is laid. -/
theorem tot_layL {L M : List Rg} {s e : Int} (h : So 0 274877906944 L) (h0 : 0 ≤ s) (h1 : s ≤ e) (h2 : e ≤ 274877906944) : tot (layL L s e M) = tot L - tot (within L s e) + tot M := by
  unfold layL
  rw [tot_join, tot_join, tot_join]
  have a1 := tot_within_add L 0 s e h0 h1
  have a2 := tot_within_add L 0 e 274877906944 (by omega) h2
  have a3 := tot_within_all h
  have a4 : tot ([] : List Rg) = 0 := rfl
  omega
theorem tot_within_le (L : List Rg) (a b : Int) : 0 ≤ tot (within L a b) := by
  induction L with
  | nil => simp [within, tot]
  | cons r L ih => rw [tot_within_cons]; omega
/-! ### lay -/
/-- What a change of bytes leaves: where it ends the stamps have risen. -/
def ClearPost (T : Nat → Prop) (w : World) (sb n : Nat) (L : List Rg) (M st : Nat → Int) (mo ba en : Int) (a b : Nat) (w' : World) : Prop :=
  ∃ st', MS T w' sb (n + 8192) L (wiped M a b) st' mo ba en ∧ Rise st st' (fun p => a ≤ p * 4096 ∧ p * 4096 < b) ∧ Fr T w w'
theorem wiped_bd {M : Nat → Int} (h : ∀ x, 0 ≤ M x ∧ M x ≤ 255) (a b : Nat) : ∀ x, 0 ≤ wiped M a b x ∧ wiped M a b x ≤ 255 := fun x => by
  simp only [wiped]
  split
  · omega
  · exact h x
theorem mclear_any {T : Nat → Prop} {w : World} {sb n : Nat} {L : List Rg} {M st : Nat → Int} {mo ba en : Int} (h : MS T w sb n L M st mo ba en) (a b : Nat) (ha : a % 4096 = 0) (hb : b % 4096 = 0) (hab : a < b) (hbt : b ≤ 274877906944) (hnar : b - a ≤ 16777216) (hn : n < 80000000) (hT : ∀ b, w.heap.size ≤ b → T b) :
    Calls Tryz.prog 43 #[.pointer (some ⟨sb, 1, none⟩), .int .u64 (a : Int), .int .u64 (b : Int)] w fun e w' => e = .returned (.tuple #[]) ∧ ClearPost T w sb n L M st mo ba en a b w' := by
  obtain ⟨rg, f, k0, h1, h2, h3⟩ := h.ex
  have cc := clear_narrow h1 (a / 4096) (b / 4096 - 1) (by omega) (by omega) (by omega) hn (off_new h2 hT)
  rw [show a / 4096 * 4096 = a by omega, show (b / 4096 - 1 + 1) * 4096 = b by omega] at cc
  refine cc.mono ?_
  rintro e w' ⟨rfl, ⟨k', st', h4, _, hr⟩, hf⟩
  exact ⟨rfl, st', h.stored h2 h3 h4 hf (wiped_bd h.by_ a b), hr.mono fun p hp => by omega, hf.off_of⟩
theorem keepM {w w8 w9 : World} {p : Addr} {v : Value} (h : w8.cell? p = some v ∧ Bl w w8) (k : Bl w8 w9) : w9.cell? p = some v ∧ Bl w w9 := ⟨k.cell' h.1, h.2.trans k⟩
/-- The end of a lay that may be. -/
def MLayPost (T : Nat → Prop) (w : World) (sb n : Nat) (L : List Rg) (M st : Nat → Int) (mo ba en : Int) (a b : Nat) (e : Ending) (w' : World) : Prop :=
  e = .returned (.int .i64 0) ∧ ClearPost T w sb n L M st mo ba en a b w'
set_option maxHeartbeats 4000000 in
theorem mlay_ok {T : Nat → Prop} {w : World} {sb n : Nat} {L : List Rg} {M st : Nat → Int} {mo ba en : Int} (h : MS T w sb n L M st mo ba en) (a b : Nat) (p : Int) (hs : Span (a : Int) (b : Int)) (hp0 : 0 ≤ p) (hp1 : p ≤ 7)
    (hc : (layL L a b [⟨a, b, p⟩]).length ≤ 256) (ht : tot (layL L a b [⟨a, b, p⟩]) ≤ mo * 4096) (hn : n < 80000000) (hT : ∀ b, w.heap.size ≤ b → T b) :
    Calls Tryz.prog 28 #[addr0 sb, .int .u64 (a : Int), .int .u64 (b : Int), .int .i64 p] w (MLayPost T w sb n (layL L a b [⟨a, b, p⟩]) M st mo ba en a b) := by
  have hrs : Rs (layL L a b [⟨a, b, p⟩]) := h.rs.lay (by omega) hs
  obtain ⟨X, hX⟩ := h.list
  have ccp := copy_any hX (by have := h.few; omega)
  have htl := tot_layL (M := [⟨a, b, p⟩]) h.so (show (0 : Int) ≤ a by omega) (Int.le_of_lt hs.2.2.1) hs.2.2.2
  have hwl := So.tot_le (within_so h.so (a := 0) (b := (a : Int))) (by omega)
  have hnar : b - a ≤ 16777216 := by
    have h1 := h.mo_
    have h2 := tot_within_add L 0 a b (by omega) (Int.le_of_lt hs.2.2.1)
    have h3 := tot_within_add L 0 b 274877906944 (by omega) hs.2.2.2
    have h4 := tot_within_all h.so
    have h5 := tot_within_le L b 274877906944
    have h6 := tot_within_le L 0 a
    simp only [tot] at htl
    omega
  have hpg : tot (layL L a b [⟨a, b, p⟩]) / 4096 ≤ mo := by omega
  have hs1 := hs.1
  have hs2 := hs.2.1
  have hs3 := hs.2.2.1
  have hs4 := hs.2.2.2
  have HSP := Lib.hid hs; clear hs
  have HX := Lib.hid hX; clear hX
  have HRS := Lib.hid hrs; clear hrs
  have HC := Lib.hid hc; clear hc
  have H := Lib.hid h; clear h
  have HT := Lib.hid hT; clear hT
  have HF := Lib.hid H.out.few
  have CCP := Lib.hid ccp; clear ccp htl hwl ht
  obtain ⟨L', hL'⟩ : ∃ L', L' = layL L a b [⟨a, b, p⟩] := ⟨_, rfl⟩
  rw [← hL'] at hpg HRS HC ⊢
  have HL' := Lib.hid hL'; clear hL'
  have HHS := Lib.hid (⟨hs1, hs2, hs3, hs4⟩ : (a : Int) % 4096 = 0 ∧ (b : Int) % 4096 = 0 ∧ (a : Int) < b ∧ (b : Int) ≤ 274877906944)
  clear hs1 hs2 hs3 hs4
  unfold addr0 at *
  go_enter Tryz.func28, Tryz.ntmps28
  go_wp2_with fail
  refine CCP.out.mono ?_
  rintro e w1 ⟨nb, rfl, hnb, l1, k1⟩
  unfold addr0
  clear CCP
  have L1 := Lib.hid l1; clear l1
  have K1 := Lib.hid k1; clear k1
  have HNB := Lib.hid hnb; clear hnb
  go_wp2_with fail
  have cm := map_ok L1.out.at0 (a : Int) (b : Int) p (by omega) HSP.out hp0 hp1 HF.out (by rw [← HL'.out]; exact HC.out)
  unfold addr0 at cm
  rw [← HL'.out] at cm
  refine cm.mono ?_
  rintro e w2 ⟨rfl, l2, f2⟩
  have k2 : Bl w w2 := Fr.only_new K1.out f2 HNB.out
  have L2 := Lib.hid l2; clear l2
  have K2 := Lib.hid k2; clear k2 f2 cm
  obtain ⟨m0, m1, m2⟩ := (H.out.bl K2.out).cells
  have cp := fun W (hW : Bl w2 W) => pages_any (L2.out.bl hW).at0 HRS.out.nm.so (by have := HC.out; omega)
  have CP := Lib.hid cp; clear cp m1 m2
  have hS : w2.cell? ⟨sb, 5, none⟩ = some (.int .i64 mo) ∧ Bl w2 w2 := ⟨m0, Bl.refl _⟩
  have HS := Lib.hid hS; clear hS m0
  unfold addr0 at CP
  generalize tot L' / 4096 = q at *
  go_wp2_with fail
  go_region_held3 (fun w' => w'.cell? ⟨sb, 5, none⟩ = some (.int .i64 mo) ∧ Bl w2 w') (first | assumption | exact HS.out | exact keepM HS.out ((Bl.refl w2).drewN 1)) ((go_at_call 56; refine (CP.out _ (by first | exact HS.out.2 | exact And.right (a := World.cell? _ ⟨sb, 5, none⟩ = some (.int .i64 mo)) (by assumption))).mono ?_; rintro e w9 ⟨rfl, k9⟩; have hkk := keepM (by first | assumption | exact HS.out) k9))
  all_goals (
    have hL9 := L2.out.bl hkk.2
    have k9' := K2.out.trans hkk.2
    obtain ⟨v, hvb, hvr⟩ := hL9
    obtain ⟨A, cap, hv⟩ := hvr.shape
    subst hv
    have d0 : w9.cell? ⟨nb, 0, none⟩ = some (.slice A L'.length cap) := by rw [cell_of_row w9 nb 0 _ _ (0, 0) hvb]; simp
    have d1 := (H.out.bl k9').free 0
    obtain ⟨v0, d2⟩ := (H.out.bl k9').cell0
    have r9 : Row w9 w.heap.size (.slice A L'.length cap) L' := hvr.base_ (fun g hg => Nat.le_trans K1.out.size (hvr.lt g hg).1)
    have h10 := H.out.laid HX.out ((HX.out.bl k9').set r9) ((Fr.of_bl k9').trans (Fr.set (show only sb sb from rfl) _)) HRS.out HC.out HT.out
    have f10 : Fr T w (w9.setCell ⟨sb, 0, none⟩ (.slice A L'.length cap)) := (Fr.of_bl k9').trans (Fr.set H.out.own _)
    have H10 := Lib.hid h10
    have F10 := Lib.hid f10
    have D0 := Lib.hid d0
    clear h10 f10 hvb hvr r9
    have hN := hn
    clear hkk HS
    go_wp2_with fail
    refine (mclear_any H10.out a b (by have := HHS.out; omega) (by have := HHS.out; omega) (by have := HHS.out; omega) (by have := HHS.out; omega) hnar hn (fun b hb => HT.out b (Nat.le_trans F10.out.size hb))).mono ?_
    rintro e w11 ⟨rfl, st', h11, hr11, f11⟩
    have H11 := Lib.hid h11; clear h11
    have R11 := Lib.hid hr11; clear hr11
    have F11 := Lib.hid f11; clear f11
    clear d0 d1 d2 k9'
    go_wp2_with fail
    go_ret
    exact ⟨rfl, st', H11.out, R11.out, F10.out.trans F11.out⟩)
set_option maxHeartbeats 4000000 in
theorem mlay_many {T : Nat → Prop} {w : World} {sb n : Nat} {L : List Rg} {M st : Nat → Int} {mo ba en : Int} (h : MS T w sb n L M st mo ba en) (a b : Nat) (p : Int) (hs : Span (a : Int) (b : Int)) (hp0 : 0 ≤ p) (hp1 : p ≤ 7)
    (hc : 256 < (layL L a b [⟨a, b, p⟩]).length) :
    Calls Tryz.prog 28 #[addr0 sb, .int .u64 (a : Int), .int .u64 (b : Int), .int .i64 p] w (NoPost w 12) := by
  obtain ⟨X, hX⟩ := h.list
  have ccp := copy_any hX (by have := h.few; omega)
  have HF := Lib.hid h.few
  have CCP := Lib.hid ccp; clear ccp hX h
  have HSP := Lib.hid hs; clear hs
  have HC := Lib.hid hc; clear hc
  unfold addr0 at *
  go_enter Tryz.func28, Tryz.ntmps28
  go_wp2_with fail
  refine CCP.out.mono ?_
  rintro e w1 ⟨nb, rfl, hnb, l1, k1⟩
  unfold addr0
  have L1 := Lib.hid l1; clear l1
  have K1 := Lib.hid k1; clear k1 hnb CCP
  go_wp2_with fail
  have cm := map_many L1.out.at0 (a : Int) (b : Int) p (by omega) HSP.out hp0 hp1 HF.out HC.out
  unfold addr0 at cm
  refine cm.mono ?_
  rintro e w2 ⟨rfl, k2⟩
  have K2 := Lib.hid (K1.out.trans k2); clear k2 cm
  go_wp2_with fail
  go_ret
  exact ⟨rfl, K2.out⟩
set_option maxHeartbeats 4000000 in
theorem mlay_full {T : Nat → Prop} {w : World} {sb n : Nat} {L : List Rg} {M st : Nat → Int} {mo ba en : Int} (h : MS T w sb n L M st mo ba en) (a b : Nat) (p : Int) (hs : Span (a : Int) (b : Int)) (hp0 : 0 ≤ p) (hp1 : p ≤ 7)
    (hc : (layL L a b [⟨a, b, p⟩]).length ≤ 256) (ht : mo * 4096 < tot (layL L a b [⟨a, b, p⟩])) :
    Calls Tryz.prog 28 #[addr0 sb, .int .u64 (a : Int), .int .u64 (b : Int), .int .i64 p] w (NoPost w 12) := by
  have hrs : Rs (layL L a b [⟨a, b, p⟩]) := h.rs.lay (by omega) hs
  obtain ⟨X, hX⟩ := h.list
  have ccp := copy_any hX (by have := h.few; omega)
  have hpg : mo < tot (layL L a b [⟨a, b, p⟩]) / 4096 := by have := hrs.al.tot; omega
  have HSP := Lib.hid hs; clear hs
  have HRS := Lib.hid hrs; clear hrs
  have HC := Lib.hid hc; clear hc
  have HF := Lib.hid h.few
  have H := Lib.hid h; clear h
  have CCP := Lib.hid ccp; clear ccp ht hX
  obtain ⟨L', hL'⟩ : ∃ L', L' = layL L a b [⟨a, b, p⟩] := ⟨_, rfl⟩
  rw [← hL'] at hpg HRS HC
  have HL' := Lib.hid hL'; clear hL'
  unfold addr0 at *
  go_enter Tryz.func28, Tryz.ntmps28
  go_wp2_with fail
  refine CCP.out.mono ?_
  rintro e w1 ⟨nb, rfl, hnb, l1, k1⟩
  unfold addr0
  clear CCP
  have L1 := Lib.hid l1; clear l1
  have K1 := Lib.hid k1; clear k1
  have HNB := Lib.hid hnb; clear hnb
  go_wp2_with fail
  have cm := map_ok L1.out.at0 (a : Int) (b : Int) p (by omega) HSP.out hp0 hp1 HF.out (by rw [← HL'.out]; exact HC.out)
  unfold addr0 at cm
  rw [← HL'.out] at cm
  refine cm.mono ?_
  rintro e w2 ⟨rfl, l2, f2⟩
  have k2 : Bl w w2 := Fr.only_new K1.out f2 HNB.out
  have L2 := Lib.hid l2; clear l2
  have K2 := Lib.hid k2; clear k2 f2 cm
  obtain ⟨m0, m1, m2⟩ := (H.out.bl K2.out).cells
  have cp := fun W (hW : Bl w2 W) => pages_any (L2.out.bl hW).at0 HRS.out.nm.so (by have := HC.out; omega)
  have CP := Lib.hid cp; clear cp m1 m2
  have hS : w2.cell? ⟨sb, 5, none⟩ = some (.int .i64 mo) ∧ Bl w2 w2 := ⟨m0, Bl.refl _⟩
  have HS := Lib.hid hS; clear hS m0
  unfold addr0 at CP
  generalize tot L' / 4096 = q at *
  go_wp2_with fail
  go_region_held3 (fun w' => w'.cell? ⟨sb, 5, none⟩ = some (.int .i64 mo) ∧ Bl w2 w') (first | assumption | exact HS.out | exact keepM HS.out ((Bl.refl w2).drewN 1)) ((go_at_call 56; refine (CP.out _ (by first | exact HS.out.2 | exact And.right (a := World.cell? _ ⟨sb, 5, none⟩ = some (.int .i64 mo)) (by assumption))).mono ?_; rintro e w9 ⟨rfl, k9⟩; have hkk := keepM (by first | assumption | exact HS.out) k9))
  all_goals (
    have k9' := K2.out.trans hkk.2
    have K9 := Lib.hid k9'; clear k9' hkk HS
    go_wp2_with fail
    go_ret
    exact ⟨rfl, K9.out⟩)
set_option maxHeartbeats 4000000 in
theorem mlay_no {T : Nat → Prop} {w : World} {sb n : Nat} {L : List Rg} {M st : Nat → Int} {mo ba en : Int} (h : MS T w sb n L M st mo ba en) (a b p : Int) (h0 : 0 ≤ a) (h1 : a ≤ 18446744073709551615) (h2 : 0 ≤ b) (h3 : b ≤ 18446744073709551615) (hs : ¬ (Span a b ∧ 0 ≤ p ∧ p ≤ 7)) :
    Calls Tryz.prog 28 #[addr0 sb, .int .u64 a, .int .u64 b, .int .i64 p] w (NoPost w 22) := by
  obtain ⟨X, hX⟩ := h.list
  have ccp := copy_any hX (by have := h.few; omega)
  have CCP := Lib.hid ccp; clear ccp hX h
  have cm := fun W nb => map_no (w := W) nb a b p h0 h1 h2 h3 hs
  have CM := Lib.hid cm; clear cm hs
  unfold addr0 at *
  go_enter Tryz.func28, Tryz.ntmps28
  go_wp2_with fail
  refine CCP.out.mono ?_
  rintro e w1 ⟨nb, rfl, hnb, l1, k1⟩
  unfold addr0
  have K1 := Lib.hid k1; clear k1 hnb CCP l1
  go_wp2_with fail
  refine (CM.out _ _).mono ?_
  rintro e w2 ⟨rfl, k2⟩
  have K2 := Lib.hid (K1.out.trans k2); clear k2 CM
  go_wp2_with fail
  go_ret
  exact ⟨rfl, K2.out⟩
end Go.Proofs.YtbngjbmfkekdnaaGreatDoor

set_option linter.unusedVariables false
set_option linter.unusedSimpArgs false
namespace Go.Proofs.YtbngjbmfkekdnaaGreatDoor
open Go.RowKit
set_option maxRecDepth 100000
theorem width_yes (n : Int) (w : World) (h : n = 1 ∨ n = 2 ∨ n = 4 ∨ n = 8) : Calls Tryz.prog 100 #[.int .i64 n] w fun x w' => x = .returned (.bool true) ∧ w = w' := by
  rcases h with rfl | rfl | rfl | rfl
  all_goals go_enter Tryz.func100, Tryz.ntmps100
  all_goals go_wp2
  all_goals go_ret
  all_goals exact ⟨rfl, rfl⟩
theorem width_no (n : Int) (w : World) (h : ¬ (n = 1 ∨ n = 2 ∨ n = 4 ∨ n = 8)) : Calls Tryz.prog 100 #[.int .i64 n] w fun x w' => x = .returned (.bool false) ∧ w = w' := by
  have t1 : (n == 1) = false := by simp; omega
  have t2 : (n == 2) = false := by simp; omega
  have t3 : (n == 4) = false := by simp; omega
  have t4 : (n == 8) = false := by simp; omega
  clear h
  go_enter Tryz.func100, Tryz.ntmps100
  go_wp2
  go_ret
  exact ⟨rfl, rfl⟩
theorem can_top {L : List Rg} (h : So 0 274877906944 L) {p x : Int} (hx : 274877906944 ≤ x) : ¬ Can L p x := fun ⟨q, hq, _⟩ => by have := h.range hq; omega
set_option maxHeartbeats 1000000 in
theorem lack_any {T : Nat → Prop} {w : World} {sb n0 : Nat} {L : List Rg} {M st : Nat → Int} {mo ba en : Int} (h : MS T w sb n0 L M st mo ba en) (a : Int) (n : Nat) (p : Int) (h0 : 0 ≤ a) (h1 : a ≤ 18446744073709551615) (hn : n ≤ 4194304) :
    Calls Tryz.prog 101 #[addr0 sb, .int .u64 a, .int .i64 (n : Int), .int .i64 p] w (FirstPost w L a (a + n) p) := by
  by_cases hc : 0 < n ∧ 274877906944 ≤ a
  · have hp : FirstPost w L a (a + n) p (.returned (.tuple #[.int .u64 a, .bool true])) w := ⟨a, true, rfl, .inl ⟨rfl, Int.le_refl _, by omega, can_top h.so hc.2, fun y h1 h2 => by omega⟩, Bl.refl _⟩
    have HP := Lib.hid hp; clear hp h
    obtain ⟨c1, c2⟩ := hc
    have c3 : (0 : Int) < (n : Int) := by omega
    unfold addr0
    go_enter Tryz.func101, Tryz.ntmps101
    go_wp2_with fail
    go_ret2
    exact HP.out
  · obtain ⟨X, hX⟩ := h.list
    have cf := first_any hX h.so a (a + n) p (by have := h.few; omega)
    have CF := Lib.hid cf; clear cf hX h
    have hw : IntKind.u64.wrap (a + n) = a + n := IntWalk.u64_in _ (by omega)
    unfold addr0 at *
    by_cases c1 : 0 < n
    · have c2 : a < 274877906944 := by omega
      have c3 : (0 : Int) < (n : Int) := by omega
      clear hc
      go_enter Tryz.func101, Tryz.ntmps101
      go_wp2_with fail
      refine CF.out.mono ?_
      rintro e w' ⟨x, ok, rfl, hh, k⟩
      have HH := Lib.hid hh; clear hh
      have K := Lib.hid k; clear k
      go_wp2_with fail
      go_ret2
      exact ⟨x, ok, rfl, HH.out, K.out⟩
    · obtain rfl : n = 0 := by omega
      clear hc c1 hw
      have hw : IntKind.u64.wrap a = a := IntWalk.u64_in _ (by omega)
      simp only [Int.natCast_zero, Int.ofNat_eq_natCast, Int.add_zero, Int.cast_ofNat_Int] at *
      go_enter Tryz.func101, Tryz.ntmps101
      go_wp2_with fail
      refine CF.out.mono ?_
      rintro e w' ⟨x, ok, rfl, hh, k⟩
      have HH := Lib.hid hh; clear hh
      have K := Lib.hid k; clear k
      go_wp2_with fail
      go_ret2
      exact ⟨x, ok, rfl, HH.out, K.out⟩
def faultV (k x : Int) : Value := .agg #[.int .i64 k, .int .u64 x]
/-- The fault of the first place that lacks p, or none. -/
def FaultPost (w : World) (L : List Rg) (kind a : Int) (n : Nat) (p : Int) (e : Ending) (w' : World) : Prop := ∃ k x, e = .returned (faultV k x) ∧
  ((k = kind ∧ a ≤ x ∧ x < a + n ∧ ¬ Can L p x ∧ ∀ y, a ≤ y → y < x → Can L p y) ∨ (k = 0 ∧ x = 0 ∧ ∀ y, a ≤ y → y < a + n → Can L p y)) ∧ Bl w w'
theorem new2 (w w1 : World) (x y : Value) (t : TypeId) (k : Bl (w.alloc (.cells #[x, y] t)) w1) : w1.heap[w.heap.size]? = some (.cells #[x, y] t (0, 0)) := k.at_ (heap_alloc_new w _)
theorem set2 {w : World} {g : Nat} {t : TypeId} {a b : Value} (x y : Value) (h : w.heap[g]? = some (.cells #[a, b] t (0, 0))) : ((w.setCell ⟨g, 0, none⟩ x).setCell ⟨g, 1, none⟩ y).heap[g]? = some (.cells #[x, y] t (0, 0)) := by
  have h1 := heap_setCell_same w g 0 _ t x h
  have h2 := heap_setCell_same (w.setCell ⟨g, 0, none⟩ x) g 1 _ t y h1
  rw [h2]; rfl
set_option maxHeartbeats 1000000 in
theorem fault_any {T : Nat → Prop} {w : World} {sb n0 : Nat} {L : List Rg} {M st : Nat → Int} {mo ba en : Int} (h : MS T w sb n0 L M st mo ba en) (kind a : Int) (n : Nat) (p : Int) (h0 : 0 ≤ a) (h1 : a ≤ 18446744073709551615) (hn : n = 1 ∨ n = 2 ∨ n = 4 ∨ n = 8) :
    Calls Tryz.prog 63 #[addr0 sb, .int .i64 kind, .int .u64 a, .int .i64 (n : Int), .int .i64 p] w (FaultPost w L kind a n p) := by
  have cw := fun W => width_yes (n : Int) W (by omega)
  have cl := lack_any (h.bl (Bl.new w (.cells #[.int .i64 0, .int .u64 0] 41))) a n p h0 h1 (by omega)
  have CW := Lib.hid cw; clear cw
  have CL := Lib.hid cl; clear cl hn h
  unfold addr0 at *
  go_enter Tryz.func63, Tryz.ntmps63
  go_wp2_with fail
  refine (CW.out _).mono ?_
  rintro e w' ⟨rfl, rfl⟩
  go_wp2_with fail
  refine CL.out.mono ?_
  rintro e w1 ⟨x, ok, rfl, hh, k⟩
  have hb := new2 w w1 _ _ _ k
  obtain ⟨d0, d1⟩ := two_cells hb
  have k1 := (Bl.new w (.cells #[.int .i64 0, .int .u64 0] 41)).trans k
  have f0 : ∀ i, w1.frozen? ⟨w.heap.size, i, none⟩ = false := fun i => by simp [World.frozen?, hb]
  have f00 := f0 0
  have f01 := f0 1
  have HB := Lib.hid hb; clear hb
  have K1 := Lib.hid k1; clear k1 k f0
  rcases hh with ⟨rfl, hh⟩ | ⟨rfl, hx, hh⟩
  · have HH := Lib.hid hh; clear hh
    go_wp2_with fail
    (try simp only [Exit.inBlock, Exit.then])
    refine bodyPost_ret (results_cell_row rfl _ _ w.heap.size 41 _ (0, 0) _ rfl (set2 _ _ HB.out) Tryz.underlying41 rfl (by kernel_rfl)) rfl ?_
    exact ⟨kind, x, rfl, .inl ⟨rfl, HH.out⟩, (K1.out.set (Nat.le_refl _) _).set (Nat.le_refl _) _⟩
  · have HH := Lib.hid hh; clear hh
    have HX := Lib.hid hx; clear hx
    go_wp2_with fail
    (try simp only [Exit.inBlock, Exit.then])
    refine bodyPost_ret (results_cell_row rfl _ _ w.heap.size 41 _ (0, 0) _ rfl (set2 _ _ HB.out) Tryz.underlying41 rfl (by kernel_rfl)) rfl ?_
    exact ⟨0, 0, rfl, .inr ⟨rfl, rfl, HH.out⟩, (K1.out.set (Nat.le_refl _) _).set (Nat.le_refl _) _⟩
set_option maxHeartbeats 1000000 in
theorem probe_any {T : Nat → Prop} {w : World} {sb n0 : Nat} {L : List Rg} {M st : Nat → Int} {mo ba en : Int} (h : MS T w sb n0 L M st mo ba en) (a : Int) (n : Nat) (h0 : 0 ≤ a) (h1 : a ≤ 18446744073709551615) (hn : n = 1 ∨ n = 2 ∨ n = 4 ∨ n = 8) :
    Calls Tryz.prog 35 #[addr0 sb, .int .u64 a, .int .i64 (n : Int)] w (FaultPost w L 2 a n 2) := by
  have cf := fault_any (h.bl (Bl.new w (.cells #[.int .i64 0, .int .u64 0] 41))) 2 a n 2 h0 h1 hn
  have CF := Lib.hid cf; clear cf h
  unfold addr0 at *
  go_enter Tryz.func35, Tryz.ntmps35
  go_wp2_with fail
  refine CF.out.mono ?_
  rintro e w1 ⟨k, x, rfl, hh, kk⟩
  have hb := new2 w w1 _ _ _ kk
  obtain ⟨d0, d1⟩ := two_cells hb
  have k1 := (Bl.new w (.cells #[.int .i64 0, .int .u64 0] 41)).trans kk
  have f0 : ∀ i, w1.frozen? ⟨w.heap.size, i, none⟩ = false := fun i => by simp [World.frozen?, hb]
  have f00 := f0 0
  have f01 := f0 1
  have HB := Lib.hid hb; clear hb
  have K1 := Lib.hid k1; clear k1 kk f0
  have HH := Lib.hid hh; clear hh
  unfold faultV
  go_wp2_with fail
  (try simp only [Exit.inBlock, Exit.then])
  refine bodyPost_ret (results_cell_row rfl _ _ w.heap.size 41 _ (0, 0) _ rfl (set2 _ _ HB.out) Tryz.underlying41 rfl (by kernel_rfl)) rfl ?_
  exact ⟨k, x, rfl, HH.out, (K1.out.set (Nat.le_refl _) _).set (Nat.le_refl _) _⟩
/-- Bytes of a block that was made anew. -/
theorem rd_row {w : World} {g : Nat} {xs : List Int} (h : w.heap[g]? = some (.cells (asBytes xs).toArray 5 (0, 0))) : Rd w (some ⟨g, 0, none⟩) xs := by
  intro h0
  refine ⟨_, rfl, fun i hi => ?_⟩
  have e1 : (⟨g, 0, none⟩ : Addr).add i = ⟨g, i, none⟩ := by unfold Addr.add; split <;> simp_all
  rw [e1, cell_of_row w g i _ 5 (0, 0) h]
  simp only [List.getElem?_toArray]
  rw [asBytes_at _ _ hi]
theorem bytesAt_bd {M : Nat → Int} (h : ∀ x, 0 ≤ M x ∧ M x ≤ 255) (a m : Nat) : ∀ k, 0 ≤ (bytesAt M a m).getD k 0 ∧ (bytesAt M a m).getD k 0 ≤ 255 := fun k => by
  rw [List.getD_eq_getElem?_getD]
  by_cases hk : k < m
  · rw [bytesAt_get _ _ _ _ hk]; exact h _
  · rw [List.getElem?_eq_none (by rw [bytesAt_length]; omega)]; simp
/-- The number that n bytes from a place on are. -/
def numAt (M : Nat → Int) (a n : Nat) : Int := getS (bytesAt M a n) n
set_option maxHeartbeats 1000000 in
theorem number_any {T : Nat → Prop} {w : World} {sb n0 : Nat} {L : List Rg} {M st : Nat → Int} {mo ba en : Int} (h : MS T w sb n0 L M st mo ba en) (a n : Nat) (ha : a < 2 ^ 64) (h1 : 1 ≤ n) (h8 : n ≤ 8) :
    Calls Tryz.prog 112 #[addr0 sb, .int .u64 (a : Int), .int .i64 (n : Int)] w fun e w' => e = .returned (.int .u64 (numAt M a n)) ∧ Bl w w' := by
  obtain ⟨rg, f, k0, h2, _, _⟩ := h.ex
  have cr := read_any h2 a n ha h1 (by omega)
  have hbd := bytesAt_bd h.by_ a n
  have hlen := bytesAt_length M a n
  have CR := Lib.hid cr; clear cr h2 h
  have HBD := Lib.hid hbd; clear hbd
  have HLEN := Lib.hid hlen; clear hlen
  unfold addr0 numAt
  go_enter Tryz.func112, Tryz.ntmps112
  go_wp2_with fail
  refine CR.out.mono ?_
  rintro e w1 ⟨rfl, hb, k1⟩
  have RD := Lib.hid (rd_row hb)
  have K1 := Lib.hid k1; clear k1 hb CR
  go_wp2_with fail
  refine (get_in _ n n _ n w1 RD.out HLEN.out (by omega) h1 h8 HBD.out).mono ?_
  rintro e w2 ⟨rfl, rfl⟩
  go_wp2_with fail
  go_ret
  exact ⟨rfl, K1.out⟩
theorem results_tmp_row {P : Program} {fn : Func} {p u : Tmp} {ty : TypeId} (h : fn.results = #[.tmp u, .cell p ty]) (tmps : Array Value) (w : World) (g : Nat) (t : TypeId) (cs : Array Value) (fr : Nat × Nat) (d : TypeDesc)
    (hp : tmps.getD p undef = .pointer (some ⟨g, 0, none⟩)) (hg : w.heap[g]? = some (.cells cs t fr))
    (hu : P.underlying ty = some d) (hd : (match d with | .struct _ | .array _ _ => true | _ => false) = true) (hi : (P.info? ty).map (·.size) = some cs.size) :
    (results fn tmps).run P w = .ok (.tuple #[tmps.getD u undef, .agg cs]) w := by
  have hp' : tmps[p]?.getD undef = .pointer (some ⟨g, 0, none⟩) := by simpa using hp
  simp [results, h, hp', asAddr, run_loadVar_row w g t ty cs fr d hg hu hd hi, Result.andThen]
/-- What a Load answers. -/
def LoadPost (w : World) (L : List Rg) (M : Nat → Int) (a n : Nat) (e : Ending) (w' : World) : Prop := ∃ y k x, e = .returned (.tuple #[.int .u64 y, faultV k x]) ∧
  ((k = 1 ∧ y = 0 ∧ (a : Int) ≤ x ∧ x < a + n ∧ ¬ Can L 1 x ∧ ∀ z, (a : Int) ≤ z → z < x → Can L 1 z) ∨ (k = 0 ∧ x = 0 ∧ y = numAt M a n ∧ ∀ z, (a : Int) ≤ z → z < a + n → Can L 1 z)) ∧ Bl w w'
def StoreMPost (T : Nat → Prop) (w : World) (sb n0 : Nat) (L : List Rg) (M st : Nat → Int) (mo ba en : Int) (a n : Nat) (x : Int) (e : Ending) (w' : World) : Prop := ∃ k y, e = .returned (faultV k y) ∧
  ((k = 2 ∧ (a : Int) ≤ y ∧ y < a + n ∧ ¬ Can L 2 y ∧ (∀ z, (a : Int) ≤ z → z < y → Can L 2 z) ∧ Bl w w') ∨
   (k = 0 ∧ y = 0 ∧ (∀ z, (a : Int) ≤ z → z < a + n → Can L 2 z) ∧ ∃ st', MS T w' sb (n0 + 9) L (lay M a (putB x n)) st' mo ba en ∧ Rise st st' (fun p => ∃ x, a ≤ x ∧ x < a + n ∧ p = x / 4096) ∧ Fr T w w'))
theorem lay_bd {M : Nat → Int} (h : ∀ x, 0 ≤ M x ∧ M x ≤ 255) {cs : List Int} (hc : ∀ k, 0 ≤ cs.getD k 0 ∧ cs.getD k 0 ≤ 255) (a : Nat) : ∀ x, 0 ≤ lay M a cs x ∧ lay M a cs x ≤ 255 := fun x => by
  simp only [lay]
  split
  · exact hc _
  · exact h x
theorem can_below {L : List Rg} (h : So 0 274877906944 L) {p : Int} {a n : Nat} (hc : ∀ z, (a : Int) ≤ z → z < a + n → Can L p z) (hn : 0 < n) : a + n ≤ 274877906944 := by
  rcases Nat.lt_or_ge 274877906944 (a + n) with h1 | h1
  · exact absurd (hc (max a 274877906944) (by omega) (by omega)) (can_top h (by omega))
  · exact h1
/-- A write into the space's store. -/
theorem mwrite_any {T : Nat → Prop} {w : World} {sb n0 : Nat} {L : List Rg} {M st : Nat → Int} {mo ba en : Int} (h : MS T w sb n0 L M st mo ba en) (a : Nat) (A : Option Addr) (len cap : Nat) (xs : List Int) (hr : Rd w A xs) (hl : xs.length = len) (hlc : len ≤ cap) (hb : ∀ k, 0 ≤ xs.getD k 0 ∧ xs.getD k 0 ≤ 255)
    (hA : 0 < len → ∀ ad, A = some ad → ¬ T ad.block) (ha : a + len ≤ 274877906944) (hlen : len ≤ 4194304) (hn : n0 < 90000000) (hT : ∀ b, w.heap.size ≤ b → T b) :
    Calls Tryz.prog 33 #[.pointer (some ⟨sb, 1, none⟩), .int .u64 (a : Int), .slice A len cap] w fun e w' => e = .returned (.tuple #[]) ∧ ∃ st', MS T w' sb (n0 + 3 * pagesOf a len) L (lay M a xs) st' mo ba en ∧ Rise st st' (fun p => ∃ x, a ≤ x ∧ x < a + len ∧ p = x / 4096) ∧ Fr T w w' := by
  obtain ⟨rg, f, k0, h1, h2, h3⟩ := h.ex
  have hroom : room a len = len := by unfold room; omega
  have cw := write_any h1 a A len cap xs hr hl hlc (fun h0 ad had e => hA h0 ad had e.1) (by omega) hlen hn (off_new h2 hT)
  rw [hroom, List.take_of_length_le (by omega)] at cw
  refine cw.mono ?_
  rintro e w' ⟨rfl, f', k', st', h4, hf, _, hr4⟩
  rw [hl] at h4 hr4
  refine ⟨rfl, st', h.stored h2 h3 h4 hf (lay_bd h.by_ hb a), hr4.mono fun p hp => ?_, hf.off_of⟩
  obtain ⟨x, x1, x2, rfl⟩ := hp
  unfold pagesOf
  rw [if_neg (by omega)]
  omega
end Go.Proofs.YtbngjbmfkekdnaaGreatDoor

set_option linter.unusedVariables false
set_option linter.unusedSimpArgs false
namespace Go.Proofs.YtbngjbmfkekdnaaGreatDoor
open Go.RowKit
set_option maxRecDepth 100000
theorem rd_lt {w : World} {A : Option Addr} {xs : List Int} (h : Rd w A xs) (h0 : 0 < xs.length) {ad : Addr} (e : A = some ad) : ad.block < w.heap.size := by
  obtain ⟨a2, h1, h2⟩ := h h0
  rw [e] at h1; cases h1
  have := block_lt_of_cell (h2 0 h0)
  rwa [add_block] at this
set_option maxHeartbeats 4000000 in
theorem mstore_any {T : Nat → Prop} {w : World} {sb n0 : Nat} {L : List Rg} {M st : Nat → Int} {mo ba en : Int} (h : MS T w sb n0 L M st mo ba en) (a n : Nat) (x : Int) (ha : a < 2 ^ 64) (hn : n = 1 ∨ n = 2 ∨ n = 4 ∨ n = 8) (hn0 : n0 < 80000000) (hT : ∀ b, w.heap.size ≤ b → T b) :
    Calls Tryz.prog 14 #[addr0 sb, .int .u64 (a : Int), .int .i64 (n : Int), .int .u64 x] w (StoreMPost T w sb n0 L M st mo ba en a n x) := by
  have cf := probe_any (h.bl (Bl.new w (.cells #[.int .i64 0, .int .u64 0] 41))) a n (by omega) (by omega) hn
  have cp := fun W => put_in none 0 0 [] x n W (Rd.nil_) rfl (by omega) (by omega) (by omega)
  simp only [List.nil_append, Nat.zero_add] at cp
  have CF := Lib.hid cf; clear cf
  have CP := Lib.hid cp; clear cp
  have H := Lib.hid h; clear h
  have HT := Lib.hid hT; clear hT
  have HN := Lib.hid hn; clear hn
  unfold addr0 at *
  go_enter Tryz.func14, Tryz.ntmps14
  go_wp2_with fail
  refine CF.out.mono ?_
  rintro e w1 ⟨k, y, rfl, hh, kk⟩
  have hb := new2 w w1 _ _ _ kk
  have k1 := (Bl.new w (.cells #[.int .i64 0, .int .u64 0] 41)).trans kk
  clear CF kk
  have HB := Lib.hid hb; clear hb
  have K1 := Lib.hid k1; clear k1
  unfold faultV
  rcases hh with ⟨hk, hh⟩ | ⟨hk, hx, hh⟩
  · subst hk
    have HH := Lib.hid hh; clear hh
    have hb2 := (Bl.new w1 (.cells #[.int .i64 2, .int .u64 y] 41)).at_ HB.out
    obtain ⟨d0, d1⟩ := two_cells hb2
    obtain ⟨d2, d3⟩ := two_cells (heap_alloc_new w1 (.cells #[.int .i64 2, .int .u64 y] 41))
    have f0 : ∀ i, (w1.alloc (.cells #[.int .i64 2, .int .u64 y] 41)).frozen? ⟨w.heap.size, i, none⟩ = false := fun i => by simp [World.frozen?, hb2]
    have f00 := f0 0
    have f01 := f0 1
    have HB2 := Lib.hid hb2; clear hb2
    have K2 := Lib.hid (K1.out.alloc (.cells #[.int .i64 2, .int .u64 y] 41))
    clear HB K1 f0 CP
    go_wp2_with fail
    (try simp only [Exit.inBlock, Exit.then])
    refine bodyPost_ret (results_cell_row rfl _ _ w.heap.size 41 _ (0, 0) _ rfl (set2 _ _ HB2.out) Tryz.underlying41 rfl (by kernel_rfl)) rfl ?_
    exact ⟨2, y, rfl, .inl ⟨rfl, HH.out.1, HH.out.2.1, HH.out.2.2.1, HH.out.2.2.2, (K2.out.set (Nat.le_refl _) _).set (Nat.le_refl _) _⟩⟩
  · subst hk hx
    have htop := can_below H.out.so hh (by have := HN.out; omega)
    have HH := Lib.hid hh; clear hh
    have HTOP := Lib.hid htop; clear htop
    go_wp2_with fail
    have K2 := Lib.hid (K1.out.alloc (.cells #[.int .i64 0, .int .u64 0] 41))
    have HB2 := Lib.hid ((Bl.new w1 (.cells #[.int .i64 0, .int .u64 0] 41)).at_ HB.out)
    clear HB K1
    generalize w1.alloc (.cells #[.int .i64 0, .int .u64 0] 41) = W at *
    go_region_with (first | (go_at_call 36; refine (CP.out _).mono ?_; rintro e w9 ⟨B, c, rfl, rd9, k9, hc9, hb9⟩) | (go_at_call 33; have k10 := K2.out.trans ((Bl.refl W).drew.trans k9); have hbk : ∀ ad, B = some ad → w.heap.size ≤ ad.block := (fun ad e => Nat.le_trans K2.out.size (hb9 ad e)); refine (mwrite_any (H.out.gap k10 w.heap.size w9.heap.size (Nat.le_refl _)) a B n c (putB x n) rd9 (putB_length x n) hc9 (putB_bd x n) (fun h0 ad e e2 => e2.2 ⟨hbk ad e, rd_lt rd9 (by rw [putB_length]; exact h0) e⟩) HTOP.out (by have := HN.out; omega) (by omega) (gap_new HT.out w.heap.size k10.size)).mono ?_; rintro e w11 ⟨rfl, st', h11, r11, f11⟩))
    all_goals (
      have hb3 := f11.at_ (((Bl.refl W).drew.trans k9).at_ HB2.out) (fun e => e.2 ⟨Nat.le_refl _, by have := lt_at HB2.out; have := ((Bl.refl W).drew.trans k9).size; omega⟩)
      obtain ⟨d0, d1⟩ := two_cells hb3
      have f0 : ∀ i, w11.frozen? ⟨w.heap.size, i, none⟩ = false := fun i => by simp [World.frozen?, hb3]
      have f00 := f0 0
      have f01 := f0 1
      have HB3 := Lib.hid hb3; clear hb3
      have h12 := h11.kept ((Fr.set (S := only w.heap.size) (p := ⟨w.heap.size, 0, none⟩) rfl (.int .i64 0)).trans (Fr.set (S := only w.heap.size) (p := ⟨w.heap.size, 1, none⟩) rfl (.int .u64 0))) (fun b e e2 => e.2 ⟨by rw [show b = w.heap.size from e2]; exact Nat.le_refl _, by rw [show b = w.heap.size from e2]; have := H.out.lt; have := lt_at HB2.out; have := ((Bl.refl W).drew.trans k9).size; omega⟩)
      have f12 : Fr T w ((w11.setCell ⟨w.heap.size, 0, none⟩ (.int .i64 0)).setCell ⟨w.heap.size, 1, none⟩ (.int .u64 0)) := (((Fr.of_bl k10).trans f11.ungap).trans (Fr.set (HT.out _ (Nat.le_refl _)) _)).trans (Fr.set (HT.out _ (Nat.le_refl _)) _)
      have H12 := Lib.hid (h12.ungap.mono (m := n0 + 9) (by have := HN.out; unfold pagesOf; split <;> omega))
      have F12 := Lib.hid f12
      have R11 := Lib.hid r11
      clear h12 f12 h11 f11 r11 rd9 k9 hb9 hbk k10 f0 CP
      go_wp2_with fail
      (try simp only [Exit.inBlock, Exit.then])
      refine bodyPost_ret (results_cell_row rfl _ _ w.heap.size 41 _ (0, 0) _ rfl (set2 _ _ HB3.out) Tryz.underlying41 rfl (by kernel_rfl)) rfl ?_
      exact ⟨0, 0, rfl, .inr ⟨rfl, rfl, HH.out, st', H12.out, R11.out, F12.out⟩⟩)
end Go.Proofs.YtbngjbmfkekdnaaGreatDoor

set_option linter.unusedVariables false
set_option linter.unusedSimpArgs false
namespace Go.Proofs.YtbngjbmfkekdnaaGreatDoor
open Go.RowKit
set_option maxRecDepth 100000
/-- What lay does, and when. -/
def LayAny (T : Nat → Prop) (w : World) (sb n : Nat) (L : List Rg) (M st : Nat → Int) (mo ba en : Int) (a b : Nat) (p : Int) (r : Int) (w' : World) : Prop :=
  (r = 0 ∧ Span (a : Int) (b : Int) ∧ 0 ≤ p ∧ p ≤ 7 ∧ (layL L a b [⟨a, b, p⟩]).length ≤ 256 ∧ tot (layL L a b [⟨a, b, p⟩]) ≤ mo * 4096 ∧ ClearPost T w sb n (layL L a b [⟨a, b, p⟩]) M st mo ba en a b w') ∨
  (r = 22 ∧ ¬ (Span (a : Int) (b : Int) ∧ 0 ≤ p ∧ p ≤ 7) ∧ Bl w w') ∨
  (r = 12 ∧ Span (a : Int) (b : Int) ∧ (256 < (layL L a b [⟨a, b, p⟩]).length ∨ mo * 4096 < tot (layL L a b [⟨a, b, p⟩])) ∧ Bl w w')
theorem mlay_any {T : Nat → Prop} {w : World} {sb n : Nat} {L : List Rg} {M st : Nat → Int} {mo ba en : Int} (h : MS T w sb n L M st mo ba en) (a b : Nat) (p : Int) (ha : a < 2 ^ 64) (hb : b < 2 ^ 64) (hn : n < 80000000) (hT : ∀ b, w.heap.size ≤ b → T b) :
    Calls Tryz.prog 28 #[addr0 sb, .int .u64 (a : Int), .int .u64 (b : Int), .int .i64 p] w fun e w' => ∃ r, e = .returned (.int .i64 r) ∧ LayAny T w sb n L M st mo ba en a b p r w' := by
  by_cases hs : Span (a : Int) (b : Int) ∧ 0 ≤ p ∧ p ≤ 7
  · obtain ⟨hs, hp0, hp1⟩ := hs
    rcases Nat.lt_or_ge 256 (layL L a b [⟨a, b, p⟩]).length with hc | hc
    · refine (mlay_many h a b p hs hp0 hp1 hc).mono ?_
      rintro e w' ⟨rfl, k⟩
      exact ⟨12, rfl, .inr (.inr ⟨rfl, hs, .inl hc, k⟩)⟩
    · rcases Int.lt_or_le (mo * 4096) (tot (layL L a b [⟨a, b, p⟩])) with ht | ht
      · refine (mlay_full h a b p hs hp0 hp1 hc ht).mono ?_
        rintro e w' ⟨rfl, k⟩
        exact ⟨12, rfl, .inr (.inr ⟨rfl, hs, .inr ht, k⟩)⟩
      · refine (mlay_ok h a b p hs hp0 hp1 hc ht hn hT).mono ?_
        rintro e w' ⟨rfl, k⟩
        exact ⟨0, rfl, .inl ⟨rfl, hs, hp0, hp1, hc, ht, k⟩⟩
  · refine (mlay_no h a b p (by omega) (by omega) (by omega) (by omega) hs).mono ?_
    rintro e w' ⟨rfl, k⟩
    exact ⟨22, rfl, .inr (.inl ⟨rfl, hs, k⟩)⟩
/-- Where a span may be: at a wish, or in a room. -/
def Found (L : List Rg) (a sz x : Int) (ok : Bool) : Prop := (ok = true ∧ x = a ∧ a ≠ 0 ∧ Span a (a + sz) ∧ FreeIn L a (a + sz)) ∨ ((a = 0 ∨ ¬ (Span a (a + sz) ∧ FreeIn L a (a + sz))) ∧ RoomIs L sz 274877833216 x ok)
set_option maxHeartbeats 1000000 in
theorem find_any {T : Nat → Prop} {w : World} {sb n : Nat} {L : List Rg} {M st : Nat → Int} {mo ba en : Int} (h : MS T w sb n L M st mo ba en) (a sz : Int) (h0 : 0 ≤ a) (h1 : a ≤ 18446744073709551615) (hz : sz % 4096 = 0) (hz0 : 4096 ≤ sz) (hz1 : sz ≤ 274877906944) (ha : a % 4096 = 0) :
    Calls Tryz.prog 27 #[addr0 sb, .int .u64 a, .int .u64 sz] w fun e w' => ∃ x ok, e = .returned (.tuple #[.int .u64 x, .bool ok]) ∧ Found L a sz x ok ∧ Bl w w' := by
  obtain ⟨X, hX⟩ := h.list
  have cr := fun W (hW : Bl w W) => room_any (hX.bl hW) h.rs h.few sz 274877833216 (by omega) hz1 (by omega) (by omega)
  rw [show szOf sz = sz by unfold szOf; omega, show belOf 274877833216 = 274877833216 by decide] at cr
  have CR := Lib.hid cr; clear cr
  by_cases hz2 : a = 0
  · subst hz2
    clear hX h
    unfold addr0 at *
    go_enter Tryz.func27, Tryz.ntmps27
    go_wp2_with fail
    refine (CR.out _ (Bl.refl _)).mono ?_
    rintro e w' ⟨x, ok, rfl, hr, k⟩
    have HR := Lib.hid hr; clear hr
    have K := Lib.hid k; clear k
    go_wp2_with fail
    go_ret2
    exact ⟨x, ok, rfl, .inr ⟨.inl rfl, HR.out⟩, K.out⟩
  · have hne : (a != 0) = true := by simp [hz2]
    have hw := wrap_in (a + sz)
    have cf : ∃ v : Bool, Calls Tryz.prog 52 #[addr0 sb, .int .u64 a, .int .u64 (IntKind.u64.wrap (a + sz))] w (BoolPost w v) ∧ (v = true ↔ Span a (a + sz) ∧ FreeIn L a (a + sz)) := by
      by_cases hs : Span a (a + sz)
      · have e : IntKind.u64.wrap (a + sz) = a + sz := IntWalk.u64_in _ (by have := hs.2.2.2; omega)
        rw [e]
        by_cases hf : FreeIn L a (a + sz)
        · exact ⟨true, free_any hX h.so a (a + sz) h0 hs (by have := h.few; omega) true ⟨fun _ => hf, fun _ => rfl⟩, ⟨fun _ => ⟨hs, hf⟩, fun _ => rfl⟩⟩
        · exact ⟨false, free_any hX h.so a (a + sz) h0 hs (by have := h.few; omega) false ⟨fun e => (by cases e), fun e => absurd e hf⟩, ⟨fun e => (by cases e), fun e => absurd e.2 hf⟩⟩
      · refine ⟨false, free_no sb a _ h0 h1 hw.1 hw.2 (fun e => hs ?_), ⟨fun e => (by cases e), fun e => absurd e.1 hs⟩⟩
        obtain ⟨e1, e2, e3, e4⟩ := e
        rw [IntKind.wrap_u64] at e2 e3 e4
        refine ⟨e1, by omega, by omega, by omega⟩
    obtain ⟨v, cf, hv⟩ := cf
    have CF := Lib.hid cf; clear cf hX h hz2
    have HV := Lib.hid hv; clear hv
    unfold addr0 at *
    clear hw
    go_enter Tryz.func27, Tryz.ntmps27
    go_wp2_with fail
    refine CF.out.mono ?_
    rintro e w1 ⟨rfl, k1⟩
    have K1 := Lib.hid k1; clear k1 CF
    rcases v with _ | _
    · go_wp2_with fail
      refine (CR.out _ K1.out).mono ?_
      rintro e w' ⟨x, ok, rfl, hr, k⟩
      have HR := Lib.hid hr; clear hr
      have K := Lib.hid (K1.out.trans k); clear k
      go_wp2_with fail
      go_ret2
      exact ⟨x, ok, rfl, .inr ⟨.inr (fun e => by have h9 := HV.out.2 e; first | cases h9 | exact h9.elim), HR.out⟩, K.out⟩
    · go_wp2_with fail
      go_ret2
      exact ⟨a, true, rfl, .inl ⟨rfl, rfl, by simpa using hne, HV.out.1 (by first | rfl | trivial)⟩, K1.out⟩
/-! ### Map -/
theorem mmap_bad {w : World} (sb : Nat) (a size p : Int) (fx : Bool) (h0 : 0 ≤ a) (h1 : 0 ≤ size) (h : ¬ (a % 4096 = 0 ∧ size ≠ 0 ∧ size ≤ 274877906944 ∧ 0 ≤ p ∧ p ≤ 7)) :
    Calls Tryz.prog 9 #[addr0 sb, .int .u64 a, .int .u64 size, .int .i64 p, .bool fx] w fun e w' => e = .returned (.tuple #[.int .u64 0, .int .i64 22]) ∧ w = w' := by
  unfold addr0
  by_cases a1 : a % 4096 = 0
  · have t1 : (a % 4096 != 0) = false := by simp [a1]
    by_cases a2 : size = 0
    · subst a2
      clear h a1
      go_enter Tryz.func9, Tryz.ntmps9
      go_wp2
      go_ret2
      exact ⟨rfl, rfl⟩
    · have t2 : (size == 0) = false := by simp [a2]
      by_cases a3 : size ≤ 274877906944
      · have t3 : decide (274877906944 < size) = false := by simp; omega
        have cp := fun W => misProt_no p W (fun e => h ⟨a1, a2, a3, e⟩)
        have CP := Lib.hid cp; clear cp h a1 a2
        go_enter Tryz.func9, Tryz.ntmps9
        go_wp2_with fail
        refine (CP.out _).mono ?_
        rintro e w' ⟨rfl, rfl⟩
        go_wp2_with fail
        go_ret2
        exact ⟨rfl, rfl⟩
      · have t3 : decide (274877906944 < size) = true := by simp; omega
        have t4 : 274877906944 < size := by omega
        clear h a1 a2 a3
        go_enter Tryz.func9, Tryz.ntmps9
        go_wp2
        go_ret2
        exact ⟨rfl, rfl⟩
  · have t1 : (a % 4096 != 0) = true := by simp [a1]
    clear h a1
    go_enter Tryz.func9, Tryz.ntmps9
    go_wp2
    go_ret2
    exact ⟨rfl, rfl⟩
/-- What a Map at a place answers. -/
def MapPost (T : Nat → Prop) (w : World) (sb n : Nat) (L : List Rg) (M st : Nat → Int) (mo ba en : Int) (a b : Nat) (p : Int) (e : Ending) (w' : World) : Prop :=
  ∃ r, e = .returned (.tuple #[.int .u64 (if r = 0 then (a : Int) else 0), .int .i64 r]) ∧ LayAny T w sb n L M st mo ba en a b p r w'
theorem LayAny.back {T : Nat → Prop} {w w1 w' : World} {sb n : Nat} {L : List Rg} {M st : Nat → Int} {mo ba en : Int} {a b : Nat} {p r : Int} (k : Bl w w1) (h : LayAny T w1 sb n L M st mo ba en a b p r w') : LayAny T w sb n L M st mo ba en a b p r w' := by
  rcases h with ⟨h1, h2, h3, h4, h5, h6, st', h7, h8, h9⟩ | ⟨h1, h2, h3⟩ | ⟨h1, h2, h3, h4⟩
  · exact .inl ⟨h1, h2, h3, h4, h5, h6, st', h7, h8, (Fr.of_bl k).trans h9⟩
  · exact .inr (.inl ⟨h1, h2, k.trans h3⟩)
  · exact .inr (.inr ⟨h1, h2, h3, k.trans h4⟩)
set_option maxHeartbeats 2000000 in
theorem mmap_fixed {T : Nat → Prop} {w : World} {sb n : Nat} {L : List Rg} {M st : Nat → Int} {mo ba en : Int} (h : MS T w sb n L M st mo ba en) (a : Nat) (size p : Int) (ha : a < 2 ^ 64) (h1 : 0 ≤ size) (hv : (a : Int) % 4096 = 0 ∧ size ≠ 0 ∧ size ≤ 274877906944 ∧ 0 ≤ p ∧ p ≤ 7) (hn : n < 80000000) (hT : ∀ b, w.heap.size ≤ b → T b) (b : Nat) (hb : (b : Int) = IntKind.u64.wrap (a + (size + 4095) / 4096 * 4096)) :
    Calls Tryz.prog 9 #[addr0 sb, .int .u64 (a : Int), .int .u64 size, .int .i64 p, .bool true] w (MapPost T w sb n L M st mo ba en a b p) := by
  obtain ⟨a1, a2, a3, a4, a5⟩ := hv
  have t1 : ((a : Int) % 4096 != 0) = false := by simp [a1]
  have t2 : (size == 0) = false := by simp [a2]
  have t3 : decide (274877906944 < size) = false := by simp; omega
  have cp := fun W => misProt_yes p W a4 a5
  have cu := fun W => mup_any size W
  rw [upW_in h1 a3] at cu
  have cl := mlay_any h a b p ha (by have := wrap_in (a + (size + 4095) / 4096 * 4096); omega) hn hT
  generalize (size + 4095) / 4096 * 4096 = sz at *
  rw [hb] at cl
  have CP := Lib.hid cp; clear cp
  have CU := Lib.hid cu; clear cu
  have CL := Lib.hid cl; clear cl a1 a2 h hb
  unfold addr0 at *
  have hx0 : (0 : Int) ≤ (a : Int) := by omega
  have hx1 : (a : Int) ≤ 18446744073709551615 := by omega
  go_enter Tryz.func9, Tryz.ntmps9
  go_wp2_with fail
  refine (CP.out _).mono ?_
  rintro e w' ⟨rfl, rfl⟩
  go_wp2_with fail
  refine (CU.out _).mono ?_
  rintro e w' ⟨rfl, rfl⟩
  go_wp2_with fail
  refine CL.out.mono ?_
  rintro e w' ⟨r, rfl, hl⟩
  have HL := Lib.hid hl; clear hl
  by_cases hr : r = 0
  · subst hr
    go_wp2_with fail
    go_ret2
    exact ⟨0, by rw [if_pos rfl]; rfl, HL.out⟩
  · have t5 : (r != 0) = true := by simp [hr]
    have HR := Lib.hid hr; clear hr
    go_wp2_with fail
    go_ret2
    exact ⟨r, by rw [if_neg HR.out]; rfl, HL.out⟩
set_option maxHeartbeats 2000000 in
theorem mmap_free {T : Nat → Prop} {w : World} {sb n : Nat} {L : List Rg} {M st : Nat → Int} {mo ba en : Int} (h : MS T w sb n L M st mo ba en) (a : Nat) (size p : Int) (ha : a < 2 ^ 64) (h1 : 0 ≤ size) (hv : (a : Int) % 4096 = 0 ∧ size ≠ 0 ∧ size ≤ 274877906944 ∧ 0 ≤ p ∧ p ≤ 7) (hn : n < 80000000) (hT : ∀ b, w.heap.size ≤ b → T b) :
    Calls Tryz.prog 9 #[addr0 sb, .int .u64 (a : Int), .int .u64 size, .int .i64 p, .bool false] w fun e w' => ∃ x ok, Found L a ((size + 4095) / 4096 * 4096) x ok ∧
      ((ok = false ∧ e = .returned (.tuple #[.int .u64 0, .int .i64 12]) ∧ Bl w w') ∨ (ok = true ∧ ∃ c b : Nat, x = c ∧ (b : Int) = c + (size + 4095) / 4096 * 4096 ∧ MapPost T w sb n L M st mo ba en c b p e w')) := by
  obtain ⟨a1, a2, a3, a4, a5⟩ := hv
  have t1 : ((a : Int) % 4096 != 0) = false := by simp [a1]
  have t2 : (size == 0) = false := by simp [a2]
  have t3 : decide (274877906944 < size) = false := by simp; omega
  have cp := fun W => misProt_yes p W a4 a5
  have cu := fun W => mup_any size W
  rw [upW_in h1 a3] at cu
  obtain ⟨sz, hsz⟩ : ∃ sz, sz = (size + 4095) / 4096 * 4096 := ⟨_, rfl⟩
  have z1 : sz % 4096 = 0 := by omega
  have z2 : 4096 ≤ sz := by omega
  have z3 : sz ≤ 274877906944 := by omega
  rw [← hsz] at cu ⊢
  have cf := find_any h a sz (by omega) (by omega) z1 z2 z3 a1
  have CP := Lib.hid cp; clear cp
  have CU := Lib.hid cu; clear cu
  have CF := Lib.hid cf; clear cf a2 hsz
  have Z1 := Lib.hid z1; clear z1
  have A1 := Lib.hid a1; clear a1
  have H := Lib.hid h; clear h
  have HT := Lib.hid hT; clear hT
  unfold addr0 at *
  have hx0 : (0 : Int) ≤ (a : Int) := by omega
  have hx1 : (a : Int) ≤ 18446744073709551615 := by omega
  go_enter Tryz.func9, Tryz.ntmps9
  go_wp2_with fail
  refine (CP.out _).mono ?_
  rintro e w' ⟨rfl, rfl⟩
  go_wp2_with fail
  refine (CU.out _).mono ?_
  rintro e w' ⟨rfl, rfl⟩
  go_wp2_with fail
  refine CF.out.mono ?_
  rintro e w1 ⟨x, ok, rfl, hf, k1⟩
  have HF := Lib.hid hf
  have K1 := Lib.hid k1; clear k1 CF CU CP
  rcases ok with _ | _
  · clear hf
    go_wp2_with fail
    go_ret2
    exact ⟨x, false, HF.out, .inl ⟨rfl, rfl, K1.out⟩⟩
  · obtain ⟨c, hc⟩ : ∃ c : Nat, x = (c : Int) := by
      refine ⟨x.toNat, ?_⟩
      rcases hf with ⟨_, h2, _⟩ | ⟨_, h2⟩
      · omega
      · rcases h2 with ⟨_, _, h3, _⟩ | ⟨h3, _⟩
        · omega
        · cases h3
    have hxs : x + sz ≤ 274877906944 := by
      rcases hf with ⟨_, h2, _, h3, _⟩ | ⟨_, h2⟩
      · rw [h2]; exact h3.2.2.2
      · rcases h2 with ⟨_, _, _, h3, _⟩ | ⟨h3, _⟩
        · omega
        · cases h3
    subst hc
    obtain ⟨b, hb⟩ : ∃ b : Nat, (b : Int) = c + sz := ⟨((c : Int) + sz).toNat, by omega⟩
    have cl := mlay_any (H.out.bl K1.out) c b p (by omega) (by omega) hn (fun b hb => HT.out b (Nat.le_trans K1.out.size hb))
    unfold addr0 at cl
    rw [hb] at cl
    have CL := Lib.hid cl; clear cl hf
    have HB := Lib.hid hb; clear hb
    go_wp2_with fail
    refine CL.out.mono ?_
    rintro e w' ⟨r, rfl, hl⟩
    have HL := Lib.hid (LayAny.back K1.out hl); clear hl CL
    by_cases hr : r = 0
    · subst hr
      go_wp2_with fail
      go_ret2
      exact ⟨c, true, HF.out, .inr ⟨rfl, c, b, rfl, HB.out, 0, by rw [if_pos rfl]; rfl, HL.out⟩⟩
    · have t5 : (r != 0) = true := by simp [hr]
      have HR := Lib.hid hr; clear hr
      go_wp2_with fail
      go_ret2
      exact ⟨c, true, HF.out, .inr ⟨rfl, c, b, rfl, HB.out, r, by rw [if_neg HR.out]; rfl, HL.out⟩⟩
end Go.Proofs.YtbngjbmfkekdnaaGreatDoor

set_option linter.unusedVariables false
set_option linter.unusedSimpArgs false
namespace Go.Proofs.YtbngjbmfkekdnaaGreatDoor
open Go.RowKit
set_option maxRecDepth 100000
def from_ (lo : Nat) : Nat → Prop := fun b => lo ≤ b
theorem Fr.from_bl {w w1 w2 : World} (k : Bl w w1) (f : Fr (from_ w.heap.size) w1 w2) : Bl w w2 := ⟨f.os.trans k.os, f.tape.trans k.tape, f.output.trans k.output, Nat.le_trans k.size f.size, fun b hb => (f.block b (Nat.lt_of_lt_of_le hb k.size) (fun e => by have : w.heap.size ≤ b := e; omega)).trans (k.block b hb)⟩
theorem kind_run (k x : Int) (w : World) : (Instr.field 41 (.agg #[.int .i64 k, .int .u64 x]) 0).run Tryz.prog w = .ok (.int .i64 k) w := by kernel_rfl
/-- A new space with one span mapped, at a fixed place. -/
theorem mmap_new {T : Nat → Prop} {w : World} {sb n : Nat} {M st : Nat → Int} {mo ba en : Int} (h : MS T w sb n [] M st mo ba en) (a b : Nat) (size p : Int) (h1 : 0 < size) (h2 : size ≤ 274877906944) (hp0 : 0 ≤ p) (hp1 : p ≤ 7) (hb : (b : Int) = a + (size + 4095) / 4096 * 4096) (hs : Span (a : Int) (b : Int)) (hm : (b : Int) - a ≤ mo * 4096) (hn : n < 80000000) (hT : ∀ b, w.heap.size ≤ b → T b) :
    Calls Tryz.prog 9 #[addr0 sb, .int .u64 (a : Int), .int .u64 size, .int .i64 p, .bool true] w fun e w' => e = .returned (.tuple #[.int .u64 (a : Int), .int .i64 0]) ∧ ClearPost T w sb n [⟨a, b, p⟩] M st mo ba en a b w' := by
  have hs4 := hs.2.2.2
  refine (mmap_fixed h a size p (by have := hs.2.2.1; omega) (by omega) ⟨hs.1, by omega, h2, hp0, hp1⟩ hn hT b (by rw [IntWalk.u64_in _ (by omega)]; exact hb)).mono ?_
  rintro e w' ⟨r, rfl, hl⟩
  rw [LayAny, layL_new] at hl
  rcases hl with ⟨rfl, _, _, _, _, _, hc⟩ | ⟨_, hx, _⟩ | ⟨_, _, hx, _⟩
  · exact ⟨by rw [if_pos rfl], hc⟩
  · exact absurd ⟨hs, hp0, hp1⟩ hx
  · rcases hx with hx | hx
    · simp at hx
    · simp only [tot] at hx; omega
end Go.Proofs.YtbngjbmfkekdnaaGreatDoor

set_option linter.unusedVariables false
set_option linter.unusedSimpArgs false
namespace Go.Proofs.YtbngjbmfkekdnaaGreatDoor
open Go.RowKit
set_option maxRecDepth 100000
/-- The stamps of a span, few pages or many. -/
theorem stampAll_any {Y : Rest} {S : Nat → Prop} {w : World} {sb n k : Nat} {f : Nat → Option Nat} {M st : Nat → Int} (h : StoreAt Y S w sb n f k M st) (a b : Nat) (hab : a < b) (hc : b ≤ 274877906944) (hn : n < 80000000) (hS : ∀ b, w.heap.size ≤ b → S b) :
    Calls Tryz.prog 73 #[.pointer (some ⟨sb, 1, none⟩), span (a : Int) (b : Int)] w fun e w' => e = .returned (.tuple #[]) ∧ (∃ st', StoreAt Y S w' sb (n + 8192) f k M st' ∧ Rise st st' (fun p => a / 4096 ≤ p ∧ p ≤ (b - 1) / 4096)) ∧ Fr S w w' := by
  by_cases hw : (b - 1) / 4096 - a / 4096 < 4096
  · exact stampAll_narrow h a b hab hc hw (by omega) hS
  · refine (stampAll_wide h (a : Int) (b : Int) (by omega) (by omega) (by omega) (by omega) (by omega)).mono ?_
    rintro e w' ⟨rfl, ⟨st', h1, h2⟩, h3⟩
    exact ⟨rfl, ⟨st', h1.mono (by omega), h2.mono fun _ _ => trivial⟩, h3⟩
set_option maxHeartbeats 2000000 in
theorem touch_any {Y : Rest} {S : Nat → Prop} {w : World} {sb n k : Nat} {f : Nat → Option Nat} {M st : Nat → Int} (h : StoreAt Y S w sb n f k M st) (a b : Nat) (hab : a < b) (hc : b ≤ 274877906944) (hn : n < 80000000) (hS : ∀ b, w.heap.size ≤ b → S b) :
    Calls Tryz.prog 40 #[.pointer (some ⟨sb, 1, none⟩), .int .u64 (a : Int), .int .u64 (b : Int)] w fun e w' => e = .returned (.tuple #[]) ∧ (∃ st', StoreAt Y S w' sb (n + 8192) f k M st' ∧ Rise st st' (fun p => a / 4096 ≤ p ∧ p ≤ (b - 1) / 4096)) ∧ Fr S w w' := by
  have cw := fun W => pwithin_in (a : Int) (b : Int) W (by omega)
  have ce := fun W => empty_any (a : Int) (b : Int) W
  rw [decide_eq_false (by omega)] at ce
  have cst := fun (W : World) (S' : Nat → Prop) (hW : StoreAt Y S' W sb n f k M st) (hS' : ∀ b, W.heap.size ≤ b → S' b) => stampAll_any hW a b hab hc hn hS'
  have HH := Lib.hid h; clear h
  have HS := Lib.hid hS; clear hS
  have CW := Lib.hid cw; clear cw
  have CE := Lib.hid ce; clear ce
  have CST := Lib.hid cst; clear cst
  generalize (a : Int) = A at *
  generalize (b : Int) = B at *
  unfold span at *
  go_enter Tryz.func40, Tryz.ntmps40
  go_wp2_with fail
  refine (CW.out _).mono ?_
  rintro e w1 ⟨rfl, bl1⟩
  have h1 : StoreAt Y (less S w1.heap.size) (w1.alloc (box48 A B)) sb n f k M st := (HH.out.bl bl1).less _
  have hS1 : ∀ b, w1.heap.size ≤ b → S b := fun b hb => HS.out b (Nat.le_trans bl1.size hb)
  have fr1 : Fr (less S w1.heap.size) (w1.alloc (box48 A B)) (w1.alloc (box48 A B)) := Fr.refl _ _
  have FR1 := Lib.hid fr1; clear fr1
  have H1 := Lib.hid h1; clear h1
  have HS1 := Lib.hid hS1; clear hS1
  have BL1 := Lib.hid bl1; clear bl1
  go_wp2_with fail
  refine (CE.out _).mono ?_
  rintro e w2 ⟨rfl, bl2⟩
  have fr2 := FR1.out.trans (Fr.of_bl bl2)
  have h2 := H1.out.bl bl2
  obtain ⟨c0, c1⟩ := two_cells (box_at fr2)
  have FR2 := Lib.hid fr2; clear fr2 FR1 bl2
  have H2 := Lib.hid h2; clear h2 H1
  go_wp2_with fail
  refine (CST.out _ _ H2.out (less_new HS1.out FR2.out.size)).mono ?_
  rintro e w3 ⟨rfl, ⟨st', h3, r3⟩, fr3⟩
  have FR3 := Lib.hid (FR2.out.trans fr3)
  have H3 := Lib.hid (h3.among (T := S) (fun _ _ e => e.1))
  have R3 := Lib.hid r3
  clear c0 c1 h3 r3 fr3
  go_wp2_with fail
  go_end0
  exact ⟨rfl, ⟨st', H3.out, R3.out⟩, (Fr.of_bl BL1.out).trans FR3.out.unless⟩
end Go.Proofs.YtbngjbmfkekdnaaGreatDoor
