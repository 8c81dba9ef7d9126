/-
  The contract of a cache's Fetch, on, off and none: what is there now.
  Which prot a place has, as the law asks it.
  Clear of a wide span of whole pages: whatever pages are held, in whatever order they come.
  Clear of a wide span of whole pages.
-/
import Derived.Test.YtbngjbmfkekdnaaGreatDoorQ18
import Derived.Test.YtbngjbmfkekdnaaGreatDoorQ8
import Derived.Test.YtbngjbmfkekdnaaGreatDoorQ7
set_option linter.unusedVariables false
set_option linter.unusedSimpArgs false
namespace Go.Proofs.YtbngjbmfkekdnaaGreatDoor
open Go.RowKit
set_option maxRecDepth 100000
/-- What spaces are like: by their blocks, regions, bytes, stamps. -/
abbrev Sps := Nat → List Rg → (Nat → Int) → (Nat → Int) → Prop
/-- What is kept at p is what is there, as long as the stamps are the same. -/
def Good (R : Sps) (p : Nat) (e : Ent) : Prop := (e.i.sz = 2 ∨ e.i.sz = 4) ∧ p < 274877906944 ∧ (∃ L M st, R e.sb L M st) ∧ ∀ L M st, R e.sb L M st → e.f ≤ st (p / 4096) ∧ e.l ≤ st ((p + e.i.sz.toNat - 1) / 4096) ∧ (e.f = st (p / 4096) → e.l = st ((p + e.i.sz.toNat - 1) / 4096) → AnsIs L M p ⟨e.i, 0, 0, 0⟩)
def Inv (R : Sps) (g : Nat → Option Ent) : Prop := ∀ p e, g p = some e → Good R p e
theorem Inv.none_ (R : Sps) : Inv R noEnt := fun p e h => by cases h
/-- One space is what it is. -/
def Sole (R : Sps) (sb : Nat) (L : List Rg) (M st : Nat → Int) : Prop := R sb L M st ∧ ∀ L' M' st', R sb L' M' st' → L' = L ∧ M' = M ∧ st' = st
def Blocks (R : Sps) (w : World) : Prop := ∀ b L M st, R b L M st → ∃ cs t, w.heap[b]? = some (.cells cs t (0, 0))
theorem Blocks.bl {R : Sps} {w w' : World} (h : Blocks R w) (k : Bl w w') : Blocks R w' := fun b L M st hr => by
  obtain ⟨cs, t, h1⟩ := h b L M st hr
  exact ⟨cs, t, k.at_ h1⟩
theorem Inv.del {R : Sps} {g : Nat → Option Ent} (h : Inv R g) (q : Nat) : Inv R (putE g q none) := fun p e he => by
  by_cases hp : p = q
  · subst hp; rw [putE_same] at he; cases he
  · rw [putE_other _ _ _ hp] at he; exact h p e he
theorem Inv.put {R : Sps} {g : Nat → Option Ent} (h : Inv R g) {q : Nat} {x : Ent} (hx : Good R q x) : Inv R (putE g q (some x)) := fun p e he => by
  by_cases hp : p = q
  · subst hp; rw [putE_same] at he; injection he with he; subst he; exact hx
  · rw [putE_other _ _ _ hp] at he; exact h p e he
theorem inv_put {R : Sps} {g g' : Nat → Option Ent} (h : Inv R g) {q : Nat} {x : Ent} (hx : Good R q x) (hg : g' = putE g q (some x) ∨ g' = putE noEnt q (some x)) : Inv R g' := by
  rcases hg with rfl | rfl
  · exact h.put hx
  · exact (Inv.none_ R).put hx
theorem good_new {R : Sps} {sb : Nat} {L : List Rg} {M st : Nat → Int} (hR : Sole R sb L M st) {pc : Nat} {i : Td.Ins} (h : AnsIs L M pc ⟨i, 0, 0, 0⟩) (hs : So 0 274877906944 L) : Good R pc ⟨i, sb, st (pc / 4096), st ((pc + i.sz.toNat - 1) / 4096)⟩ := by
  obtain ⟨h1, h2⟩ := h.size hs
  refine ⟨h1, h2, ⟨L, M, st, hR.1⟩, fun L' M' st' h' => ?_⟩
  obtain ⟨rfl, rfl, rfl⟩ := hR.2 L' M' st' h'
  exact ⟨Int.le_refl _, Int.le_refl _, fun _ _ => h⟩
theorem ans_ok {L : List Rg} {M : Nat → Int} {pc : Nat} {i : Td.Ins} {fk fa : Int} (h : AnsIs L M pc ⟨i, 0, fk, fa⟩) : fk = 0 ∧ fa = 0 := by
  obtain ⟨y, k, x, _, he⟩ := h
  unfold ansOf at he
  split at he
  · split at he
    · injection he with _ _ h1 h2; exact ⟨h1, h2⟩
    · injection he with _ h1; cases h1
  · injection he with _ h1; cases h1
theorem two_setF {S : Nat → Prop} {w0 w : World} {g g2 : Nat} {t t2 : TypeId} {a0 a1 a2 a3 a4 a5 a6 c d e : Value} (hne : g ≠ g2) (h : w.heap[g]? = some (.cells #[a0, a1, a2, a3, a4, a5, a6] t (0, 0))) (h2 : w.heap[g2]? = some (.cells #[c, d, e] t2 (0, 0)))
    (x0 x1 x2 x3 x4 x5 x6 p q r : Value) (f : Fr S w0 w) (hg : w0.heap.size ≤ g) (hg2 : w0.heap.size ≤ g2) :
    (((((((((((w.setCell ⟨g, 0, none⟩ x0).setCell ⟨g, 1, none⟩ x1).setCell ⟨g, 2, none⟩ x2).setCell ⟨g, 3, none⟩ x3).setCell ⟨g, 4, none⟩ x4).setCell ⟨g, 5, none⟩ x5).setCell ⟨g, 6, none⟩ x6).setCell ⟨g2, 0, none⟩ p).setCell ⟨g2, 1, none⟩ q).setCell ⟨g2, 2, none⟩ r)).heap[g]? = some (.cells #[x0, x1, x2, x3, x4, x5, x6] t (0, 0)) ∧
    (((((((((((w.setCell ⟨g, 0, none⟩ x0).setCell ⟨g, 1, none⟩ x1).setCell ⟨g, 2, none⟩ x2).setCell ⟨g, 3, none⟩ x3).setCell ⟨g, 4, none⟩ x4).setCell ⟨g, 5, none⟩ x5).setCell ⟨g, 6, none⟩ x6).setCell ⟨g2, 0, none⟩ p).setCell ⟨g2, 1, none⟩ q).setCell ⟨g2, 2, none⟩ r)).heap[g2]? = some (.cells #[p, q, r] t2 (0, 0)) ∧ Fr S w0 ((((((((((w.setCell ⟨g, 0, none⟩ x0).setCell ⟨g, 1, none⟩ x1).setCell ⟨g, 2, none⟩ x2).setCell ⟨g, 3, none⟩ x3).setCell ⟨g, 4, none⟩ x4).setCell ⟨g, 5, none⟩ x5).setCell ⟨g, 6, none⟩ x6).setCell ⟨g2, 0, none⟩ p).setCell ⟨g2, 1, none⟩ q).setCell ⟨g2, 2, none⟩ r) :=
  ⟨oth3 (set7 x0 x1 x2 x3 x4 x5 x6 h) (fun e => hne e.symm) p q r, set3 p q r (oth7 h2 hne x0 x1 x2 x3 x4 x5 x6), (f.bl7 hg x0 x1 x2 x3 x4 x5 x6).bl3 hg2 p q r⟩
theorem two_setF' {S : Nat → Prop} {w0 w : World} {g g2 : Nat} {t t2 : TypeId} {a0 a1 a2 a3 a4 a5 a6 c d e : Value} (hne : g ≠ g2) (h : w.heap[g]? = some (.cells #[a0, a1, a2, a3, a4, a5, a6] t (0, 0))) (h2 : w.heap[g2]? = some (.cells #[c, d, e] t2 (0, 0)))
    (x0 x1 x2 x3 x4 x5 x6 p q r : Value) (f : Fr S w0 w) (hg : w0.heap.size ≤ g) (hg2 : w0.heap.size ≤ g2) :
    (((((((((((w.setCell ⟨g2, 0, none⟩ p).setCell ⟨g2, 1, none⟩ q).setCell ⟨g2, 2, none⟩ r).setCell ⟨g, 0, none⟩ x0).setCell ⟨g, 1, none⟩ x1).setCell ⟨g, 2, none⟩ x2).setCell ⟨g, 3, none⟩ x3).setCell ⟨g, 4, none⟩ x4).setCell ⟨g, 5, none⟩ x5).setCell ⟨g, 6, none⟩ x6)).heap[g]? = some (.cells #[x0, x1, x2, x3, x4, x5, x6] t (0, 0)) ∧
    (((((((((((w.setCell ⟨g2, 0, none⟩ p).setCell ⟨g2, 1, none⟩ q).setCell ⟨g2, 2, none⟩ r).setCell ⟨g, 0, none⟩ x0).setCell ⟨g, 1, none⟩ x1).setCell ⟨g, 2, none⟩ x2).setCell ⟨g, 3, none⟩ x3).setCell ⟨g, 4, none⟩ x4).setCell ⟨g, 5, none⟩ x5).setCell ⟨g, 6, none⟩ x6)).heap[g2]? = some (.cells #[p, q, r] t2 (0, 0)) ∧ Fr S w0 ((((((((((w.setCell ⟨g2, 0, none⟩ p).setCell ⟨g2, 1, none⟩ q).setCell ⟨g2, 2, none⟩ r).setCell ⟨g, 0, none⟩ x0).setCell ⟨g, 1, none⟩ x1).setCell ⟨g, 2, none⟩ x2).setCell ⟨g, 3, none⟩ x3).setCell ⟨g, 4, none⟩ x4).setCell ⟨g, 5, none⟩ x5).setCell ⟨g, 6, none⟩ x6) :=
  ⟨set7 x0 x1 x2 x3 x4 x5 x6 (oth3 h (fun e => hne e.symm) p q r), oth7 (set3 p q r h2) hne x0 x1 x2 x3 x4 x5 x6, (f.bl3 hg2 p q r).bl7 hg x0 x1 x2 x3 x4 x5 x6⟩
section
variable {R : Sps} {T : Nat → Prop} {w : World} {sb n : Nat} {L : List Rg} {M st : Nat → Int} {mo ba en : Int} {cb B k : Nat} {g : Nat → Option Ent}
/-- What find answers: what is there now, or nothing. -/
def FindAny (R : Sps) (L : List Rg) (M : Nat → Int) (cb B k pc : Nat) (w : World) (e : Ending) (w' : World) : Prop :=
  (∃ i, AnsIs L M pc ⟨i, 0, 0, 0⟩ ∧ e = .returned (.tuple #[.agg i.cells, .bool true]) ∧ Bl w w' ∧ ∃ g' k', CA w' cb B g' k' ∧ k' ≤ k ∧ Inv R g') ∨
  (e = .returned (.tuple #[.agg (Td.I7 0 0 0 0 0 0 0), .bool false]) ∧ ∃ g' k', CA w' cb B g' k' ∧ k' ≤ k ∧ Inv R g' ∧ Fr (only B) w w')
theorem cfind_any (h : CA w cb B g k) (hI : Inv R g) (hR : Sole R sb L M st) (hRb : Blocks R w) (hm : MS T w sb n L M st mo ba en) (pc : Nat) (hpc : pc < 2 ^ 64) :
    Calls Tryz.prog 46 #[addr0 cb, addr0 sb, .int .u64 (pc : Int)] w (FindAny R L M cb B k pc w) := by
  cases hg : g pc with
  | none =>
    refine (find_none h sb pc hpc hg).mono ?_
    rintro e w' ⟨rfl, k1⟩
    exact Or.inr ⟨rfl, g, k, h.bl k1, Nat.le_refl _, hI, Fr.of_bl k1⟩
  | some x =>
    obtain ⟨h1, h2, ⟨L1, M1, st1, h3⟩, h4⟩ := hI pc x hg
    refine (find_some h hm pc h2 x hg h1 (hRb _ _ _ _ h3)).mono ?_
    rintro e w' (⟨⟨q1, q2, q3⟩, rfl, k1⟩ | ⟨hn, rfl, ⟨k', hc, hk'⟩, hf⟩)
    · refine Or.inl ⟨x.i, ?_, rfl, k1, g, k, h.bl k1, Nat.le_refl _, hI⟩
      exact (h4 L M st (by rw [q1]; exact hR.1)).2.2 q2 q3
    · exact Or.inr ⟨rfl, _, k', hc, hk', hI.del pc, hf⟩
/-- What a Fetch answers, of a cache that is on. -/
def OnPost (R : Sps) (L : List Rg) (M : Nat → Int) (cb B pc : Nat) (w : World) (e : Ending) (w' : World) : Prop :=
  ∃ A, AnsIs L M pc A ∧ e = .returned A.v ∧ (∃ g' k', CA w' cb B g' k' ∧ k' ≤ 4096 ∧ Inv R g') ∧ Fr (only B) w w'
def OffPost (L : List Rg) (M : Nat → Int) (pc : Nat) (w : World) (e : Ending) (w' : World) : Prop := ∃ A, AnsIs L M pc A ∧ e = .returned A.v ∧ Bl w w'
set_option maxHeartbeats 4000000 in
theorem fetch_on (h : CA w cb B g k) (hk : k ≤ 4096) (hI : Inv R g) (hR : Sole R sb L M st) (hRb : Blocks R w) (hTB : ¬ T B) (hB : 21 ≤ B) (hm : MS T w sb n L M st mo ba en) (hT : Td.TabsS w) (pc : Nat) (hpc : pc < 2 ^ 64) :
    Calls Tryz.prog 23 #[addr0 cb, addr0 sb, .int .u64 (pc : Int)] w (OnPost R L M cb B pc w) := by
  have K0 := Lib.hid ((Bl.new w (.cells (Td.I7 0 0 0 0 0 0 0) 47)).alloc (.cells #[.int .i64 0, .int .i64 0, .int .u64 0] 49))
  have A0 := Lib.hid ((Bl.new (w.alloc (.cells (Td.I7 0 0 0 0 0 0 0) 47)) (.cells #[.int .i64 0, .int .i64 0, .int .u64 0] 49)).at_ (heap_alloc_new w (.cells (Td.I7 0 0 0 0 0 0 0) 47)))
  have A1 := Lib.hid (new_next w (.cells (Td.I7 0 0 0 0 0 0 0) 47) (.cells #[.int .i64 0, .int .i64 0, .int .u64 0] 49))
  have hpcI : (pc : Int) ≤ 18446744073709551615 := by omega
  have cf := cfind_any (h.bl K0.out) hI hR (hRb.bl K0.out) (hm.bl K0.out) pc hpc
  have hltB := h.map.lt
  have hltC := lt_at h.blk
  have cd := fun W (k : Fr (only B) w W) => cdecode_any (hm.kept k (fun b hb e => hTB (by rw [← show b = B from e]; exact hb))) (hT.fr k (fun g hg e => by have e' : g = B := e; omega)) pc hpc
  have ck := fun W g' k' i (kk : Fr (only B) w W) (hc : CA W cb B g' k') (hk' : k' ≤ 4096) (hp : pc < 274877906944) (hs : i.sz = 2 ∨ i.sz = 4) => keep_on hc hk' (hm.kept kk (fun b hb e => hTB (by rw [← show b = B from e]; exact hb))) hTB pc hp i hs
  have HSO := Lib.hid hm.so
  have HR := Lib.hid hR; clear hR
  have HK := Lib.hid hk; clear hk
  clear h hI hRb hm hT hTB hB
  have CF := Lib.hid cf; clear cf
  have CD := Lib.hid cd; clear cd
  have CK := Lib.hid ck; clear ck
  unfold addr0 at *
  go_enter Tryz.func23, Tryz.ntmps23
  go_wp2_with fail
  with_reducible refine CF.out.mono ?_
  rintro e w1 (⟨⟨a0, a1, a2, a3, a4, a5, a6⟩, han, rfl, hf, hc⟩ | ⟨rfl, g1', k1, hc, hk1, hI1, hf⟩)
  · unfold Td.Ins.cells
    have HAN := Lib.hid han; clear han
    have HC := Lib.hid hc; clear hc
    have F1 := Lib.hid ((Fr.of_bl (S := only B) K0.out).trans (Fr.of_bl hf))
    have B0 := Lib.hid (hf.at_ A0.out)
    have B1 := Lib.hid (hf.at_ A1.out)
    have hlt1 : w.heap.size + 1 < w1.heap.size := lt_at B1.out
    clear hf CF CD CK
    go_upto_region 2 with (fail)
    have F2 := Lib.hid (F1.out.trans (Fr.of_bl (S := only B) (Bl.new w1 (.cells (Td.I7 a0 a1 a2 a3 a4 a5 a6) 47))))
    have C0 := Lib.hid ((Bl.new w1 (.cells (Td.I7 a0 a1 a2 a3 a4 a5 a6) 47)).at_ B0.out)
    have C1 := Lib.hid ((Bl.new w1 (.cells (Td.I7 a0 a1 a2 a3 a4 a5 a6) 47)).at_ B1.out)
    have C2 := Lib.hid (heap_alloc_new w1 (.cells (Td.I7 a0 a1 a2 a3 a4 a5 a6) 47))
    obtain ⟨g9, k9, HC9⟩ : ∃ g9 k9, Hid (CA (w1.alloc (.cells (Td.I7 a0 a1 a2 a3 a4 a5 a6) 47)) cb B g9 k9 ∧ k9 ≤ 4096 ∧ Inv R g9) := by
      obtain ⟨g9, k9, q1, q2, q3⟩ := HC.out
      exact ⟨g9, k9, Lib.hid ⟨q1.bl (Bl.new _ _), by have := HK.out; omega, q3⟩⟩
    generalize w1.alloc (.cells (Td.I7 a0 a1 a2 a3 a4 a5 a6) 47) = W at *
    obtain ⟨d0, d1, d2, d3, d4, d5, d6⟩ := seven_at C2.out
    obtain ⟨e0, e1, e2, e3, e4, e5, e6⟩ := seven_at C0.out
    obtain ⟨g0, g1, g2⟩ := three_at C1.out
    have z0 := free_at C0.out
    have z1 := free_at C1.out
    go_wp2_with fail
    (try simp only [Exit.inBlock, Exit.then])
    obtain ⟨s1, s2, s3⟩ := two_setF (S := only B) (w0 := w) (g := w.heap.size) (g2 := w.heap.size + 1) (by omega) C0.out C1.out (.int .i64 a0) (.int .i64 a1) (.int .i64 a2) (.int .i64 a3) (.int .i64 a4) (.int .i64 a5) (.int .i64 a6) (.int .i64 0) (.int .i64 0) (.int .u64 0) F2.out (by omega) (by omega)
    refine bodyPost_ret (results_rows2 rfl _ _ w.heap.size (w.heap.size + 1) 47 49 _ _ (0, 0) (0, 0) _ _ rfl s1 Tryz.underlying47 rfl (by kernel_rfl) rfl s2 Tryz.underlying49 rfl (by kernel_rfl)) rfl ?_
    exact ⟨_, HAN.out, rfl, ⟨g9, k9, (HC9.out.1.bl7 (by omega) (by omega) _ _ _ _ _ _ _).bl3 (by omega) (by omega) _ _ _, HC9.out.2.1, HC9.out.2.2⟩, s3⟩
  · have HC := Lib.hid hc; clear hc
    have HI1 := Lib.hid hI1; clear hI1
    have hk1' : k1 ≤ 4096 := Nat.le_trans hk1 HK.out
    have F1 := Lib.hid ((Fr.of_bl (S := only B) K0.out).trans hf)
    have B0 := Lib.hid (hf.at_ A0.out (fun e => by have e' : w.heap.size = B := e; omega))
    have B1 := Lib.hid (hf.at_ A1.out (fun e => by have e' : w.heap.size + 1 = B := e; omega))
    have hlt1 : w.heap.size + 1 < w1.heap.size := lt_at B1.out
    clear hf CF
    go_upto_region 2 with (fail)
    have F2 := Lib.hid (F1.out.trans (Fr.of_bl (S := only B) (Bl.new w1 (.cells (Td.I7 0 0 0 0 0 0 0) 47))))
    have C0 := Lib.hid ((Bl.new w1 (.cells (Td.I7 0 0 0 0 0 0 0) 47)).at_ B0.out)
    have C1 := Lib.hid ((Bl.new w1 (.cells (Td.I7 0 0 0 0 0 0 0) 47)).at_ B1.out)
    have HC2 := Lib.hid (HC.out.bl (Bl.new w1 (.cells (Td.I7 0 0 0 0 0 0 0) 47)))
    generalize w1.alloc (.cells (Td.I7 0 0 0 0 0 0 0) 47) = W at *
    go_wp2_with fail
    with_reducible refine (CD.out _ F2.out).mono ?_
    rintro e w2 ⟨⟨⟨a0, a1, a2, a3, a4, a5, a6⟩, sk, fk, fa⟩, han, rfl, kk⟩
    unfold Ans.v stopC Td.Ins.cells
    have HAN := Lib.hid han; clear han
    have F3 := Lib.hid (F2.out.trans (Fr.of_bl (S := only B) kk))
    have E0 := Lib.hid (kk.at_ C0.out)
    have E1 := Lib.hid (kk.at_ C1.out)
    have hlt2 : w.heap.size + 1 < w2.heap.size := lt_at E1.out
    have HC3 := Lib.hid (HC2.out.bl kk)
    obtain ⟨e0, e1, e2, e3, e4, e5, e6⟩ := seven_at E0.out
    obtain ⟨g0, g1, g2⟩ := three_at E1.out
    have z0 := free_at E0.out
    have z1 := free_at E1.out
    clear kk CD
    go_upto_region 5 with (fail)
    obtain ⟨s1, s2, s3⟩ := two_setF (S := only B) (w0 := w) (g := w.heap.size) (g2 := w.heap.size + 1) (by omega) E0.out E1.out (.int .i64 a0) (.int .i64 a1) (.int .i64 a2) (.int .i64 a3) (.int .i64 a4) (.int .i64 a5) (.int .i64 a6) (.int .i64 sk) (.int .i64 fk) (.int .u64 fa) F3.out (by omega) (by omega)
    have HC4 := Lib.hid ((HC3.out.bl7 (b := w.heap.size) (by omega) (by omega) (.int .i64 a0) (.int .i64 a1) (.int .i64 a2) (.int .i64 a3) (.int .i64 a4) (.int .i64 a5) (.int .i64 a6)).bl3 (b := w.heap.size + 1) (by omega) (by omega) (.int .i64 sk) (.int .i64 fk) (.int .u64 fa))
    have S1 := Lib.hid s1; clear s1
    have S2 := Lib.hid s2; clear s2
    have S3 := Lib.hid s3; clear s3
    clear e0 e1 e2 e3 e4 e5 e6 g0 g1 g2 z0 z1
    generalize ((((((((((w2.setCell ⟨w.heap.size, 0, none⟩ (.int .i64 a0)).setCell ⟨w.heap.size, 1, none⟩ (.int .i64 a1)).setCell ⟨w.heap.size, 2, none⟩ (.int .i64 a2)).setCell ⟨w.heap.size, 3, none⟩ (.int .i64 a3)).setCell ⟨w.heap.size, 4, none⟩ (.int .i64 a4)).setCell ⟨w.heap.size, 5, none⟩ (.int .i64 a5)).setCell ⟨w.heap.size, 6, none⟩ (.int .i64 a6)).setCell ⟨w.heap.size + 1, 0, none⟩ (.int .i64 sk)).setCell ⟨w.heap.size + 1, 1, none⟩ (.int .i64 fk)).setCell ⟨w.heap.size + 1, 2, none⟩ (.int .u64 fa)) = V at *
    obtain ⟨e0, e1, e2, e3, e4, e5, e6⟩ := seven_at S1.out
    obtain ⟨g0, g1, g2⟩ := three_at S2.out
    have z0 := free_at S1.out
    have z1 := free_at S2.out
    by_cases hsk : sk = 0
    · subst hsk
      obtain ⟨rfl, rfl⟩ := ans_ok HAN.out
      obtain ⟨hsz, hpt⟩ := HAN.out.size HSO.out
      go_wp2_with fail
      with_reducible refine (CK.out V g1' k1 ⟨a0, a1, a2, a3, a4, a5, a6⟩ S3.out HC4.out hk1' hpt hsz).mono ?_
      rintro e w4 ⟨rfl, ⟨g4, k4, hc4, hk4, hg4⟩, hf4⟩
      have HC5 := Lib.hid hc4; clear hc4
      have HI4 : Hid (Inv R g4) := Lib.hid (inv_put HI1.out (good_new HR.out HAN.out HSO.out) hg4)
      have F5 := Lib.hid (S3.out.trans hf4)
      have G1 := Lib.hid (hf4.at_ S1.out (fun e => by have e' : w.heap.size = B := e; omega))
      have G2 := Lib.hid (hf4.at_ S2.out (fun e => by have e' : w.heap.size + 1 = B := e; omega))
      have HK4 := Lib.hid hk4
      clear hf4 hg4 hk4
      clear e0 e1 e2 e3 e4 e5 e6 g0 g1 g2 z0 z1
      obtain ⟨e0, e1, e2, e3, e4, e5, e6⟩ := seven_at G1.out
      obtain ⟨g0, g1, g2⟩ := three_at G2.out
      have z0 := free_at G1.out
      have z1 := free_at G2.out
      go_wp2_with fail
      go_region
      all_goals (
        (try go_wp2_with fail)
        (try simp only [Exit.inBlock, Exit.then])
        first
        | (obtain ⟨s1, s2, s3⟩ := two_setF (S := only B) (w0 := w) (g := w.heap.size) (g2 := w.heap.size + 1) (by omega) G1.out G2.out (.int .i64 a0) (.int .i64 a1) (.int .i64 a2) (.int .i64 a3) (.int .i64 a4) (.int .i64 a5) (.int .i64 a6) (.int .i64 0) (.int .i64 0) (.int .u64 0) F5.out (by omega) (by omega)
           refine bodyPost_ret (results_rows2 rfl _ _ w.heap.size (w.heap.size + 1) 47 49 _ _ (0, 0) (0, 0) _ _ rfl (drew_at s1) Tryz.underlying47 rfl (by kernel_rfl) rfl (drew_at s2) Tryz.underlying49 rfl (by kernel_rfl)) rfl ?_
           exact ⟨_, HAN.out, rfl, ⟨_, _, ((HC5.out.bl7 (by omega) (by omega) _ _ _ _ _ _ _).bl3 (by omega) (by omega) _ _ _).bl ((Bl.refl _).drew), HK4.out, HI4.out⟩, s3.drew⟩)
        | (obtain ⟨s1, s2, s3⟩ := two_setF' (S := only B) (w0 := w) (g := w.heap.size) (g2 := w.heap.size + 1) (by omega) G1.out G2.out (.int .i64 a0) (.int .i64 a1) (.int .i64 a2) (.int .i64 a3) (.int .i64 a4) (.int .i64 a5) (.int .i64 a6) (.int .i64 0) (.int .i64 0) (.int .u64 0) F5.out (by omega) (by omega)
           refine bodyPost_ret (results_rows2 rfl _ _ w.heap.size (w.heap.size + 1) 47 49 _ _ (0, 0) (0, 0) _ _ rfl (drew_at s1) Tryz.underlying47 rfl (by kernel_rfl) rfl (drew_at s2) Tryz.underlying49 rfl (by kernel_rfl)) rfl ?_
           exact ⟨_, HAN.out, rfl, ⟨_, _, ((HC5.out.bl3 (by omega) (by omega) _ _ _).bl7 (by omega) (by omega) _ _ _ _ _ _ _).bl ((Bl.refl _).drew), HK4.out, HI4.out⟩, s3.drew⟩))
    · have tk : (sk == 0) = false := by simp [hsk]
      clear hsk CK
      clear e0 e1 e2 e3 e4 e5 e6 g0 g1 g2 z0 z1
      obtain ⟨e0, e1, e2, e3, e4, e5, e6⟩ := seven_at S1.out
      obtain ⟨g0, g1, g2⟩ := three_at S2.out
      have z0 := free_at S1.out
      have z1 := free_at S2.out
      go_wp2_with fail
      go_region
      all_goals (
        (try go_wp2_with fail)
        (try simp only [Exit.inBlock, Exit.then])
        first
        | (obtain ⟨s1, s2, s3⟩ := two_setF (S := only B) (w0 := w) (g := w.heap.size) (g2 := w.heap.size + 1) (by omega) S1.out S2.out (.int .i64 a0) (.int .i64 a1) (.int .i64 a2) (.int .i64 a3) (.int .i64 a4) (.int .i64 a5) (.int .i64 a6) (.int .i64 sk) (.int .i64 fk) (.int .u64 fa) S3.out (by omega) (by omega)
           refine bodyPost_ret (results_rows2 rfl _ _ w.heap.size (w.heap.size + 1) 47 49 _ _ (0, 0) (0, 0) _ _ rfl (drew_at s1) Tryz.underlying47 rfl (by kernel_rfl) rfl (drew_at s2) Tryz.underlying49 rfl (by kernel_rfl)) rfl ?_
           exact ⟨_, HAN.out, rfl, ⟨_, _, ((HC4.out.bl7 (by omega) (by omega) _ _ _ _ _ _ _).bl3 (by omega) (by omega) _ _ _).bl ((Bl.refl _).drew), hk1', HI1.out⟩, s3.drew⟩)
        | (obtain ⟨s1, s2, s3⟩ := two_setF' (S := only B) (w0 := w) (g := w.heap.size) (g2 := w.heap.size + 1) (by omega) S1.out S2.out (.int .i64 a0) (.int .i64 a1) (.int .i64 a2) (.int .i64 a3) (.int .i64 a4) (.int .i64 a5) (.int .i64 a6) (.int .i64 sk) (.int .i64 fk) (.int .u64 fa) S3.out (by omega) (by omega)
           refine bodyPost_ret (results_rows2 rfl _ _ w.heap.size (w.heap.size + 1) 47 49 _ _ (0, 0) (0, 0) _ _ rfl (drew_at s1) Tryz.underlying47 rfl (by kernel_rfl) rfl (drew_at s2) Tryz.underlying49 rfl (by kernel_rfl)) rfl ?_
           exact ⟨_, HAN.out, rfl, ⟨_, _, ((HC4.out.bl3 (by omega) (by omega) _ _ _).bl7 (by omega) (by omega) _ _ _ _ _ _ _).bl ((Bl.refl _).drew), hk1', HI1.out⟩, s3.drew⟩))
set_option maxHeartbeats 4000000 in
theorem fetch_off (h : COff w cb) (hm : MS T w sb n L M st mo ba en) (hT : Td.TabsS w) (pc : Nat) (hpc : pc < 2 ^ 64) :
    Calls Tryz.prog 23 #[addr0 cb, addr0 sb, .int .u64 (pc : Int)] w (OffPost L M pc w) := by
  have K0 := Lib.hid ((Bl.new w (.cells (Td.I7 0 0 0 0 0 0 0) 47)).alloc (.cells #[.int .i64 0, .int .i64 0, .int .u64 0] 49))
  have A0 := Lib.hid ((Bl.new (w.alloc (.cells (Td.I7 0 0 0 0 0 0 0) 47)) (.cells #[.int .i64 0, .int .i64 0, .int .u64 0] 49)).at_ (heap_alloc_new w (.cells (Td.I7 0 0 0 0 0 0 0) 47)))
  have A1 := Lib.hid (new_next w (.cells (Td.I7 0 0 0 0 0 0 0) 47) (.cells #[.int .i64 0, .int .i64 0, .int .u64 0] 49))
  have hpcI : (pc : Int) ≤ 18446744073709551615 := by omega
  have cf := find_off (h.bl K0.out) sb pc hpc
  have cd := fun W (k : Bl w W) => cdecode_any (hm.bl k) (hT.bl k) pc hpc
  have ck := fun W i (kk : Bl w W) => keep_off (h.bl kk) sb pc i
  clear hm hT h
  have CF := Lib.hid cf; clear cf
  have CD := Lib.hid cd; clear cd
  have CK := Lib.hid ck; clear ck
  unfold addr0 at *
  go_enter Tryz.func23, Tryz.ntmps23
  go_wp2_with fail
  with_reducible refine CF.out.mono ?_
  rintro e w1 ⟨rfl, hf⟩
  · have F1 := Lib.hid (K0.out.trans hf)
    have B0 := Lib.hid (hf.at_ A0.out)
    have B1 := Lib.hid (hf.at_ A1.out)
    have hlt1 : w.heap.size + 1 < w1.heap.size := lt_at B1.out
    clear hf CF
    go_upto_region 2 with (fail)
    have F2 := Lib.hid (F1.out.trans (Bl.new w1 (.cells (Td.I7 0 0 0 0 0 0 0) 47)))
    have C0 := Lib.hid ((Bl.new w1 (.cells (Td.I7 0 0 0 0 0 0 0) 47)).at_ B0.out)
    have C1 := Lib.hid ((Bl.new w1 (.cells (Td.I7 0 0 0 0 0 0 0) 47)).at_ B1.out)
    generalize w1.alloc (.cells (Td.I7 0 0 0 0 0 0 0) 47) = W at *
    go_wp2_with fail
    with_reducible refine (CD.out _ F2.out).mono ?_
    rintro e w2 ⟨⟨⟨a0, a1, a2, a3, a4, a5, a6⟩, sk, fk, fa⟩, han, rfl, kk⟩
    unfold Ans.v stopC Td.Ins.cells
    have HAN := Lib.hid han; clear han
    have F3 := Lib.hid (F2.out.trans kk)
    have E0 := Lib.hid (kk.at_ C0.out)
    have E1 := Lib.hid (kk.at_ C1.out)
    have hlt2 : w.heap.size + 1 < w2.heap.size := lt_at E1.out
    obtain ⟨e0, e1, e2, e3, e4, e5, e6⟩ := seven_at E0.out
    obtain ⟨g0, g1, g2⟩ := three_at E1.out
    have z0 := free_at E0.out
    have z1 := free_at E1.out
    clear kk CD
    go_upto_region 5 with (fail)
    obtain ⟨s1, s2, s3⟩ := two_set (w0 := w) (g := w.heap.size) (g2 := w.heap.size + 1) (by omega) E0.out E1.out (.int .i64 a0) (.int .i64 a1) (.int .i64 a2) (.int .i64 a3) (.int .i64 a4) (.int .i64 a5) (.int .i64 a6) (.int .i64 sk) (.int .i64 fk) (.int .u64 fa) F3.out (by omega) (by omega)
    have S1 := Lib.hid s1; clear s1
    have S2 := Lib.hid s2; clear s2
    have S3 := Lib.hid s3; clear s3
    clear e0 e1 e2 e3 e4 e5 e6 g0 g1 g2 z0 z1
    generalize ((((((((((w2.setCell ⟨w.heap.size, 0, none⟩ (.int .i64 a0)).setCell ⟨w.heap.size, 1, none⟩ (.int .i64 a1)).setCell ⟨w.heap.size, 2, none⟩ (.int .i64 a2)).setCell ⟨w.heap.size, 3, none⟩ (.int .i64 a3)).setCell ⟨w.heap.size, 4, none⟩ (.int .i64 a4)).setCell ⟨w.heap.size, 5, none⟩ (.int .i64 a5)).setCell ⟨w.heap.size, 6, none⟩ (.int .i64 a6)).setCell ⟨w.heap.size + 1, 0, none⟩ (.int .i64 sk)).setCell ⟨w.heap.size + 1, 1, none⟩ (.int .i64 fk)).setCell ⟨w.heap.size + 1, 2, none⟩ (.int .u64 fa)) = V at *
    obtain ⟨e0, e1, e2, e3, e4, e5, e6⟩ := seven_at S1.out
    obtain ⟨g0, g1, g2⟩ := three_at S2.out
    have z0 := free_at S1.out
    have z1 := free_at S2.out
    by_cases hsk : sk = 0
    · subst hsk
      obtain ⟨rfl, rfl⟩ := ans_ok HAN.out
      go_wp2_with fail
      with_reducible refine (CK.out V ⟨a0, a1, a2, a3, a4, a5, a6⟩ S3.out).mono ?_
      rintro e w4 ⟨rfl, kk⟩
      have F5 := Lib.hid (S3.out.trans kk)
      have G1 := Lib.hid (kk.at_ S1.out)
      have G2 := Lib.hid (kk.at_ S2.out)
      clear kk
      clear e0 e1 e2 e3 e4 e5 e6 g0 g1 g2 z0 z1
      obtain ⟨e0, e1, e2, e3, e4, e5, e6⟩ := seven_at G1.out
      obtain ⟨g0, g1, g2⟩ := three_at G2.out
      have z0 := free_at G1.out
      have z1 := free_at G2.out
      go_wp2_with fail
      go_region
      all_goals (
        (try go_wp2_with fail)
        (try simp only [Exit.inBlock, Exit.then])
        first
        | (obtain ⟨s1, s2, s3⟩ := two_set (w0 := w) (g := w.heap.size) (g2 := w.heap.size + 1) (by omega) G1.out G2.out (.int .i64 a0) (.int .i64 a1) (.int .i64 a2) (.int .i64 a3) (.int .i64 a4) (.int .i64 a5) (.int .i64 a6) (.int .i64 0) (.int .i64 0) (.int .u64 0) F5.out (by omega) (by omega)
           refine bodyPost_ret (results_rows2 rfl _ _ w.heap.size (w.heap.size + 1) 47 49 _ _ (0, 0) (0, 0) _ _ rfl (drew_at s1) Tryz.underlying47 rfl (by kernel_rfl) rfl (drew_at s2) Tryz.underlying49 rfl (by kernel_rfl)) rfl ?_
           exact ⟨_, HAN.out, rfl, s3.drew⟩)
        | (obtain ⟨s1, s2, s3⟩ := two_set' (w0 := w) (g := w.heap.size) (g2 := w.heap.size + 1) (by omega) G1.out G2.out (.int .i64 a0) (.int .i64 a1) (.int .i64 a2) (.int .i64 a3) (.int .i64 a4) (.int .i64 a5) (.int .i64 a6) (.int .i64 0) (.int .i64 0) (.int .u64 0) F5.out (by omega) (by omega)
           refine bodyPost_ret (results_rows2 rfl _ _ w.heap.size (w.heap.size + 1) 47 49 _ _ (0, 0) (0, 0) _ _ rfl (drew_at s1) Tryz.underlying47 rfl (by kernel_rfl) rfl (drew_at s2) Tryz.underlying49 rfl (by kernel_rfl)) rfl ?_
           exact ⟨_, HAN.out, rfl, s3.drew⟩))
    · have tk : (sk == 0) = false := by simp [hsk]
      clear hsk CK
      clear e0 e1 e2 e3 e4 e5 e6 g0 g1 g2 z0 z1
      obtain ⟨e0, e1, e2, e3, e4, e5, e6⟩ := seven_at S1.out
      obtain ⟨g0, g1, g2⟩ := three_at S2.out
      have z0 := free_at S1.out
      have z1 := free_at S2.out
      go_wp2_with fail
      go_region
      all_goals (
        (try go_wp2_with fail)
        (try simp only [Exit.inBlock, Exit.then])
        first
        | (obtain ⟨s1, s2, s3⟩ := two_set (w0 := w) (g := w.heap.size) (g2 := w.heap.size + 1) (by omega) S1.out S2.out (.int .i64 a0) (.int .i64 a1) (.int .i64 a2) (.int .i64 a3) (.int .i64 a4) (.int .i64 a5) (.int .i64 a6) (.int .i64 sk) (.int .i64 fk) (.int .u64 fa) S3.out (by omega) (by omega)
           refine bodyPost_ret (results_rows2 rfl _ _ w.heap.size (w.heap.size + 1) 47 49 _ _ (0, 0) (0, 0) _ _ rfl (drew_at s1) Tryz.underlying47 rfl (by kernel_rfl) rfl (drew_at s2) Tryz.underlying49 rfl (by kernel_rfl)) rfl ?_
           exact ⟨_, HAN.out, rfl, s3.drew⟩)
        | (obtain ⟨s1, s2, s3⟩ := two_set' (w0 := w) (g := w.heap.size) (g2 := w.heap.size + 1) (by omega) S1.out S2.out (.int .i64 a0) (.int .i64 a1) (.int .i64 a2) (.int .i64 a3) (.int .i64 a4) (.int .i64 a5) (.int .i64 a6) (.int .i64 sk) (.int .i64 fk) (.int .u64 fa) S3.out (by omega) (by omega)
           refine bodyPost_ret (results_rows2 rfl _ _ w.heap.size (w.heap.size + 1) 47 49 _ _ (0, 0) (0, 0) _ _ rfl (drew_at s1) Tryz.underlying47 rfl (by kernel_rfl) rfl (drew_at s2) Tryz.underlying49 rfl (by kernel_rfl)) rfl ?_
           exact ⟨_, HAN.out, rfl, s3.drew⟩))
set_option maxHeartbeats 4000000 in
theorem fetch_nil (hm : MS T w sb n L M st mo ba en) (hT : Td.TabsS w) (pc : Nat) (hpc : pc < 2 ^ 64) :
    Calls Tryz.prog 23 #[.pointer none, addr0 sb, .int .u64 (pc : Int)] w (OffPost L M pc w) := by
  have K0 := Lib.hid ((Bl.new w (.cells (Td.I7 0 0 0 0 0 0 0) 47)).alloc (.cells #[.int .i64 0, .int .i64 0, .int .u64 0] 49))
  have A0 := Lib.hid ((Bl.new (w.alloc (.cells (Td.I7 0 0 0 0 0 0 0) 47)) (.cells #[.int .i64 0, .int .i64 0, .int .u64 0] 49)).at_ (heap_alloc_new w (.cells (Td.I7 0 0 0 0 0 0 0) 47)))
  have A1 := Lib.hid (new_next w (.cells (Td.I7 0 0 0 0 0 0 0) 47) (.cells #[.int .i64 0, .int .i64 0, .int .u64 0] 49))
  have hpcI : (pc : Int) ≤ 18446744073709551615 := by omega
  have cf := find_nil sb pc ((w.alloc (.cells (Td.I7 0 0 0 0 0 0 0) 47)).alloc (.cells #[.int .i64 0, .int .i64 0, .int .u64 0] 49))
  have cd := fun W (k : Bl w W) => cdecode_any (hm.bl k) (hT.bl k) pc hpc
  have ck := fun W i (kk : Bl w W) => keep_nil sb pc i W
  clear hm hT
  have CF := Lib.hid cf; clear cf
  have CD := Lib.hid cd; clear cd
  have CK := Lib.hid ck; clear ck
  unfold addr0 at *
  go_enter Tryz.func23, Tryz.ntmps23
  go_wp2_with fail
  with_reducible refine CF.out.mono ?_
  rintro e w1 ⟨rfl, hf⟩
  · have F1 := Lib.hid (K0.out.trans hf)
    have B0 := Lib.hid (hf.at_ A0.out)
    have B1 := Lib.hid (hf.at_ A1.out)
    have hlt1 : w.heap.size + 1 < w1.heap.size := lt_at B1.out
    clear hf CF
    go_upto_region 2 with (fail)
    have F2 := Lib.hid (F1.out.trans (Bl.new w1 (.cells (Td.I7 0 0 0 0 0 0 0) 47)))
    have C0 := Lib.hid ((Bl.new w1 (.cells (Td.I7 0 0 0 0 0 0 0) 47)).at_ B0.out)
    have C1 := Lib.hid ((Bl.new w1 (.cells (Td.I7 0 0 0 0 0 0 0) 47)).at_ B1.out)
    generalize w1.alloc (.cells (Td.I7 0 0 0 0 0 0 0) 47) = W at *
    go_wp2_with fail
    with_reducible refine (CD.out _ F2.out).mono ?_
    rintro e w2 ⟨⟨⟨a0, a1, a2, a3, a4, a5, a6⟩, sk, fk, fa⟩, han, rfl, kk⟩
    unfold Ans.v stopC Td.Ins.cells
    have HAN := Lib.hid han; clear han
    have F3 := Lib.hid (F2.out.trans kk)
    have E0 := Lib.hid (kk.at_ C0.out)
    have E1 := Lib.hid (kk.at_ C1.out)
    have hlt2 : w.heap.size + 1 < w2.heap.size := lt_at E1.out
    obtain ⟨e0, e1, e2, e3, e4, e5, e6⟩ := seven_at E0.out
    obtain ⟨g0, g1, g2⟩ := three_at E1.out
    have z0 := free_at E0.out
    have z1 := free_at E1.out
    clear kk CD
    go_upto_region 5 with (fail)
    obtain ⟨s1, s2, s3⟩ := two_set (w0 := w) (g := w.heap.size) (g2 := w.heap.size + 1) (by omega) E0.out E1.out (.int .i64 a0) (.int .i64 a1) (.int .i64 a2) (.int .i64 a3) (.int .i64 a4) (.int .i64 a5) (.int .i64 a6) (.int .i64 sk) (.int .i64 fk) (.int .u64 fa) F3.out (by omega) (by omega)
    have S1 := Lib.hid s1; clear s1
    have S2 := Lib.hid s2; clear s2
    have S3 := Lib.hid s3; clear s3
    clear e0 e1 e2 e3 e4 e5 e6 g0 g1 g2 z0 z1
    generalize ((((((((((w2.setCell ⟨w.heap.size, 0, none⟩ (.int .i64 a0)).setCell ⟨w.heap.size, 1, none⟩ (.int .i64 a1)).setCell ⟨w.heap.size, 2, none⟩ (.int .i64 a2)).setCell ⟨w.heap.size, 3, none⟩ (.int .i64 a3)).setCell ⟨w.heap.size, 4, none⟩ (.int .i64 a4)).setCell ⟨w.heap.size, 5, none⟩ (.int .i64 a5)).setCell ⟨w.heap.size, 6, none⟩ (.int .i64 a6)).setCell ⟨w.heap.size + 1, 0, none⟩ (.int .i64 sk)).setCell ⟨w.heap.size + 1, 1, none⟩ (.int .i64 fk)).setCell ⟨w.heap.size + 1, 2, none⟩ (.int .u64 fa)) = V at *
    obtain ⟨e0, e1, e2, e3, e4, e5, e6⟩ := seven_at S1.out
    obtain ⟨g0, g1, g2⟩ := three_at S2.out
    have z0 := free_at S1.out
    have z1 := free_at S2.out
    by_cases hsk : sk = 0
    · subst hsk
      obtain ⟨rfl, rfl⟩ := ans_ok HAN.out
      go_wp2_with fail
      with_reducible refine (CK.out V ⟨a0, a1, a2, a3, a4, a5, a6⟩ S3.out).mono ?_
      rintro e w4 ⟨rfl, kk⟩
      have F5 := Lib.hid (S3.out.trans kk)
      have G1 := Lib.hid (kk.at_ S1.out)
      have G2 := Lib.hid (kk.at_ S2.out)
      clear kk
      clear e0 e1 e2 e3 e4 e5 e6 g0 g1 g2 z0 z1
      obtain ⟨e0, e1, e2, e3, e4, e5, e6⟩ := seven_at G1.out
      obtain ⟨g0, g1, g2⟩ := three_at G2.out
      have z0 := free_at G1.out
      have z1 := free_at G2.out
      go_wp2_with fail
      go_region
      all_goals (
        (try go_wp2_with fail)
        (try simp only [Exit.inBlock, Exit.then])
        first
        | (obtain ⟨s1, s2, s3⟩ := two_set (w0 := w) (g := w.heap.size) (g2 := w.heap.size + 1) (by omega) G1.out G2.out (.int .i64 a0) (.int .i64 a1) (.int .i64 a2) (.int .i64 a3) (.int .i64 a4) (.int .i64 a5) (.int .i64 a6) (.int .i64 0) (.int .i64 0) (.int .u64 0) F5.out (by omega) (by omega)
           refine bodyPost_ret (results_rows2 rfl _ _ w.heap.size (w.heap.size + 1) 47 49 _ _ (0, 0) (0, 0) _ _ rfl (drew_at s1) Tryz.underlying47 rfl (by kernel_rfl) rfl (drew_at s2) Tryz.underlying49 rfl (by kernel_rfl)) rfl ?_
           exact ⟨_, HAN.out, rfl, s3.drew⟩)
        | (obtain ⟨s1, s2, s3⟩ := two_set' (w0 := w) (g := w.heap.size) (g2 := w.heap.size + 1) (by omega) G1.out G2.out (.int .i64 a0) (.int .i64 a1) (.int .i64 a2) (.int .i64 a3) (.int .i64 a4) (.int .i64 a5) (.int .i64 a6) (.int .i64 0) (.int .i64 0) (.int .u64 0) F5.out (by omega) (by omega)
           refine bodyPost_ret (results_rows2 rfl _ _ w.heap.size (w.heap.size + 1) 47 49 _ _ (0, 0) (0, 0) _ _ rfl (drew_at s1) Tryz.underlying47 rfl (by kernel_rfl) rfl (drew_at s2) Tryz.underlying49 rfl (by kernel_rfl)) rfl ?_
           exact ⟨_, HAN.out, rfl, s3.drew⟩))
    · have tk : (sk == 0) = false := by simp [hsk]
      clear hsk CK
      clear e0 e1 e2 e3 e4 e5 e6 g0 g1 g2 z0 z1
      obtain ⟨e0, e1, e2, e3, e4, e5, e6⟩ := seven_at S1.out
      obtain ⟨g0, g1, g2⟩ := three_at S2.out
      have z0 := free_at S1.out
      have z1 := free_at S2.out
      go_wp2_with fail
      go_region
      all_goals (
        (try go_wp2_with fail)
        (try simp only [Exit.inBlock, Exit.then])
        first
        | (obtain ⟨s1, s2, s3⟩ := two_set (w0 := w) (g := w.heap.size) (g2 := w.heap.size + 1) (by omega) S1.out S2.out (.int .i64 a0) (.int .i64 a1) (.int .i64 a2) (.int .i64 a3) (.int .i64 a4) (.int .i64 a5) (.int .i64 a6) (.int .i64 sk) (.int .i64 fk) (.int .u64 fa) S3.out (by omega) (by omega)
           refine bodyPost_ret (results_rows2 rfl _ _ w.heap.size (w.heap.size + 1) 47 49 _ _ (0, 0) (0, 0) _ _ rfl (drew_at s1) Tryz.underlying47 rfl (by kernel_rfl) rfl (drew_at s2) Tryz.underlying49 rfl (by kernel_rfl)) rfl ?_
           exact ⟨_, HAN.out, rfl, s3.drew⟩)
        | (obtain ⟨s1, s2, s3⟩ := two_set' (w0 := w) (g := w.heap.size) (g2 := w.heap.size + 1) (by omega) S1.out S2.out (.int .i64 a0) (.int .i64 a1) (.int .i64 a2) (.int .i64 a3) (.int .i64 a4) (.int .i64 a5) (.int .i64 a6) (.int .i64 sk) (.int .i64 fk) (.int .u64 fa) S3.out (by omega) (by omega)
           refine bodyPost_ret (results_rows2 rfl _ _ w.heap.size (w.heap.size + 1) 47 49 _ _ (0, 0) (0, 0) _ _ rfl (drew_at s1) Tryz.underlying47 rfl (by kernel_rfl) rfl (drew_at s2) Tryz.underlying49 rfl (by kernel_rfl)) rfl ?_
           exact ⟨_, HAN.out, rfl, s3.drew⟩))
end
end Go.Proofs.YtbngjbmfkekdnaaGreatDoor

set_option linter.unusedVariables false
set_option linter.unusedSimpArgs false
namespace Go.Proofs.YtbngjbmfkekdnaaGreatDoor
open Go.RowKit
set_option maxRecDepth 100000
/-- A place's prot; -1: it is not mapped. -/
def ProtIs (L : List Rg) (a q : Int) : Prop := In L a q ∨ (q = -1 ∧ ∀ p, ¬ In L a p)
end Go.Proofs.YtbngjbmfkekdnaaGreatDoor

set_option linter.unusedVariables false
set_option linter.unusedSimpArgs false
namespace Go.Proofs.YtbngjbmfkekdnaaGreatDoor
open Go.RowKit
set_option maxRecDepth 100000
theorem Bl.grownBy {a b : World} (h : Bl a b) (r : Option Nat) : a.grownBy b r := ⟨h.os, h.tape, h.output, h.size, fun k hk _ => h.block k hk⟩
theorem Bl.of_grown {a b : World} (h : a.grownBy b none) : Bl a b := ⟨h.os, h.tape, h.output, h.size, fun k hk => h.block k hk (by simp)⟩
theorem u64_bounds {x : Int} (h : (Lit.int .u64 x).wf = true) : 0 ≤ x ∧ x ≤ 18446744073709551615 := by
  have h1 : (decide ((0 : Int) ≤ x) && decide (x ≤ 18446744073709551615)) = true := h
  simpa using h1
section
variable {H : Type} (w : World) {ops : Array Oper} {rest : List Oper} {o : Oper} {a : Act} {Q : Exit → Act → World → Prop}
/-- A range loop's step over pages. -/
theorem wpl_next_pages (hg : o.guard = none) (it : Operand) (hop : o.op = Op.next it false) (b r n : Nat) (D : DataW Nat) (left : Lit → Bool) (cnt : Nat) (hit : a.eval it = .pointer (some ⟨r, 0, none⟩)) (h : w.ranges Tryz.prog 29 ptrE b r n D left cnt)
    (hDone : cnt = 0 → (∀ kl, left kl = false) → wpList Tryz.prog ops Q rest (a.put o.dst (.tuple #[.bool false])) w)
    (hMore : ∀ (p : Nat) (x : Option Nat) (w' : World) (cnt' : Nat), p < 2 ^ 64 → left (key p) = true → (∀ zd, D.atKey (key p) zd = datum x) → w'.ranges Tryz.prog 29 ptrE b r n D (fun z => left z && !z.sameKey (key p)) cnt' → cnt' < cnt →
      w.grownBy w' (some r) → w'.heap.size = w.heap.size → (Instr.entry (.pointer (some ⟨r, 0, none⟩))).run Tryz.prog w' = .ok (.tuple #[.int .u64 (p : Int), ptrOf x]) w' → wpList Tryz.prog ops Q rest (a.put o.dst (.tuple #[.bool true, .int .u64 (p : Int), ptrOf x])) w') :
    wpList Tryz.prog ops Q (o :: rest) a w := by
  refine wpList_next_ranges w hg it hop 29 law27 ptrE (Value.int .u64) ptrOf (fun key kl hkey => by obtain ⟨x, rfl, _⟩ := Maps.keyOf_int_inv Tryz.underlying29 hkey; exact ⟨x, rfl⟩) (fun v y hv => by obtain ⟨c, rfl, _⟩ := ptrE_inv hv; exact ⟨c, rfl⟩) b r n D left cnt hit h hDone ?_
  intro x c kl y w' cnt' hkey hlk hv hat hrg hlt hgr hsz hen
  obtain ⟨x', ex, rfl, hwx⟩ := Maps.keyOf_int_inv Tryz.underlying29 hkey
  cases ex
  have hb : 0 ≤ x ∧ x ≤ 18446744073709551615 := u64_bounds hwx
  obtain ⟨p, rfl⟩ := Int.eq_ofNat_of_zero_le hb.1
  have hy : y.1 = datum c := by
    rw [ptrE_mk] at hv
    injection hv with hv
    rw [← hv]; cases c <;> rfl
  exact hMore p c w' cnt' (by omega) hlk (fun zd => (hat zd).trans hy) hrg hlt hgr hsz hen
end
theorem ownsMap_fun {w : World} {b n m : Nat} {D E : DataW Nat} (h : w.ownsMap Tryz.prog 29 ptrE b n D) (h' : w.ownsMap Tryz.prog 29 ptrE b m E) : D = E := by
  obtain ⟨es, c, hb, _, _, rfl⟩ := h
  obtain ⟨es', c', hb', _, _, rfl⟩ := h'
  rw [hb] at hb'; cases hb'; rfl
/-- What a step hands out is a page that is held. -/
theorem PM.step {w : World} {B n m k : Nat} {f : Nat → Option Nat} (h : PM w B n f k) {D : DataW Nat} (ho : w.ownsMap Tryz.prog 29 ptrE B m D) {p : Nat} (hp : p < 2 ^ 64) {x : Option Nat} (hat : ∀ zd, D.atKey (key p) zd = datum x) : ∃ b, x = some b ∧ f p = some b := by
  obtain ⟨E, h1, h2, h3, _⟩ := h
  obtain rfl := ownsMap_fun ho h1
  have e1 : f p = x := datum_inj (by rw [← h2 p hp]; exact hat _)
  have e2 := Maps.has_true_of_atKey hat
  rw [h3 p hp, e1] at e2
  rcases x with _ | b
  · cases e2
  · exact ⟨b, rfl, e1⟩
theorem SA.pm {Y : Rest} {S : Nat → Prop} {w : World} {sb n k : Nat} {f : Nat → Option Nat} {M st : Nat → Int} {sm : Value} {B : Nat} {c l : Int} (h : SA Y S w sb n f k M st (.map (some B)) sm c l) : PM w B n f k := by
  rcases h.pages with ⟨h0, _⟩ | ⟨B', h0, _, h1⟩
  · cases h0
  · cases h0; exact h1
set_option maxHeartbeats 2000000 in
/-- A page that is not of the span stays. -/
theorem wipe_out {Y : Rest} {S : Nat → Prop} {w : World} {sb n k : Nat} {f : Nat → Option Nat} {M st : Nat → Int} {pm sm : Value} {c l : Int} (h : SA Y S w sb n f k M st pm sm c l) (num b : Nat) (hnum : num < 67108864) (A B : Int) (hA : 0 ≤ A) (hB : B ≤ 274877906944) (hout : (num : Int) * 4096 + 4096 ≤ A ∨ B ≤ (num : Int) * 4096) (hAB : A < B) (hf : f num = some b) :
    Calls Tryz.prog 77 #[.pointer (some ⟨sb, 1, none⟩), .int .u64 (num : Int), span A B] w fun e w' => e = .returned (.tuple #[]) ∧ Bl w w' := by
  have h1 := h.bl (Bl.new w (box48 A B))
  have hlook := h1.pages.look (show num < 2 ^ 64 by omega)
  rw [hf] at hlook
  simp only [ptrOf, Option.map_some] at hlook
  obtain ⟨c0, c1, c2, c3⟩ := h1.cell
  obtain ⟨d0, d1⟩ := two_cells (heap_alloc_new w (box48 A B))
  have hz : (0 : Int) ≤ (num : Int) := by omega
  have hz1 : (num : Int) ≤ 67108864 := by omega
  generalize (num : Int) = x at *
  obtain ⟨mx, hmxe⟩ : ∃ mx, mx = max A (x * 4096) := ⟨_, rfl⟩
  obtain ⟨mi, hmie⟩ : ∃ mi, mi = min B (x * 4096 + 4096) := ⟨_, rfl⟩
  have hmx : ∀ W, (Builtin.max_ #[29, 29] 29 #[.int .u64 A, .int .u64 (x * 4096)]).run Tryz.prog W = .ok (.int .u64 mx) W := fun W => by
    rw [max_run]; congr 2; split <;> omega
  have hmi : ∀ W, (Builtin.min_ #[29, 29] 29 #[.int .u64 B, .int .u64 (x * 4096 + 4096)]).run Tryz.prog W = .ok (.int .u64 mi) W := fun W => by
    rw [min_run]; congr 2; split <;> omega
  have ce := fun W => empty_any mx mi W
  rw [decide_eq_true (by omega)] at ce
  have CE := Lib.hid ce; clear ce h1 h hout hmxe hmie
  (try unfold addr0 at *); (try unfold span at *); (try unfold box48 at *)
  go_enter Tryz.func77, Tryz.ntmps77
  go_wp2_with fail
  refine (CE.out _).mono ?_
  rintro e w3 ⟨rfl, bl3⟩
  have BLW := Lib.hid (((Bl.new w (.cells #[.int .u64 A, .int .u64 B] 113)).alloc (.cells #[.int .u64 mx, .int .u64 mi] 113)).trans bl3)
  clear bl3 c0 c1 c2 c3 d0 d1 hlook hmx hmi
  go_wp2_with fail
  (try simp only [Exit.inBlock, Exit.then]); refine bodyPost_ret (results_none rfl _ _ _) rfl ?_
  exact ⟨rfl, BLW.out⟩
theorem sameKey_key {p q : Nat} (h : p ≠ q) : (key p).sameKey (key q) = false := by
  simp [key, Lit.sameKey]; omega
/-- What a wide Clear has done when the pages of 'left' are to come yet. -/
structure WC (f f' : Nat → Option Nat) (M M' : Nat → Int) (q0 q1 : Nat) (left : Lit → Bool) : Prop where
  out : ∀ x : Nat, (x < q0 * 4096 ∨ (q1 + 1) * 4096 ≤ x) → M' x = M x
  todo : ∀ p, q0 ≤ p → p ≤ q1 → f' p ≠ none → left (key p) = true
end Go.Proofs.YtbngjbmfkekdnaaGreatDoor

set_option linter.unusedVariables false
set_option linter.unusedSimpArgs false
namespace Go.Proofs.YtbngjbmfkekdnaaGreatDoor
open Go.RowKit
set_option maxRecDepth 100000
set_option maxHeartbeats 4000000 in
theorem clear_wide {Y : Rest} {S : Nat → Prop} {w : World} {sb n k : Nat} {f : Nat → Option Nat} {M st : Nat → Int} (h : StoreAt Y S w sb n f k M st) (q0 q1 : Nat) (h01 : q0 + 4096 ≤ q1) (hq1 : q1 < 67108864) (hn : n < 80000000) (hS : ∀ b, w.heap.size ≤ b → S b) :
    Calls Tryz.prog 43 #[.pointer (some ⟨sb, 1, none⟩), .int .u64 ((q0 * 4096 : Nat) : Int), .int .u64 (((q1 + 1) * 4096 : Nat) : Int)] w fun e w' => e = .returned (.tuple #[]) ∧ (∃ f' k' st', StoreAt Y S w' sb (n + 8192) f' k' (wiped M (q0 * 4096) ((q1 + 1) * 4096)) st' ∧ Rise st st' (fun p => q0 ≤ p ∧ p ≤ q1)) ∧ Fr S w w' := by
  obtain ⟨a, ha⟩ : ∃ a, a = q0 * 4096 := ⟨_, rfl⟩
  obtain ⟨b, hb⟩ : ∃ b, b = (q1 + 1) * 4096 := ⟨_, rfl⟩
  have cw := fun W => pwithin_in (a : Int) (b : Int) W (by omega)
  have ce := fun W => empty_any (a : Int) (b : Int) W
  rw [decide_eq_false (by omega)] at ce
  have cwi := fun W => wide_i (a : Int) (b : Int) W (by omega) (by omega) (by omega)
  rw [decide_eq_true (by omega)] at cwi
  have cst := fun (W : World) (S' : Nat → Prop) (hW : StoreAt Y S' W sb n f k M st) => stampAll_wide hW (a : Int) (b : Int) (by omega) (by omega) (by omega) (by omega) (by omega)
  have cwp := fun (W : World) (S' : Nat → Prop) (k' pb : Nat) (f' : Nat → Option Nat) (M' st' : Nat → Int) (sm : Value) (c l : Int) (hW : SA Y S' W sb (n + 1) f' k' M' st' (.map (some pb)) sm c l) (num bb : Nat) (h1 : f' num = some bb) (h2 : q0 ≤ num) (h3 : num ≤ q1) => wipe_some hW num bb (hW.lim num bb h1) (a : Int) (b : Int) (by omega) (by omega) (by omega) (by omega) h1
  have cwo := fun (W : World) (S' : Nat → Prop) (k' pb : Nat) (f' : Nat → Option Nat) (M' st' : Nat → Int) (sm : Value) (c l : Int) (hW : SA Y S' W sb (n + 1) f' k' M' st' (.map (some pb)) sm c l) (num bb : Nat) (h1 : f' num = some bb) (h2 : num < q0 ∨ q1 < num) => wipe_out hW num bb (hW.lim num bb h1) (a : Int) (b : Int) (by omega) (by omega) (by omega) (by omega) h1
  rw [← ha, ← hb]
  have HA := Lib.hid ha; clear ha
  have HBB := Lib.hid hb; clear hb
  have HH := Lib.hid h; clear h
  have HS := Lib.hid hS; clear hS
  have CW := Lib.hid cw; clear cw
  have CE := Lib.hid ce; clear ce
  have CWI := Lib.hid cwi; clear cwi
  have CST := Lib.hid cst; clear cst
  have CWP := Lib.hid cwp; clear cwp
  have CWO := Lib.hid cwo; clear cwo
  generalize (a : Int) = A at *
  generalize (b : Int) = B0 at *
  unfold span at *
  go_enter Tryz.func43, Tryz.ntmps43
  go_wp2_with fail
  refine (CW.out _).mono ?_
  rintro e w1 ⟨rfl, bl1⟩
  have h1 : StoreAt Y (less S w1.heap.size) (w1.alloc (box48 A B0)) sb n f k M st := (HH.out.bl bl1).less _
  have hS1 : ∀ b, w1.heap.size ≤ b → S b := fun b hb => HS.out b (Nat.le_trans bl1.size hb)
  have fr1 : Fr (less S w1.heap.size) (w1.alloc (box48 A B0)) (w1.alloc (box48 A B0)) := Fr.refl _ _
  have FR1 := Lib.hid fr1; clear fr1
  have H1 := Lib.hid h1; clear h1
  have HS1 := Lib.hid hS1; clear hS1
  have BL1 := Lib.hid bl1; clear bl1
  go_wp2_with fail
  refine (CE.out _).mono ?_
  rintro e w2 ⟨rfl, bl2⟩
  have fr2 := FR1.out.trans (Fr.of_bl bl2)
  have h2 := H1.out.bl bl2
  obtain ⟨c0, c1⟩ := two_cells (box_at fr2)
  have FR2 := Lib.hid fr2; clear fr2 FR1 bl2
  have H2 := Lib.hid h2; clear h2 H1
  go_wp2_with fail
  refine (CST.out _ _ H2.out).mono ?_
  rintro e w3 ⟨rfl, ⟨st', h3, hris⟩, fr3⟩
  have HRIS : Hid (Rise st st' (fun p => q0 ≤ p ∧ p ≤ q1)) := Lib.hid (hris.mono fun _ _ => trivial); clear hris
  have fr3' := FR2.out.trans fr3
  clear c0 c1
  obtain ⟨c0, c1⟩ := two_cells (box_at fr3')
  have FR3 := Lib.hid fr3'; clear fr3' fr3 FR2
  have H3 := Lib.hid h3; clear h3 H2
  go_wp2_with fail
  refine (CWI.out _).mono ?_
  rintro e w4 ⟨rfl, bl4⟩
  have fr4 := FR3.out.trans (Fr.of_bl bl4)
  have h4 := H3.out.bl bl4
  clear c0 c1
  have FR4 := Lib.hid fr4; clear fr4 FR3 bl4
  obtain ⟨pm, sm, c, l, h4⟩ := h4
  obtain ⟨c0, c1, c2, c3⟩ := h4.cell
  clear H3
  have hpg := h4.pages
  rcases hpg with ⟨rfl, hpn, _⟩ | ⟨B, rfl, _, _⟩
  · have hfin : StoreAt Y S w4 sb (n + 8192) f k (wiped M (q0 * 4096) ((q1 + 1) * 4096)) st' := by
      have e2 : wiped M (q0 * 4096) ((q1 + 1) * 4096) = M := by
        funext x
        simp only [wiped]
        split
        · rename_i hxx
          have h9 := h4.zero (x / 4096) (x % 4096) (hpn _) (by omega)
          rw [show x / 4096 * 4096 + x % 4096 = x by omega] at h9
          exact h9.symm
        · rfl
      rw [e2]
      exact StoreAt.mono ⟨_, _, _, _, h4.among (T := S) (fun _ _ e => e.1)⟩ (by omega)
    have HFIN := Lib.hid hfin; clear hfin
    have hrg := run_range_nilMap (P := Tryz.prog) w4 60 29 103 Tryz.underlying60
    have hnx : ∀ ty, (Instr.next (.pointer (some ⟨w4.heap.size, 0, none⟩)) false ty).run Tryz.prog (w4.alloc (.mapIter none 0 #[] 0)) = _ := fun ty => run_next_nilMap w4 ty 0 0 #[]
    clear h4
    go_wp2_with fail
    refine wp_loop_rounds 1 ?_
    rw [rounds_succ]
    go_wp2_with fail
    (try simp only [Exit.inBlock, Exit.then]); refine bodyPost_ret (results_none rfl _ _ _) rfl ?_
    exact ⟨rfl, ⟨f, k, st', (by rw [HA.out, HBB.out]; exact HFIN.out.bl (Bl.new _ _)), HRIS.out⟩, ((Fr.of_bl BL1.out).trans FR4.out.unless).trans (Fr.of_bl (Bl.new _ _))⟩
  · have H4 := Lib.hid h4
    obtain ⟨D0, hown, _⟩ := h4.pm
    have HOWN := Lib.hid hown; clear hown h4
    go_wp2_with (first
      | (at_range; refine wpList_range_own _ rfl _ 60 rfl 29 103 law27 Tryz.underlying60 _ B (n + 1) _ rfl HOWN.out ?_; intro w5 hrg0 hg0 hs0)
      | go_in)
    go_frame
    clear c0 c1 c2 c3
    have hlt1 : w1.heap.size < w4.heap.size := by have := FR4.out.size; simp at this; omega
    have bl5 := Bl.of_grown hg0
    have h5 : SA Y (less (less S w1.heap.size) w4.heap.size) w5 sb (n + 1) f k M st' (.map (some B)) sm c l := (H4.out.among (T := less (less S w1.heap.size) w4.heap.size) (fun b hb hs => ⟨hs, by omega⟩)).bl bl5
    have fr5 := FR4.out.trans (Fr.of_bl bl5)
    have hr : less S w1.heap.size w4.heap.size := ⟨HS1.out _ (by omega), by omega⟩
    clear hg0 hs0 bl5
    have hwc0 : WC f f M M q0 q1 (fun z => Maps.has D0 z) := ⟨fun _ _ => rfl, fun p _ _ hp => by
      obtain ⟨E, e1, e2, e3, _⟩ := H4.out.pm
      obtain rfl := ownsMap_fun HOWN.out e1
      show Maps.has D0 (key p) = true
      rw [e3 p (by omega)]
      rcases hfp : f p with _ | z
      · exact absurd hfp hp
      · rfl⟩
    have HWC0 := Lib.hid hwc0; clear hwc0
    have HRG0 := Lib.hid hrg0; clear hrg0
    have H5 := Lib.hid h5; clear h5
    have FR5 := Lib.hid fr5; clear fr5
    have HR := Lib.hid hr; clear hr
    go_loopw [7] (fun _ wr => ∃ (left : Lit → Bool) (cnt : Nat) (D : DataW Nat) (f' : Nat → Option Nat) (k' : Nat) (M' : Nat → Int), wr.ranges Tryz.prog 29 ptrE B w4.heap.size (n + 1) D left cnt ∧ SA Y (less (less S w1.heap.size) w4.heap.size) wr sb (n + 1) f' k' M' st' (.map (some B)) sm c l ∧ WC f f' M M' q0 q1 left ∧ Fr (less S w1.heap.size) (w1.alloc (box48 A B0)) wr) (fun _ wr => wr.rangeLeft B w4.heap.size)
    case atStart => exact ⟨_, _, _, _, _, _, HRG0.out, H5.out, HWC0.out, FR5.out⟩
    case round =>
      obtain ⟨left, cnt, D, f', k', M', hrg, hsa, hwc, hfr⟩ := hrel
      have HWC := Lib.hid hwc; clear hwc
      clear H5 FR5 HRG0 HWC0 H4 FR4 HOWN
      have HRG := Lib.hid hrg; clear hrg
      have HSA := Lib.hid hsa; clear hsa
      have HFR := Lib.hid hfr; clear hfr
      go_wp2_with (first
        | (at_next; refine wpl_next_pages _ rfl _ rfl B w4.heap.size (n + 1) _ _ _ rfl HRG.out ?_ ?_)
        | go_in)
      · intro _ hleft
        have hfin : StoreAt Y S wr sb (n + 8192) f' k' (wiped M (q0 * 4096) ((q1 + 1) * 4096)) st' := by
          have e2 : wiped M (q0 * 4096) ((q1 + 1) * 4096) = M' := by
            funext x
            simp only [wiped]
            split
            · have hf0 : f' (x / 4096) = none := by
                rcases hfp : f' (x / 4096) with _ | z
                · rfl
                · have h9 := HWC.out.todo (x / 4096) (by omega) (by omega) (by rw [hfp]; simp)
                  rw [hleft] at h9
                  cases h9
              have h9 := HSA.out.zero (x / 4096) (x % 4096) hf0 (by omega)
              rw [show x / 4096 * 4096 + x % 4096 = x by omega] at h9
              exact h9.symm
            · exact (HWC.out.out x (by omega)).symm
          rw [e2]
          exact StoreAt.mono ⟨_, _, _, _, HSA.out.among (T := S) (fun _ _ e => e.1.1)⟩ (by omega)
        have HFIN := Lib.hid hfin; clear hfin hleft
        go_wp2_with fail
        (try simp only [Exit.inBlock, Exit.then]); refine bodyPost_ret (results_none rfl _ _ _) rfl ?_
        exact ⟨rfl, ⟨f', k', st', (by rw [HA.out, HBB.out]; exact HFIN.out), HRIS.out⟩, (Fr.of_bl BL1.out).trans HFR.out.unless⟩
      · intro p x w6 cnt1 hp hlx hat hrg1 hcl hg1 hs1 hen
        have hsa6 : SA Y (less (less S w1.heap.size) w4.heap.size) w6 sb (n + 1) f' k' M' st' (.map (some B)) sm c l := HSA.out.kept (T := fun b => b = w4.heap.size) (Fr.grown hg1 (fun k hk => by cases hk; rfl)) (fun b hb e => hb.2 e)
        have fr6 := HFR.out.trans (Fr.grown hg1 (fun k hk => by cases hk; exact HR.out))
        obtain ⟨b, rfl, hfb⟩ := hsa6.pm.step hrg1.owns hp hat
        obtain ⟨c0, c1⟩ := two_cells (box_at fr6)
        have HSA6 := Lib.hid hsa6; clear hsa6
        have FR6 := Lib.hid fr6; clear fr6
        have HRG1 := Lib.hid hrg1; clear hrg1
        have HFB := Lib.hid hfb; clear hfb
        have HP := Lib.hid hp; clear hp
        clear hg1 hs1 hat hlx
        simp only [ptrOf, Option.map_some] at hen ⊢
        by_cases hin : q0 ≤ p ∧ p ≤ q1
        · go_wp2_with fail
          refine (CWP.out _ _ _ _ _ _ _ _ _ _ HSA6.out p b HFB.out hin.1 hin.2).mono ?_
          rintro e w7 ⟨rfl, w8, bl8, hdel⟩
          obtain ⟨w9, cnt2, hrun, hrg2, hle, _⟩ := (HRG1.out.kept (bl8.grownBy none) (by simp) (by simp)).drop law27 Tryz.underlying60 (key_of HP.out) 0
          rw [hdel] at hrun
          injection hrun with _ e9
          subst e9
          obtain ⟨k9, hsa9, _, fr9⟩ := (HSA6.out.bl bl8).del HP.out hdel
          have fr10 := FR6.out.trans ((Fr.of_bl bl8).trans (fr9.mono fun _ _ e => e.1))
          have hlt9 : cnt2 < cnt := by omega
          clear hdel hle hcl hen c0 c1 bl8 fr9
          have hwc9 : WC f (put1 f' p none) M (wiped M' (p * 4096) (p * 4096 + 4096)) q0 q1 (fun z => left z && !z.sameKey (key p) && !z.sameKey (key p)) := ⟨fun x hx => by
            simp only [wiped]
            rw [if_neg (by omega)]
            exact HWC.out.out x hx, fun q hq0 hq1 hne => by
            by_cases e : q = p
            · subst e; rw [put1_same] at hne; exact absurd rfl hne
            · rw [put1_other _ _ _ e] at hne
              show (left (key q) && !(key q).sameKey (key p) && !(key q).sameKey (key p)) = true
              rw [HWC.out.todo q hq0 hq1 hne, sameKey_key e]; rfl⟩
          have HWC9 := Lib.hid hwc9; clear hwc9
          have HRG2 := Lib.hid hrg2; clear hrg2
          have HSA9 := Lib.hid hsa9; clear hsa9
          have FR10 := Lib.hid fr10; clear fr10
          go_wp2_with fail
          refine ⟨⟨_, _, _, _, _, _, HRG2.out, HSA9.out, HWC9.out, FR10.out⟩, ?_⟩
          rw [HRG2.out.left_eq, HRG.out.left_eq]
          exact hlt9
        · go_wp2_with fail
          refine (CWO.out _ _ _ _ _ _ _ _ _ _ HSA6.out p b HFB.out (by omega)).mono ?_
          rintro e w7 ⟨rfl, bl8⟩
          have hrg2 := HRG1.out.kept (bl8.grownBy none) (by simp) (by simp)
          have hsa9 := HSA6.out.bl bl8
          have fr10 := FR6.out.trans (Fr.of_bl bl8)
          have hwc9 : WC f f' M M' q0 q1 (fun z => left z && !z.sameKey (key p)) := ⟨HWC.out.out, fun q hq0 hq1 hne => by
            show (left (key q) && !(key q).sameKey (key p)) = true
            rw [HWC.out.todo q hq0 hq1 hne, sameKey_key (by omega)]; rfl⟩
          have HWC9 := Lib.hid hwc9; clear hwc9
          clear hen c0 c1 bl8
          have HRG2 := Lib.hid hrg2; clear hrg2
          have HSA9 := Lib.hid hsa9; clear hsa9
          have FR10 := Lib.hid fr10; clear fr10
          go_wp2_with fail
          refine ⟨⟨_, _, _, _, _, _, HRG2.out, HSA9.out, HWC9.out, FR10.out⟩, ?_⟩
          rw [HRG2.out.left_eq, HRG.out.left_eq]
          exact hcl
end Go.Proofs.YtbngjbmfkekdnaaGreatDoor
