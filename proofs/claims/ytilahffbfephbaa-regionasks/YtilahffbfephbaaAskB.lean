/-
  Free of a space; built, with what may be done on its pages.
-/
import Derived.Test.YtilahffbfephbaaAskA
import Derived.Test.YtilahffbfephbaaHead
set_option linter.unusedVariables false
set_option linter.unusedSimpArgs false
namespace Go.Proofs.Ytilahffbfephbaa
open Go.RowKit
set_option maxRecDepth 100000
theorem out_free {P : List Pg} (hp : Pgs 100 P) {s t : Int} (hs : Span s t) : (outP P s t).length = P.length ↔ FreeIn (regs P) s t := by
  have hlen : P.length = (outP P s t).length + (P.filter fun x => !(decide (x.no * 4096 < s) || decide (t ≤ x.no * 4096))).length := filter_both _ P
  have hin : ∀ a, a ∈ (P.filter fun x => !(decide (x.no * 4096 < s) || decide (t ≤ x.no * 4096))) ↔ a ∈ P ∧ s ≤ a.no * 4096 ∧ a.no * 4096 < t := fun a => by
    rw [List.mem_filter]; simp
  generalize (P.filter fun x => !(decide (x.no * 4096 < s) || decide (t ≤ x.no * 4096))) = Q at *
  obtain ⟨s1, s2, s3, s4⟩ := hs
  constructor
  · intro h a q a1 a2 hi
    obtain ⟨x, hx, b1, b2, b3⟩ := (regs_in hp a q).1 hi
    have hq : x ∈ Q := (hin x).2 ⟨hx, by omega, by omega⟩
    have : 0 < Q.length := List.length_pos_of_mem hq
    omega
  · intro h
    have hq : Q = [] := by
      apply List.eq_nil_iff_forall_not_mem.2
      intro x hx
      obtain ⟨b1, b2, b3⟩ := (hin x).1 hx
      exact h (x.no * 4096) x.p b2 b3 ((regs_in hp _ _).2 ⟨x, b1, by omega, by omega, rfl⟩)
    rw [hq] at hlen
    simp at hlen
    omega
set_option maxHeartbeats 2000000 in
theorem rfree_yes {w : World} {sb : Nat} {P : List Pg} (h : SpaceAt w sb P) (hp : Pgs 100 P) (s t : Int) (h0 : 0 ≤ s) (hs : Span s t) (v : Bool) (hv : v = true ↔ FreeIn (regs P) s t) : Calls Try.prog 29 #[addr0 sb, .int .u64 s, .int .u64 t] w (BoolPost w v) := by
  obtain ⟨AS, capS, e0, _, _⟩ := h.cells
  have hof := out_free hp hs
  have hn100 := hp.len
  have hle := outP_len P s t
  obtain ⟨n, hn⟩ : ∃ n, n = P.length := ⟨_, rfl⟩
  obtain ⟨m, hm⟩ : ∃ m, m = (outP P s t).length := ⟨_, rfl⟩
  have hvb : v = ((m : Int) == (n : Int)) := by
    rw [hm, hn]
    by_cases he : (outP P s t).length = P.length
    · rw [hv.2 (hof.1 he)]; simp [he]
    · have : v = false := by
        cases hvv : v with
        | false => rfl
        | true => exact absurd (hof.2 (hv.1 hvv)) he
      rw [this]; simp; omega
  subst hvb
  rw [← hn] at e0 hn100 hle
  rw [← hm] at hle
  have hnI : (n : Int) ≤ 100 := by omega
  have hmI : (m : Int) ≤ 100 := by omega
  have HM := Lib.hid hm; clear hm hof hv
  have HS := Lib.hid hs; clear hs
  have HH := Lib.hid h; clear h
  have HP := Lib.hid hp; clear hp hn
  have HE0 := Lib.hid e0; clear e0
  unfold addr0
  go_enter Try.func29, Try.ntmps29
  go_upto_region 1 with (fail)
  have hS0 : Bl w w.drew ∧ w.drew.cell? ⟨sb, 0, none⟩ = some (.slice AS n capS) := ⟨(Bl.refl _).drew, HE0.out⟩
  refine wp_region_hd 15 (fun w' => Bl w w' ∧ w'.cell? ⟨sb, 0, none⟩ = some (.slice AS n capS)) (by kernel_rfl) (by decide) hS0 (fun hHeld => ?_)
  clear hS0
  refine wpHd_take (i := 0) (v := ?_) rfl (by kernel_rfl) (fun _ _ _ h => h) (Or.inl ⟨by rfl, ?hy⟩) hHeld ?_
  case hy => (intro w hSw; (try dsimp only at hSw); go_split_ands; go_simp; try (with_reducible rfl))
  (try simp only [Act.put, List.getElem_toArray, List.getElem_cons_zero, List.getElem_cons_succ, List.setIfInBounds_toArray, List.set_cons_zero, List.set_cons_succ])
  refine wpHd_take (i := 1) (v := ?_) rfl (by kernel_rfl) (fun _ _ _ h => h) (Or.inl ⟨by rfl, ?hy⟩) hHeld ?_
  case hy => (intro w hSw; (try dsimp only at hSw); go_split_ands; go_simp; try (with_reducible rfl))
  (try simp only [Act.put, List.getElem_toArray, List.getElem_cons_zero, List.getElem_cons_succ, List.setIfInBounds_toArray, List.set_cons_zero, List.set_cons_succ])
  refine wpHd_one (i := 2) rfl (by kernel_rfl) (fun K hK => ?_)
  go_simp
  refine (refSpan_yes s t _ h0 HS.out).mono ?_
  rintro e w' ⟨rfl, rfl⟩
  refine hK.out _ _ ?_ (fun hHeld => ?_)
  · exact hHeld
  clear hK K
  (try simp only [Act.put, List.getElem_toArray, List.getElem_cons_zero, List.getElem_cons_succ, List.setIfInBounds_toArray, List.set_cons_zero, List.set_cons_succ])
  refine wpHd_take (i := 3) (v := ?_) rfl (by kernel_rfl) (fun _ _ _ h => h) (Or.inl ⟨by rfl, ?hy⟩) hHeld ?_
  case hy => (intro w hSw; (try dsimp only at hSw); go_split_ands; go_simp; try (with_reducible rfl))
  (try simp only [Act.put, List.getElem_toArray, List.getElem_cons_zero, List.getElem_cons_succ, List.setIfInBounds_toArray, List.set_cons_zero, List.set_cons_succ])
  refine wpHd_take (i := 4) (v := ?_) rfl (by kernel_rfl) (fun _ _ _ h => h) (Or.inl ⟨by rfl, ?hy⟩) hHeld ?_
  case hy => (intro w hSw; (try dsimp only at hSw); go_split_ands; go_simp; try (with_reducible rfl))
  (try simp only [Act.put, List.getElem_toArray, List.getElem_cons_zero, List.getElem_cons_succ, List.setIfInBounds_toArray, List.set_cons_zero, List.set_cons_succ])
  refine wpHd_take (i := 5) (v := ?_) rfl (by kernel_rfl) (fun _ _ _ h => h) (Or.inl ⟨by rfl, ?hy⟩) hHeld ?_
  case hy => (intro w hSw; (try dsimp only at hSw); go_split_ands; go_simp; try (with_reducible rfl))
  (try simp only [Act.put, List.getElem_toArray, List.getElem_cons_zero, List.getElem_cons_succ, List.setIfInBounds_toArray, List.set_cons_zero, List.set_cons_succ])
  refine wpHd_take (i := 6) (v := ?_) rfl (by kernel_rfl) (fun _ _ _ h => h) (Or.inl ⟨by rfl, ?hy⟩) hHeld ?_
  case hy => (intro w hSw; (try dsimp only at hSw); go_split_ands; go_simp; try (with_reducible rfl))
  (try simp only [Act.put, List.getElem_toArray, List.getElem_cons_zero, List.getElem_cons_succ, List.setIfInBounds_toArray, List.set_cons_zero, List.set_cons_succ])
  refine wpHd_take (i := 9) (v := ?_) rfl (by kernel_rfl) (fun _ _ _ h => h) (Or.inl ⟨by rfl, ?hy⟩) hHeld ?_
  case hy => (intro w hSw; (try dsimp only at hSw); go_split_ands; go_simp; try (with_reducible rfl))
  (try simp only [Act.put, List.getElem_toArray, List.getElem_cons_zero, List.getElem_cons_succ, List.setIfInBounds_toArray, List.set_cons_zero, List.set_cons_succ])
  refine wpHd_take (i := 10) (v := ?_) rfl (by kernel_rfl) (fun _ _ _ h => h) (Or.inl ⟨by rfl, ?hy⟩) hHeld ?_
  case hy => (intro w hSw; (try dsimp only at hSw); go_split_ands; go_simp; try (with_reducible rfl))
  (try simp only [Act.put, List.getElem_toArray, List.getElem_cons_zero, List.getElem_cons_succ, List.setIfInBounds_toArray, List.set_cons_zero, List.set_cons_succ])
  refine wpHd_take (i := 11) (v := ?_) rfl (by kernel_rfl) (fun _ _ _ h => h) (Or.inl ⟨by rfl, ?hy⟩) hHeld ?_
  case hy => (intro w hSw; (try dsimp only at hSw); go_split_ands; go_simp; try (with_reducible rfl))
  (try simp only [Act.put, List.getElem_toArray, List.getElem_cons_zero, List.getElem_cons_succ, List.setIfInBounds_toArray, List.set_cons_zero, List.set_cons_succ])
  refine wpHd_take (i := 12) (v := ?_) rfl (by kernel_rfl) (fun _ _ _ h => h) (Or.inl ⟨by rfl, ?hy⟩) hHeld ?_
  case hy => (intro w hSw; (try dsimp only at hSw); go_split_ands; go_simp; try (with_reducible rfl))
  (try simp only [Act.put, List.getElem_toArray, List.getElem_cons_zero, List.getElem_cons_succ, List.setIfInBounds_toArray, List.set_cons_zero, List.set_cons_succ])
  refine wpHd_take (i := 13) (v := ?_) rfl (by kernel_rfl) (fun _ _ _ h => h) (Or.inl ⟨by rfl, ?hy⟩) hHeld ?_
  case hy => (intro w hSw; (try dsimp only at hSw); go_split_ands; go_simp; try (with_reducible rfl))
  (try simp only [Act.put, List.getElem_toArray, List.getElem_cons_zero, List.getElem_cons_succ, List.setIfInBounds_toArray, List.set_cons_zero, List.set_cons_succ])
  refine wpHd_one (i := 7) rfl (by kernel_rfl) (fun K hK => ?_)
  go_simp
  refine (without_any (HH.out.bl hHeld.1) HP.out (by omega) s t).mono ?_
  rintro e w6 ⟨vR, rfl, rR, kR⟩
  refine hK.out _ _ ?_ (fun hHeld => ?_)
  · exact ⟨hHeld.1.trans kR, kR.cell' hHeld.2⟩
  clear hK K
  (try simp only [Act.put, List.getElem_toArray, List.getElem_cons_zero, List.getElem_cons_succ, List.setIfInBounds_toArray, List.set_cons_zero, List.set_cons_succ])
  obtain ⟨AR_, capR, hvR⟩ := rR.shape
  rw [← HM.out] at hvR
  subst hvR
  clear rR kR
  refine wpHd_take (i := 8) (v := ?_) rfl (by kernel_rfl) (fun _ _ _ h => h) (Or.inl ⟨by rfl, ?hy⟩) hHeld ?_
  case hy => (intro w hSw; (try dsimp only at hSw); go_split_ands; go_simp; try (with_reducible rfl))
  (try simp only [Act.put, List.getElem_toArray, List.getElem_cons_zero, List.getElem_cons_succ, List.setIfInBounds_toArray, List.set_cons_zero, List.set_cons_succ])
  refine wpHd_take (i := 14) (v := ?_) rfl (by kernel_rfl) (fun _ _ _ h => h) (Or.inl ⟨by rfl, ?hy⟩) hHeld ?_
  case hy => (intro w hSw; (try dsimp only at hSw); go_split_ands; go_simp; try (with_reducible rfl))
  (try simp only [Act.put, List.getElem_toArray, List.getElem_cons_zero, List.getElem_cons_succ, List.setIfInBounds_toArray, List.set_cons_zero, List.set_cons_succ])
  refine ⟨by kernel_rfl, ?_⟩
  simp only [List.drop_succ_cons, List.drop_zero]
  go_wp2
  go_ret
  exact ⟨rfl, hHeld.1⟩
set_option maxHeartbeats 2000000 in
theorem rfree_no {w : World} (sb : Nat) (s t : Int) (h0 : 0 ≤ s) (h1 : s ≤ 18446744073709551615) (h2 : 0 ≤ t) (h3 : t ≤ 18446744073709551615) (hs : ¬ Span s t) : Calls Try.prog 29 #[addr0 sb, .int .u64 s, .int .u64 t] w (BoolPost w false) := by
  have HS := Lib.hid hs; clear hs
  unfold addr0
  go_enter Try.func29, Try.ntmps29
  go_upto_region 1 with (fail)
  refine wp_region_hd 15 (fun w' => Bl w w') (by kernel_rfl) (by decide) (Bl.refl _).drew (fun hHeld => ?_)
  refine wpHd_take (i := 0) (v := ?_) rfl (by kernel_rfl) (fun _ _ _ h => h) (Or.inl ⟨by rfl, ?hy⟩) hHeld ?_
  case hy => (intro w hSw; (try dsimp only at hSw); go_split_ands; go_simp; try (with_reducible rfl))
  (try simp only [Act.put, List.getElem_toArray, List.getElem_cons_zero, List.getElem_cons_succ, List.setIfInBounds_toArray, List.set_cons_zero, List.set_cons_succ])
  refine wpHd_take (i := 1) (v := ?_) rfl (by kernel_rfl) (fun _ _ _ h => h) (Or.inl ⟨by rfl, ?hy⟩) hHeld ?_
  case hy => (intro w hSw; (try dsimp only at hSw); go_split_ands; go_simp; try (with_reducible rfl))
  (try simp only [Act.put, List.getElem_toArray, List.getElem_cons_zero, List.getElem_cons_succ, List.setIfInBounds_toArray, List.set_cons_zero, List.set_cons_succ])
  refine wpHd_one (i := 2) rfl (by kernel_rfl) (fun K hK => ?_)
  go_simp
  refine (refSpan_no s t _ h0 h1 h2 h3 HS.out).mono ?_
  rintro e w' ⟨rfl, rfl⟩
  refine hK.out _ _ ?_ (fun hHeld => ?_)
  · exact hHeld
  clear hK K
  (try simp only [Act.put, List.getElem_toArray, List.getElem_cons_zero, List.getElem_cons_succ, List.setIfInBounds_toArray, List.set_cons_zero, List.set_cons_succ])
  refine wpHd_take (i := 3) (v := ?_) rfl (by kernel_rfl) (fun _ _ _ h => h) (Or.inl ⟨by rfl, ?hy⟩) hHeld ?_
  case hy => (intro w hSw; (try dsimp only at hSw); go_split_ands; go_simp; try (with_reducible rfl))
  (try simp only [Act.put, List.getElem_toArray, List.getElem_cons_zero, List.getElem_cons_succ, List.setIfInBounds_toArray, List.set_cons_zero, List.set_cons_succ])
  refine wpHd_take (i := 4) (v := undef) rfl (by kernel_rfl) (fun _ _ _ h => h) (Or.inr ⟨by rfl, rfl⟩) hHeld ?_
  (try simp only [Act.put, List.getElem_toArray, List.getElem_cons_zero, List.getElem_cons_succ, List.setIfInBounds_toArray, List.set_cons_zero, List.set_cons_succ])
  refine wpHd_take (i := 5) (v := undef) rfl (by kernel_rfl) (fun _ _ _ h => h) (Or.inr ⟨by rfl, rfl⟩) hHeld ?_
  (try simp only [Act.put, List.getElem_toArray, List.getElem_cons_zero, List.getElem_cons_succ, List.setIfInBounds_toArray, List.set_cons_zero, List.set_cons_succ])
  refine wpHd_take (i := 6) (v := undef) rfl (by kernel_rfl) (fun _ _ _ h => h) (Or.inr ⟨by rfl, rfl⟩) hHeld ?_
  (try simp only [Act.put, List.getElem_toArray, List.getElem_cons_zero, List.getElem_cons_succ, List.setIfInBounds_toArray, List.set_cons_zero, List.set_cons_succ])
  refine wpHd_take (i := 7) (v := undef) rfl (by kernel_rfl) (fun _ _ _ h => h) (Or.inr ⟨by rfl, rfl⟩) hHeld ?_
  (try simp only [Act.put, List.getElem_toArray, List.getElem_cons_zero, List.getElem_cons_succ, List.setIfInBounds_toArray, List.set_cons_zero, List.set_cons_succ])
  refine wpHd_take (i := 8) (v := undef) rfl (by kernel_rfl) (fun _ _ _ h => h) (Or.inr ⟨by rfl, rfl⟩) hHeld ?_
  (try simp only [Act.put, List.getElem_toArray, List.getElem_cons_zero, List.getElem_cons_succ, List.setIfInBounds_toArray, List.set_cons_zero, List.set_cons_succ])
  refine wpHd_take (i := 9) (v := undef) rfl (by kernel_rfl) (fun _ _ _ h => h) (Or.inr ⟨by rfl, rfl⟩) hHeld ?_
  (try simp only [Act.put, List.getElem_toArray, List.getElem_cons_zero, List.getElem_cons_succ, List.setIfInBounds_toArray, List.set_cons_zero, List.set_cons_succ])
  refine wpHd_take (i := 10) (v := undef) rfl (by kernel_rfl) (fun _ _ _ h => h) (Or.inr ⟨by rfl, rfl⟩) hHeld ?_
  (try simp only [Act.put, List.getElem_toArray, List.getElem_cons_zero, List.getElem_cons_succ, List.setIfInBounds_toArray, List.set_cons_zero, List.set_cons_succ])
  refine wpHd_take (i := 11) (v := undef) rfl (by kernel_rfl) (fun _ _ _ h => h) (Or.inr ⟨by rfl, rfl⟩) hHeld ?_
  (try simp only [Act.put, List.getElem_toArray, List.getElem_cons_zero, List.getElem_cons_succ, List.setIfInBounds_toArray, List.set_cons_zero, List.set_cons_succ])
  refine wpHd_take (i := 12) (v := undef) rfl (by kernel_rfl) (fun _ _ _ h => h) (Or.inr ⟨by rfl, rfl⟩) hHeld ?_
  (try simp only [Act.put, List.getElem_toArray, List.getElem_cons_zero, List.getElem_cons_succ, List.setIfInBounds_toArray, List.set_cons_zero, List.set_cons_succ])
  refine wpHd_take (i := 13) (v := undef) rfl (by kernel_rfl) (fun _ _ _ h => h) (Or.inr ⟨by rfl, rfl⟩) hHeld ?_
  (try simp only [Act.put, List.getElem_toArray, List.getElem_cons_zero, List.getElem_cons_succ, List.setIfInBounds_toArray, List.set_cons_zero, List.set_cons_succ])
  refine wpHd_take (i := 14) (v := undef) rfl (by kernel_rfl) (fun _ _ _ h => h) (Or.inr ⟨by rfl, rfl⟩) hHeld ?_
  (try simp only [Act.put, List.getElem_toArray, List.getElem_cons_zero, List.getElem_cons_succ, List.setIfInBounds_toArray, List.set_cons_zero, List.set_cons_succ])
  refine ⟨by kernel_rfl, ?_⟩
  simp only [List.drop_succ_cons, List.drop_zero]
  go_wp2
  go_ret
  exact ⟨rfl, hHeld⟩
theorem NN.nil : NN [] := fun a q ⟨x, hx, _⟩ => by cases hx
theorem NN.lay {P P' : List Pg} (h : NN P) {s t p : Int} (hp : 0 ≤ p) (hon : ∀ a q, OnP P' a q ↔ (s ≤ a ∧ a < t ∧ p = q) ∨ ((a < s ∨ t ≤ a) ∧ OnP P a q)) : NN P' := fun a q hq => by
  rcases (hon a q).1 hq with ⟨_, _, rfl⟩ | ⟨_, h1⟩
  · exact hp
  · exact h a q h1
def BuiltPost2 (w : World) (e : Ending) (w' : World) : Prop := ∃ b sb P, e = .returned (.tuple #[addr0 b, addr0 sb]) ∧ Both w b sb P w' ∧ NN P
set_option maxHeartbeats 4000000 in
theorem built2_any (w : World) (A : Option Addr) (len cap : Nat) (h : Byts w A len) (hl : len ≤ 9223372036854775807) : Calls Try.prog 24 #[.slice A len cap] w (BuiltPost2 w) := by
  have HBY := Lib.hid h; clear h
  have hlI : (len : Int) ≤ 9223372036854775807 := by omega
  have hl0 : (0 : Int) ≤ (len : Int) := by omega
  go_enter Try.func24, Try.ntmps24
  go_wp2_with fail
  refine (new_any _).mono ?_
  rintro e w1 ⟨b, rfl, hb, l1, k1⟩
  have HB := Lib.hid hb; clear hb
  have L1 := Lib.hid l1; clear l1
  have K1 := Lib.hid k1; clear k1
  go_wp2_with fail
  refine (newS_any _).mono ?_
  rintro e w2 ⟨sb, rfl, hsb, l2, k2⟩
  have hboth : Both w b sb [] w2 := ⟨by rw [regs_nil]; exact L1.out.bl k2, l2, Pgs.nil _, K1.out.trans k2, HB.out, Nat.le_trans K1.out.size hsb⟩
  have HBO := Lib.hid hboth; clear hboth hsb l2 k2 HB L1 K1
  unfold addr0
  go_wp2_with fail
  go_loopw [6] (fun i wr => ∃ (k : Nat) (P : List Pg), k ≤ 60 ∧ i = .int .i64 k ∧ Both w b sb P wr ∧ NN P) (fun i _ => 60 - (intOf i).toNat)
  case atStart => exact ⟨0, [], by omega, rfl, HBO.out, NN.nil⟩
  case round =>
    obtain ⟨k, P, hk, rfl, hbo, hnn⟩ := hrel
    clear HBO
    have HNN := Lib.hid hnn; clear hnn
    have HBO := Lib.hid hbo; clear hbo
    have hkI : (k : Int) ≤ 60 := by omega
    by_cases hgo : k < len ∧ k < 60
    · obtain ⟨g1, g2⟩ := hgo
      obtain ⟨bb, off, ha, hcs⟩ := (HBY.out.bl HBO.out.bl) (by omega)
      subst ha
      obtain ⟨c, hc, c0, c1⟩ := hcs k g1
      clear hcs
      have g1I : (k : Int) < (len : Int) := by omega
      have g2I : (k : Int) < 60 := by omega
      by_cases h8 : c % 16 < 8
      · have hsp : Span ((k : Int) * 4096) (((k : Int) + 1) * 4096) := ⟨by omega, by omega, by omega, by omega⟩
        have HSP := Lib.hid hsp; clear hsp
        have c2 : 0 ≤ c % 16 := by omega
        have c3 : c % 16 ≤ 7 := by omega
        go_wp2_with fail
        refine (map_ok HBO.out.list _ _ _ (by omega) HSP.out c2 c3 (by have := regs_len HBO.out.pgs; omega) (lay_few HBO.out.pgs (by omega) HSP.out (by omega))).mono ?_
        rintro e w3 ⟨rfl, l3, f3⟩
        have L3 := Lib.hid l3; clear l3
        have S3 := Lib.hid (space_list HBO.out.list HBO.out.space f3)
        have F3 := Lib.hid f3; clear f3
        have K3 := Lib.hid (Fr.only_new HBO.out.bl F3.out HBO.out.b0)
        have hc3 := K3.out.cell' (HBO.out.bl.cell' (p := ⟨bb, off + k, none⟩) (v := .int .u8 c) (by
          obtain ⟨bb', off', ha', hcs'⟩ := HBY.out (by omega)
          cases ha'
          obtain ⟨c', hc', _⟩ := hcs' k g1
          have := HBO.out.bl.cell' hc'
          rw [hc] at this
          cases this
          exact hc') |> fun h => by
            obtain ⟨bb', off', ha', hcs'⟩ := HBY.out (by omega)
            cases ha'
            obtain ⟨c', hc', _⟩ := hcs' k g1
            have := HBO.out.bl.cell' hc'
            rw [hc] at this
            cases this
            exact hc')
        go_wp2_with fail
        refine (rlay_any S3.out HBO.out.pgs _ _ _ (by omega) HSP.out (by omega)).mono ?_
        rintro e w4 ⟨rfl, P', s4, p4, o4, f4⟩
        have hbo2 := Lib.hid (HBO.out.lay (by omega) HSP.out L3.out F3.out f4 s4 p4 o4)
        have hnn2 := Lib.hid (HNN.out.lay c2 o4)
        clear s4 p4 o4 f4 hc3 hc
        go_wp2_with fail
        refine ⟨⟨k + 1, P', by omega, by go_num, hbo2.out, hnn2.out⟩, ?_⟩
        simp only [intOf]; omega
      · have h8' : 8 ≤ c % 16 := by omega
        go_wp2_with fail
        refine ⟨⟨k + 1, P, by omega, by go_num, HBO.out, HNN.out⟩, ?_⟩
        simp only [intOf]; omega
    · by_cases h1 : k < len
      · have h1I : (k : Int) < (len : Int) := by omega
        have h2 : 60 ≤ (k : Int) := by omega
        clear hgo
        go_wp2_with fail
        go_ret2
        exact ⟨b, sb, P, rfl, HBO.out, HNN.out⟩
      · have h1I : (len : Int) ≤ (k : Int) := by omega
        clear hgo
        go_wp2_with fail
        go_ret2
        exact ⟨b, sb, P, rfl, HBO.out, HNN.out⟩
end Go.Proofs.Ytilahffbfephbaa
