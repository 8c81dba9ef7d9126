/-
  Contracts of the functions that seek an operator's word: the atomic ones; all.
-/
import Derived.Test.YtionnhjldcpmjaaGreatDoorKeyA
set_option linter.unusedVariables false
set_option linter.unusedSimpArgs false
namespace Go.Proofs.YtionnhjldcpmjaaGreatDoor
set_option maxRecDepth 100000
open Go.RowKit

/-- The word that the search in rows finds. -/
def keyF (op : Int) : Nat := match (List.range 128).find? (fun n => decide (eT (n / 8) (n % 8) = op)) with | some n => wT (n / 8) (n % 8) | none => 0
theorem keyF_of {op : Int} {k : Nat} (h : KeyIs op k) : k = keyF op := by
  unfold keyF
  rcases h with ⟨i, j, hi, hj, he, hn, rfl⟩ | ⟨hn, rfl⟩
  · have e : (List.range 128).find? (fun n => decide (eT (n / 8) (n % 8) = op)) = some (8 * i + j) := by
      rw [List.find?_range_eq_some]
      refine ⟨by rw [show (8 * i + j) / 8 = i by omega, show (8 * i + j) % 8 = j by omega]; simpa using he, by simp; omega, fun n hn' => ?_⟩
      have h1 : eT (n / 8) (n % 8) ≠ op := by
        rcases Nat.lt_or_ge (n / 8) i with h | h
        · exact hn.1 _ _ h (by omega)
        · have e1 : n / 8 = i := by omega
          rw [e1]; exact hn.2 _ (by omega)
      simpa using h1
    rw [e]
    show _ = wT ((8 * i + j) / 8) ((8 * i + j) % 8)
    rw [show (8 * i + j) / 8 = i by omega, show (8 * i + j) % 8 = j by omega]
  · have e : (List.range 128).find? (fun n => decide (eT (n / 8) (n % 8) = op)) = none := by
      rw [List.find?_eq_none]
      intro n hn'
      have := hn (n / 8) (n % 8) (by simp at hn'; omega) (by omega)
      simpa using this
    rw [e]

/-- Behind so many that are not it, among the atomic ones. -/
def noneA (op : Int) (f : Nat) : Prop := ∀ b : Nat, b < f → T17.getD b 0 ≠ op ∧ T18.getD b 0 ≠ op
def AKeyIs (op : Int) (k : Nat) : Prop :=
  (∃ f : Nat, f < 32 ∧ noneA op f ∧ T17.getD f 0 = op ∧ k = 8239 ||| (f * 134217728)) ∨ (∃ f : Nat, f < 32 ∧ noneA op f ∧ T17.getD f 0 ≠ op ∧ T18.getD f 0 = op ∧ k = 12335 ||| (f * 134217728)) ∨ (noneA op 32 ∧ k = 0)
theorem or_at (c f : Nat) (hc : c < 4294967296) (hf : f < 32) : bits .or .u32 (c : Int) ((f : Int) * 134217728) = ((c ||| (f * 134217728) : Nat) : Int) := by
  rw [show (f : Int) * 134217728 = ((f * 134217728 : Nat) : Int) by simp]
  exact u32_or_nat _ _ hc (by omega)

set_option maxHeartbeats 1000000 in
theorem keyOfAtomic_any (op : Int) (w : World) (hT : Tabs w) :
    Calls Tryz.prog 54 #[.int .i64 op] w fun e w' => ∃ k : Nat, e = .returned (.int .u32 k) ∧ AKeyIs op k ∧ w = w' := by
  have H17 : Hid (Tab w 19 T17) := Lib.hid hT.t17
  have H18 : Hid (Tab w 20 T18) := Lib.hid hT.t18
  clear hT
  go_enter Tryz.func54, Tryz.ntmps54
  go_wp2_with fail
  go_loop [4] (fun i => ∃ k : Nat, k ≤ 32 ∧ i = .int .u32 k ∧ noneA op k) (fun i => 32 - (intOf i).toNat)
  case atStart => exact ⟨0, by omega, rfl, fun b h => by omega⟩
  case round =>
    obtain ⟨k, hk, rfl, hn⟩ := hrel
    have HN := Lib.hid hn; clear hn
    by_cases hlt : k < 32
    · have h1 : w.cell? ⟨19, k, none⟩ = some (.int .i64 (T17.getD k 0)) := H17.out k hlt
      have h2 : w.cell? ⟨20, k, none⟩ = some (.int .i64 (T18.getD k 0)) := H18.out k hlt
      have ho1 := Lib.hid (or_at 8239 k (by decide) hlt)
      have ho2 := Lib.hid (or_at 12335 k (by decide) hlt)
      by_cases ha : T17.getD k 0 = op
      · have HA := Lib.hid ha
        rw [ha] at h1; clear ha
        generalize T18.getD k 0 = y at *
        go_wp2
        go_ret
        exact ⟨_, ret_int ho1.out, .inl ⟨k, hlt, HN.out, HA.out, rfl⟩, rfl⟩
      · by_cases hb : T18.getD k 0 = op
        · have HF : Hid (AKeyIs op (12335 ||| (k * 134217728))) := Lib.hid (.inr (.inl ⟨k, hlt, HN.out, ha, hb, rfl⟩))
          rw [hb] at h2
          have e1 : (T17.getD k 0 == op) = false := by simpa using ha
          clear ha hb
          generalize T17.getD k 0 = x at *
          go_wp2
          go_ret
          exact ⟨_, ret_int ho2.out, HF.out, rfl⟩
        · have HA := Lib.hid ha
          have HB := Lib.hid hb
          have e1 : (T17.getD k 0 == op) = false := by simpa using ha
          have e2 : (T18.getD k 0 == op) = false := by simpa using hb
          have HR : Hid (noneA op (k + 1)) := Lib.hid (fun b h => by
            rcases Nat.lt_or_ge b k with h' | h'
            · exact HN.out b h'
            · obtain rfl : b = k := by omega
              exact ⟨ha, hb⟩)
          clear ha hb HA HB
          generalize T17.getD k 0 = x at *
          generalize T18.getD k 0 = y at *
          go_wp2
          go_round
          case rel => exact ⟨k + 1, by omega, by go_num, HR.out⟩
          case measure => simp [intOf]; omega
    · obtain rfl : k = 32 := by omega
      go_wp2
      go_ret
      exact ⟨0, rfl, .inr (.inr ⟨HN.out, rfl⟩), rfl⟩

/-- The word that the search among atomic operators finds. -/
def keyA (op : Int) : Nat := match (List.range 64).find? (fun n => decide ((if n % 2 = 0 then T17.getD (n / 2) 0 else T18.getD (n / 2) 0) = op)) with | some n => (if n % 2 = 0 then 8239 else 12335) ||| (n / 2 * 134217728) | none => 0
theorem keyA_of {op : Int} {k : Nat} (h : AKeyIs op k) : k = keyA op := by
  unfold keyA
  rcases h with ⟨f, hf, hn, he, rfl⟩ | ⟨f, hf, hn, h1, he, rfl⟩ | ⟨hn, rfl⟩
  · have e : (List.range 64).find? (fun n => decide ((if n % 2 = 0 then T17.getD (n / 2) 0 else T18.getD (n / 2) 0) = op)) = some (2 * f) := by
      rw [List.find?_range_eq_some]
      refine ⟨by rw [show 2 * f / 2 = f by omega, if_pos (by omega)]; simpa using he, by simp; omega, fun n hn' => ?_⟩
      have h2 := hn (n / 2) (by omega)
      split <;> simp_all
    rw [e]
    show _ = (if 2 * f % 2 = 0 then 8239 else 12335) ||| (2 * f / 2 * 134217728)
    rw [show 2 * f / 2 = f by omega, if_pos (by omega)]
  · have e : (List.range 64).find? (fun n => decide ((if n % 2 = 0 then T17.getD (n / 2) 0 else T18.getD (n / 2) 0) = op)) = some (2 * f + 1) := by
      rw [List.find?_range_eq_some]
      refine ⟨by rw [show (2 * f + 1) / 2 = f by omega, if_neg (by omega)]; simpa using he, by simp; omega, fun n hn' => ?_⟩
      rcases Nat.lt_or_ge (n / 2) f with h | h
      · have h2 := hn (n / 2) h
        split <;> simp_all
      · have e1 : n / 2 = f := by omega
        have e2 : n % 2 = 0 := by omega
        rw [e1, if_pos e2]; simpa using h1
    rw [e]
    show _ = (if (2 * f + 1) % 2 = 0 then 8239 else 12335) ||| ((2 * f + 1) / 2 * 134217728)
    rw [show (2 * f + 1) / 2 = f by omega, if_neg (by omega)]
  · have e : (List.range 64).find? (fun n => decide ((if n % 2 = 0 then T17.getD (n / 2) 0 else T18.getD (n / 2) 0) = op)) = none := by
      rw [List.find?_eq_none]
      intro n hn'
      have h2 := hn (n / 2) (by simp at hn'; omega)
      split <;> simp_all
    rw [e]

/-- The word of an operator, with noughts wherever its form has parts. -/
def keyW (op : Int) : Nat := if op = 1 then 55 else if op = 2 then 23 else if op = 3 then 111 else if op = 85 then 267386895 else if op = 86 then 4111 else if op = 87 then 115 else if op = 88 then 1048691 else if keyF op ≠ 0 then keyF op else keyA op
set_option maxHeartbeats 1000000 in
theorem keyOf_lit (op : Int) (w : World) (h : op ∈ [1, 2, 3, 85, 86, 87, 88]) : Calls Tryz.prog 40 #[.int .i64 op] w fun e w' => e = .returned (.int .u32 (keyW op : Nat)) ∧ Kp none w w' := by
  simp only [List.mem_cons, List.not_mem_nil, or_false] at h
  rcases h with rfl | rfl | rfl | rfl | rfl | rfl | rfl
  all_goals
    go_enter Tryz.func40, Tryz.ntmps40
    go_wp2
    go_ret
    exact ⟨rfl, Kp.refl _ _⟩
set_option maxHeartbeats 1000000 in
theorem keyOf_else (op : Int) (w : World) (hT : Tabs w) (n1 : (op == 1) = false) (n2 : (op == 2) = false) (n3 : (op == 3) = false) (n4 : (op == 85) = false) (n5 : (op == 86) = false) (n6 : (op == 87) = false) (n7 : (op == 88) = false) :
    Calls Tryz.prog 40 #[.int .i64 op] w fun e w' => e = .returned (.int .u32 ((if keyF op ≠ 0 then keyF op else keyA op : Nat))) ∧ Kp none w w' := by
  have HT := Lib.hid hT; clear hT
  by_cases hz : keyF op = 0
  · rw [if_neg (by simpa using hz)]
    go_enter Tryz.func40, Tryz.ntmps40
    go_wp2_with fail
    refine (keyByF3_any op _ HT.out).mono ?_
    rintro e w1 ⟨k, rfl, hk, k1⟩
    obtain rfl : k = 0 := (keyF_of hk).trans hz
    go_wp2_with fail
    refine (keyOfAtomic_any op _ (HT.out.kp k1)).mono ?_
    rintro e w2 ⟨k2, rfl, hk2, rfl⟩
    go_wp2
    go_ret
    exact ⟨ret_int (by rw [keyA_of hk2]), k1⟩
  · rw [if_pos (by simpa using hz)]
    go_enter Tryz.func40, Tryz.ntmps40
    go_wp2_with fail
    refine (keyByF3_any op _ HT.out).mono ?_
    rintro e w1 ⟨k, rfl, hk, k1⟩
    have e1 : ((k : Int) != 0) = true := by have := keyF_of hk; simp; omega
    have HK := Lib.hid (keyF_of hk)
    go_wp2
    go_ret
    exact ⟨ret_int (by rw [HK.out]), k1⟩
theorem keyOf_any (op : Int) (w : World) (hT : Tabs w) : Calls Tryz.prog 40 #[.int .i64 op] w fun e w' => e = .returned (.int .u32 (keyW op : Nat)) ∧ Kp none w w' := by
  by_cases h : op ∈ [1, 2, 3, 85, 86, 87, 88]
  · exact keyOf_lit op w h
  · simp only [List.mem_cons, List.not_mem_nil, or_false, not_or] at h
    obtain ⟨h1, h2, h3, h4, h5, h6, h7⟩ := h
    have e : keyW op = if keyF op ≠ 0 then keyF op else keyA op := by
      unfold keyW; rw [if_neg h1, if_neg h2, if_neg h3, if_neg h4, if_neg h5, if_neg h6, if_neg h7]
    rw [e]
    exact keyOf_else op w hT (by simpa using h1) (by simpa using h2) (by simpa using h3) (by simpa using h4) (by simpa using h5) (by simpa using h6) (by simpa using h7)
end Go.Proofs.YtionnhjldcpmjaaGreatDoor
