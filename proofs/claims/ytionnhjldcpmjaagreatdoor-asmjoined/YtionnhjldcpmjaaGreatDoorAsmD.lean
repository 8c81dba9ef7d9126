/-
  Name, Op.
-/
import Derived.Test.YtionnhjldcpmjaaGreatDoorAsmA
import Derived.Test.YtionnhjldcpmjaaGreatDoorAsmC
set_option linter.unusedVariables false
set_option linter.unusedSimpArgs false
namespace Go.Proofs.YtionnhjldcpmjaaGreatDoor
open Go.RowKit

theorem eq_str (x y : List UInt8) : ((⟨x.toArray⟩ : ByteArray).toList == (⟨y.toArray⟩ : ByteArray).toList) = decide (x = y) := by
  rw [Lib.toList_data, Lib.toList_data]
  by_cases h : x = y <;> simp [h]
theorem str_true {x y : List UInt8} (h : x = y) : ((⟨x.toArray⟩ : ByteArray).toList == (⟨y.toArray⟩ : ByteArray).toList) = true := by rw [eq_str]; simp [h]
theorem str_false {x y : List UInt8} (h : x ≠ y) : ((⟨x.toArray⟩ : ByteArray).toList == (⟨y.toArray⟩ : ByteArray).toList) = false := by rw [eq_str]; simp [h]
theorem beq_true {x y : List UInt8} (h : x = y) : (x == y) = true := by simp [h]
theorem beq_false {x y : List UInt8} (h : x ≠ y) : (x == y) = false := by simp [h]
set_option maxHeartbeats 1000000 in
theorem name_any (op : Int) (w : World) : Calls Tryz.prog 9 #[.int .i64 op] w fun e w' => e = .returned (str (nm op)) ∧ Bl w w' := by
  by_cases h : 1 ≤ op ∧ op ≤ 88
  · obtain ⟨k, rfl⟩ : ∃ k : Nat, op = (k : Int) := ⟨op.toNat, by omega⟩
    obtain ⟨h1, h2⟩ := h
    have hn : nm (k : Int) = nmT.getD k [] := by unfold nm; rw [if_pos ⟨h1, h2⟩]; simp
    rw [hn]
    have hN := names_any w
    have hk : k < 89 := by omega
    clear hn
    go_enter Tryz.func9, Tryz.ntmps9
    go_wp2_with fail
    refine hN.mono ?_
    rintro e w1 ⟨V, rfl, hV, hb⟩
    have hx := hV k hk
    have HB := Lib.hid hb
    clear hN hV hb
    go_wp2
    go_ret
    exact ⟨rfl, HB.out⟩
  · have hn : nm op = [] := by unfold nm; rw [if_neg h]
    rw [hn]
    clear hn
    by_cases h1 : op < 1
    · go_enter Tryz.func9, Tryz.ntmps9
      go_wp2
      go_ret
      exact ⟨rfl, Bl.refl _⟩
    · have h2 : 88 < op := by omega
      clear h
      go_enter Tryz.func9, Tryz.ntmps9
      go_wp2
      go_ret
      exact ⟨rfl, Bl.refl _⟩
/-- The operator of a name; 0: none. -/
def opOf (s : List UInt8) : Nat := if s = [] then 0 else if nmT.idxOf s < 89 then nmT.idxOf s else 0
theorem opOf_hit {s : List UInt8} {k : Nat} (hs : s ≠ []) (hk : k < 89) (h : nmT.getD k [] = s) (hn : ∀ j, j < k → nmT.getD j [] ≠ s) : opOf s = k := by
  have hl := nmT_len
  have hi : nmT.idxOf s = k := by
    rcases Nat.lt_trichotomy (nmT.idxOf s) k with h1 | h1 | h1
    · exfalso
      refine hn _ h1 ?_
      have h2 : nmT.idxOf s < nmT.length := by omega
      rw [List.getD_eq_getElem?_getD, List.getElem?_eq_getElem h2]
      simp
    · exact h1
    · exfalso
      have h3 : k < nmT.length := by omega
      have hg : nmT[k]'h3 = s := by
        rw [List.getD_eq_getElem?_getD, List.getElem?_eq_getElem h3] at h
        simpa using h
      have := List.not_of_lt_findIdx (p := (· == s)) (xs := nmT) (i := k) (by exact h1)
      simp [hg] at this
  unfold opOf
  rw [if_neg hs, hi, if_pos hk]
theorem opOf_miss {s : List UInt8} (hs : s ≠ []) (hn : ∀ j, j < 89 → nmT.getD j [] ≠ s) : opOf s = 0 := by
  have hl := nmT_len
  unfold opOf
  rw [if_neg hs]
  split
  · rename_i h1
    exfalso
    refine hn _ h1 ?_
    have h2 : nmT.idxOf s < nmT.length := by omega
    rw [List.getD_eq_getElem?_getD, List.getElem?_eq_getElem h2]
    simp
  · rfl
set_option maxHeartbeats 2000000 in
theorem op_any (s : List UInt8) (w : World) : Calls Tryz.prog 11 #[str s] w fun e w' => e = .returned (.tuple #[.int .i64 (opOf s : Nat), .bool (decide (opOf s ≠ 0))]) ∧ Bl w w' := by
  by_cases hs : s = []
  · subst hs
    go_enter Tryz.func11, Tryz.ntmps11
    go_wp2
    go_ret2
    exact ⟨rfl, Bl.refl _⟩
  · have hN := names_any w
    have he : s.isEmpty = false := by simpa using hs
    have HS := Lib.hid hs
    clear hs
    go_enter Tryz.func11, Tryz.ntmps11
    go_wp2_with fail
    refine hN.mono ?_
    rintro e w1 ⟨V, rfl, hV, hb⟩
    clear hN he
    have HV := Lib.hid hV
    have HB := Lib.hid hb
    clear hV hb
    go_wp2_with fail
    go_loop [9] (fun i => ∃ k : Nat, k ≤ 89 ∧ i = .int .i64 k ∧ Hid (∀ j, j < k → nmT.getD j [] ≠ s)) (fun i => 89 - (intOf i).toNat)
    case atStart => exact ⟨0, by omega, rfl, Lib.hid (by intro j hj; omega)⟩
    case round =>
      obtain ⟨k, hk, rfl, hn⟩ := hrel
      by_cases hlt : k < 89
      · have hx := HV.out k hlt
        by_cases hq : nmT.getD k [] = s
        · have h1 := opOf_hit HS.out hlt hq hn.out
          have h0 : k ≠ 0 := by
            intro h
            subst h
            exact HS.out (by rw [← hq]; rfl)
          have he := beq_true hq
          have H1 := Lib.hid h1
          have H0 := Lib.hid h0
          generalize nmT.getD k [] = x at *
          clear hq h1 h0
          go_wp2
          go_ret2
          refine ⟨?_, HB.out⟩
          rw [H1.out]
          simp [H0.out]
        · have he := beq_false hq
          have HQ := Lib.hid hq
          clear hq
          generalize hX : nmT.getD k [] = x at *
          have HX := Lib.hid hX
          clear hX
          go_wp2
          go_round
          case rel => exact ⟨k + 1, by omega, rfl, Lib.hid (by
            intro j hj
            rcases Nat.lt_or_ge j k with h | h
            · exact hn.out j h
            · obtain rfl : j = k := by omega
              rw [HX.out]; exact HQ.out)⟩
          case measure => simp [intOf] <;> omega
      · obtain rfl : k = 89 := by omega
        go_wp2
        go_ret2
        refine ⟨?_, HB.out⟩
        rw [opOf_miss HS.out hn.out]
        rfl

end Go.Proofs.YtionnhjldcpmjaaGreatDoor
