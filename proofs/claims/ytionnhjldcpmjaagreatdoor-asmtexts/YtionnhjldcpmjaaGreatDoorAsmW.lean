/-
  Lines of data.
-/
import Derived.Test.YtionnhjldcpmjaaGreatDoorAsmK
import Derived.Test.YtionnhjldcpmjaaGreatDoorAsmU
import Derived.Lib.ParseIntBCases
import Derived.Deep.QuietTactic
import Derived.BigQuiet
set_option linter.unusedVariables false
set_option linter.unusedSimpArgs false
namespace Go.Proofs.YtionnhjldcpmjaaGreatDoor
open Go.RowKit

/-- A number of so many bytes, told in one way. -/
def rdD (k : Nat) (s : List UInt8) : Option Nat := match Lib.parseUintB (8 * k) s with | .ok u => if Lib.decDigits u = s then some u else none | _ => none
theorem isk (k : Nat) (hk : k = 1 ∨ k = 2 ∨ k = 4 ∨ k = 8) (s : List UInt8) (u : Nat) (h : Lib.parseUintB (8 * k) s = .ok u) : u < 18446744073709551616 := by
  have h1 := Lib.parseUintB_le h
  rcases hk with rfl | rfl | rfl | rfl <;> simp at h1 <;> omega
theorem pu_ok (k : Nat) (hk : k = 1 ∨ k = 2 ∨ k = 4 ∨ k = 8) (s : List UInt8) (u : Nat) (w : World) (hs : s.length < 4294967281) (h : Lib.parseUintB (8 * k) s = .ok u) :
    Calls Tryz.prog 76 #[str s, .int .i64 10, .int .i64 (8 * (k : Int))] w fun e w' => e = .returned (.tuple #[.int .u64 u, .nilIface]) ∧ Bl w w' := by
  have hz : (⟨s.toArray⟩ : ByteArray).size ≤ 9223372036854775806 := by simp [ByteArray.size]; omega
  have fin : ∀ w', (w' = w ∨ w' = Lib.bytesWorld w 5 ⟨s.toArray⟩) → Bl w w' := by
    rintro w' (rfl | rfl)
    · exact Bl.refl _
    · exact Lib.bytesWorld_below _ _ _
  rcases hk with rfl | rfl | rfl | rfl
  · exact (Tryz.strconv_ParseUint_10_at8_ok ⟨s.toArray⟩ hz u h w).mono fun e w' h => ⟨h.1, fin w' h.2⟩
  · exact (Tryz.strconv_ParseUint_10_at16_ok ⟨s.toArray⟩ hz u h w).mono fun e w' h => ⟨h.1, fin w' h.2⟩
  · exact (Tryz.strconv_ParseUint_10_at32_ok ⟨s.toArray⟩ hz u h w).mono fun e w' h => ⟨h.1, fin w' h.2⟩
  · exact (Tryz.strconv_ParseUint_10_at64_ok ⟨s.toArray⟩ hz u h w).mono fun e w' h => ⟨h.1, fin w' h.2⟩
theorem pu_no (k : Nat) (hk : k = 1 ∨ k = 2 ∨ k = 4 ∨ k = 8) (s : List UInt8) (a : Addr) (w : World) (hE : Env a w) (hs : s.length < 4294967281) (h : ∀ u, Lib.parseUintB (8 * k) s ≠ .ok u) :
    Calls Tryz.prog 76 #[str s, .int .i64 10, .int .i64 (8 * (k : Int))] w fun e w' => (∃ x N, e = .returned (.tuple #[.int .u64 x, .iface 138 (.pointer (some ⟨N, 0, none⟩))])) ∧ Bl w w' := by
  have hz : (⟨s.toArray⟩ : ByteArray).size ≤ 281474976710656 := by simp [ByteArray.size]; omega
  obtain ⟨t1, p1, hv1⟩ := hE.syn
  obtain ⟨t2, p2, hv2⟩ := hE.rng
  rcases hA : Lib.parseUintB (8 * k) s with u | _ | _
  · exact absurd hA (h u)
  · rcases hk with rfl | rfl | rfl | rfl
    · refine (Any.strconv_ParseUint_10_at8_syntax Tryz.laysPu14 ⟨s.toArray⟩ hz hA _ w hv1 (Or.inr ⟨_, _, rfl⟩)).mono ?_
      rintro e w' ⟨N, rfl, -, -, hb⟩
      exact ⟨⟨_, N, rfl⟩, hb⟩
    · refine (Any.strconv_ParseUint_10_at16_syntax Tryz.laysPu14 ⟨s.toArray⟩ hz hA _ w hv1 (Or.inr ⟨_, _, rfl⟩)).mono ?_
      rintro e w' ⟨N, rfl, -, -, hb⟩
      exact ⟨⟨_, N, rfl⟩, hb⟩
    · refine (Any.strconv_ParseUint_10_at32_syntax Tryz.laysPu14 ⟨s.toArray⟩ hz hA _ w hv1 (Or.inr ⟨_, _, rfl⟩)).mono ?_
      rintro e w' ⟨N, rfl, -, -, hb⟩
      exact ⟨⟨_, N, rfl⟩, hb⟩
    · refine (Any.strconv_ParseUint_10_at64_syntax Tryz.laysPu14 ⟨s.toArray⟩ hz hA _ w hv1 (Or.inr ⟨_, _, rfl⟩)).mono ?_
      rintro e w' ⟨N, rfl, -, -, hb⟩
      exact ⟨⟨_, N, rfl⟩, hb⟩
  · rcases hk with rfl | rfl | rfl | rfl
    · refine (Any.strconv_ParseUint_10_at8_range Tryz.laysPu14 ⟨s.toArray⟩ hz hA _ w hv2 (Or.inr ⟨_, _, rfl⟩)).mono ?_
      rintro e w' ⟨N, rfl, -, -, hb⟩
      exact ⟨⟨_, N, rfl⟩, hb⟩
    · refine (Any.strconv_ParseUint_10_at16_range Tryz.laysPu14 ⟨s.toArray⟩ hz hA _ w hv2 (Or.inr ⟨_, _, rfl⟩)).mono ?_
      rintro e w' ⟨N, rfl, -, -, hb⟩
      exact ⟨⟨_, N, rfl⟩, hb⟩
    · refine (Any.strconv_ParseUint_10_at32_range Tryz.laysPu14 ⟨s.toArray⟩ hz hA _ w hv2 (Or.inr ⟨_, _, rfl⟩)).mono ?_
      rintro e w' ⟨N, rfl, -, -, hb⟩
      exact ⟨⟨_, N, rfl⟩, hb⟩
    · refine (Any.strconv_ParseUint_10_at64_range Tryz.laysPu14 ⟨s.toArray⟩ hz hA _ w hv2 (Or.inr ⟨_, _, rfl⟩)).mono ?_
      rintro e w' ⟨N, rfl, -, -, hb⟩
      exact ⟨⟨_, N, rfl⟩, hb⟩
set_option maxHeartbeats 1000000 in
theorem readData_yes (k : Nat) (hk : k = 1 ∨ k = 2 ∨ k = 4 ∨ k = 8) (s : List UInt8) (u : Nat) (a : Addr) (w : World) (hE : Env a w) (hs : s.length < 4294967281) (h : rdD k s = some u) :
    Calls Tryz.prog 50 #[str s, .int .i64 (k : Int)] w fun e w' => e = .returned (.tuple #[.int .u64 u, .nilIface]) ∧ Bl w w' := by
  obtain ⟨h1, h2⟩ : Lib.parseUintB (8 * k) s = .ok u ∧ Lib.decDigits u = s := by
    unfold rdD at h
    split at h
    · rename_i v hv
      split at h
      · rename_i h3
        obtain rfl := Option.some.inj h
        exact ⟨hv, h3⟩
      · cases h
    · cases h
  have hU := isk k hk s u h1
  have hP := pu_ok k hk s u w hs h1
  have hF := fun w hE => fmtU_any u hU a w hE
  rw [h2] at hF
  have HE := Lib.hid hE
  have HF := Lib.hid hF
  have hbe := beq_true (rfl : s = s)
  have hk8 : (k : Int) ≤ 8 := by omega
  have HK := Lib.hid hk
  clear h h1 h2 hE hF hk
  go_enter Tryz.func50, Tryz.ntmps50
  go_wp2_with fail
  refine hP.mono ?_
  rintro e w1 ⟨rfl, k1⟩
  have K1 := Lib.hid k1
  have HE1 := Lib.hid (HE.out.bl k1)
  clear k1 hP
  go_wp2_with fail
  refine (HF.out _ HE1.out).mono ?_
  rintro e w2 ⟨rfl, k2⟩
  have K2 := Lib.hid (K1.out.trans k2)
  clear k2
  go_wp2
  go_ret2
  exact ⟨rfl, K2.out⟩
set_option maxHeartbeats 1000000 in
theorem readData_no (k : Nat) (hk : k = 1 ∨ k = 2 ∨ k = 4 ∨ k = 8) (s : List UInt8) (a : Addr) (w : World) (hE : Env a w) (hs : s.length < 4294967281) (h : rdD k s = none) :
    Calls Tryz.prog 50 #[str s, .int .i64 (k : Int)] w fun e w' => e = .returned (.tuple #[.int .u64 0, .iface 153 (.pointer (some a))]) ∧ Bl w w' := by
  by_cases hex : ∃ u, Lib.parseUintB (8 * k) s = .ok u
  · obtain ⟨u, h1⟩ := hex
    have h2 : Lib.decDigits u ≠ s := by
      unfold rdD at h
      rw [h1] at h
      dsimp only at h
      split at h
      · cases h
      · assumption
    have hU := isk k hk s u h1
    have hP := pu_ok k hk s u w hs h1
    have hF := fun w hE => fmtU_any u hU a w hE
    have hbe := beq_false h2
    generalize Lib.decDigits u = ds at *
    have HE := Lib.hid hE
    have HF := Lib.hid hF
    have hk8 : (k : Int) ≤ 8 := by omega
    clear h h1 h2 hE hF hk
    go_enter Tryz.func50, Tryz.ntmps50
    go_wp2_with fail
    refine hP.mono ?_
    rintro e w1 ⟨rfl, k1⟩
    have K1 := Lib.hid k1
    have HE1 := Lib.hid (HE.out.bl k1)
    clear k1 hP
    go_wp2_with fail
    refine (HF.out _ HE1.out).mono ?_
    rintro e w2 ⟨rfl, k2⟩
    have K2 := Lib.hid (K1.out.trans k2)
    have herr := (HE1.out.bl k2).err
    clear k2
    go_wp2
    go_quiet (fail)
    go_wp2
    go_ret2
    exact ⟨rfl, K2.out.drewN _⟩
  · have hP := pu_no k hk s a w hE hs (fun u hu => hex ⟨u, hu⟩)
    have HE := Lib.hid hE
    have hk8 : (k : Int) ≤ 8 := by omega
    clear h hex hE hk
    go_enter Tryz.func50, Tryz.ntmps50
    go_wp2_with fail
    refine hP.mono ?_
    rintro e w1 ⟨⟨x, N, rfl⟩, k1⟩
    have K1 := Lib.hid k1
    have herr := (HE.out.bl k1).err
    clear k1 hP
    go_wp2
    go_quiet (fail)
    go_wp2
    go_ret2
    exact ⟨rfl, K1.out.drewN _⟩

end Go.Proofs.YtionnhjldcpmjaaGreatDoor
