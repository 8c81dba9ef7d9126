/-
  Lines that are instructions, and that are none.
  Lines of data.
  Assemble.
  What a text says; the first answer.
  Two texts, one behind the other.
-/
import Derived.Test.YtionnhjldcpmjaaGreatDoorAsmJ
import Derived.Test.YtionnhjldcpmjaaGreatDoorPackB
import Derived.Test.YtionnhjldcpmjaaGreatDoorFacts
import Derived.Test.YtionnhjldcpmjaaGreatDoorAsmU
import Derived.Lib.ParseIntBCases
import Derived.Deep.QuietTactic
import Derived.BigQuiet
import Derived.Test.YtionnhjldcpmjaaGreatDoorBack
set_option linter.unusedVariables false
set_option linter.unusedSimpArgs false
namespace Go.Proofs.YtionnhjldcpmjaaGreatDoor
open Go.RowKit

theorem putB_nil (x : Int) : putB x 0 = [] := by simp [putB]
theorem put_nil (x : Int) (k : Nat) (w : World) (hk : k ≤ 8) :
    Calls Tryz.prog 37 #[.slice none 0 0, .int .u64 x, .int .i64 k] w fun e w' => ∃ B c, e = .returned (.slice B k c) ∧ Rd w' B (putB x k) ∧ Bl w w' ∧ (B = none → c = 0) := by
  rcases Nat.eq_zero_or_pos k with h | h
  · subst h
    refine (put_out none 0 0 [] x (0 : Nat) w Rd.nil_ rfl (by omega) (by omega)).mono ?_
    rintro e w' ⟨B, c, rfl, hr, hb, hc⟩
    exact ⟨B, c, rfl, by rw [putB_nil]; exact hr, hb, hc⟩
  · refine (put_in none 0 0 [] x k w Rd.nil_ rfl (by omega) (by omega) hk).mono ?_
    rintro e w' ⟨B, c, rfl, hr, hb, -, hc⟩
    exact ⟨B, c, by rw [Nat.zero_add], by simpa using hr, hb, hc⟩
set_option maxHeartbeats 1000000 in
theorem line_yes (l : List UInt8) (a : Addr) (w : World) (hE : Env a w) (hs : l.length < 4294967281) (hl : l ≠ []) (hd : isData l = false) (hok : okP l = true) :
    Calls Tryz.prog 36 #[str l] w fun e w' => e = .returned (.tuple #[.int .u64 (encS (readL l) : Nat), .int .i64 4, .nilIface]) ∧ Bl w w' := by
  have hC := cut_any l [32] a w hE hs
  have he : l.isEmpty = false := by simpa using hl
  have hP := fun w hE => parse_yes l a w hE hs hok
  have hB : encB (readL l) = true := by
    simp only [okP, Bool.and_eq_true] at hok
    exact hok.1
  have hEn : ∀ w, Tabs w → Calls Tryz.prog 25 #[.agg (readL l).cells] w fun e w' => e = .returned (.tuple #[.int .u32 (encS (readL l) : Nat), .bool true]) ∧ Kp none w w' := fun w hT =>
    (encode_any (readL l) w hT).mono fun e w' h => by
      obtain ⟨h1, h2⟩ := h
      exact ⟨by rw [h1]; simp [hB], h2⟩
  have hW := encS_lt (readL l)
  have hW0 : (0 : Int) ≤ ((encS (readL l) : Nat) : Int) := by omega
  generalize encS (readL l) = W at *
  generalize readL l = I at *
  have hD := fun w => dataSize_any (Lib.cut l [32]).1 w
  unfold isData at hd
  generalize (Lib.cut l [32]).1 = nam at *
  generalize (Lib.cut l [32]).2.1 = rest at *
  generalize (Lib.cut l [32]).2.2 = fnd at *
  generalize dsz nam = D at *
  have HE := Lib.hid hE
  have HP := Lib.hid hP
  have HEn := Lib.hid hEn
  have HD := Lib.hid hD
  clear hE hl hok hP hEn hD hB
  cases fnd with
  | false =>
    clear hd
    go_enter Tryz.func36, Tryz.ntmps36
    go_wp2_with fail
    refine hC.mono ?_
    rintro e w1 ⟨rfl, k1⟩
    have K1 := Lib.hid k1
    clear k1 hC
    go_wp2_with fail
    refine (HP.out _ (HE.out.bl K1.out)).mono ?_
    rintro e w3 ⟨rfl, k3⟩
    have K3 := Lib.hid (K1.out.trans k3)
    have k4 := K3.out.alloc I.cells 28
    obtain ⟨b0, b1, b2, b3, b4, b5, b6⟩ := (Has.new w3 I.cells 28).seven
    have K4 := Lib.hid k4
    clear k3 k4
    go_wp2_with fail
    refine (HEn.out _ (HE.out.bl K4.out).tabs).mono ?_
    rintro e w5 ⟨rfl, k5⟩
    have K5 := Lib.hid (K4.out.trans k5.bl)
    clear k5
    go_wp2
    (try simp only [Exit.inBlock, Exit.then])
    refine bodyPost_ret (results_tmp3 rfl _ _ _) rfl ?_
    exact ⟨rfl, K5.out⟩
  | true =>
    obtain rfl : D = 0 := by simpa using hd
    clear hd
    go_enter Tryz.func36, Tryz.ntmps36
    go_wp2_with fail
    refine hC.mono ?_
    rintro e w1 ⟨rfl, k1⟩
    have K1 := Lib.hid k1
    clear k1 hC
    go_wp2_with fail
    refine (HD.out _).mono ?_
    rintro e w2 ⟨rfl, rfl⟩
    go_wp2_with fail
    refine (HP.out _ (HE.out.bl K1.out)).mono ?_
    rintro e w3 ⟨rfl, k3⟩
    have K3 := Lib.hid (K1.out.trans k3)
    have k4 := K3.out.alloc I.cells 28
    obtain ⟨b0, b1, b2, b3, b4, b5, b6⟩ := (Has.new w3 I.cells 28).seven
    have K4 := Lib.hid k4
    clear k3 k4
    go_wp2_with fail
    refine (HEn.out _ (HE.out.bl K4.out).tabs).mono ?_
    rintro e w5 ⟨rfl, k5⟩
    have K5 := Lib.hid (K4.out.trans k5.bl)
    clear k5
    go_wp2
    (try simp only [Exit.inBlock, Exit.then])
    refine bodyPost_ret (results_tmp3 rfl _ _ _) rfl ?_
    exact ⟨rfl, K5.out⟩
set_option maxHeartbeats 1000000 in
theorem line_no (l : List UInt8) (a : Addr) (w : World) (hE : Env a w) (hs : l.length < 4294967281) (hl : l ≠ []) (hd : isData l = false) (hok : okP l = false) :
    Calls Tryz.prog 36 #[str l] w fun e w' => (∃ x : Int, e = .returned (.tuple #[.int .u64 x, .int .i64 4, .iface 153 (.pointer (some a))])) ∧ Bl w w' := by
  have hC := cut_any l [32] a w hE hs
  have he : l.isEmpty = false := by simpa using hl
  have hP := fun w hE => parse_no l a w hE hs hok
  have hEn : ∀ w, Tabs w → Calls Tryz.prog 25 #[.agg (I7 0 0 0 0 0 0 0)] w fun e w' => e = .returned (.tuple #[.int .u32 ((if encB ⟨0, 0, 0, 0, 0, 0, 0⟩ = true then encS ⟨0, 0, 0, 0, 0, 0, 0⟩ else 0 : Nat) : Int), .bool (encB ⟨0, 0, 0, 0, 0, 0, 0⟩)]) ∧ Kp none w w' := fun w hT => encode_any ⟨0, 0, 0, 0, 0, 0, 0⟩ w hT
  generalize ((if encB ⟨0, 0, 0, 0, 0, 0, 0⟩ = true then encS ⟨0, 0, 0, 0, 0, 0, 0⟩ else 0 : Nat)) = W at *
  generalize encB ⟨0, 0, 0, 0, 0, 0, 0⟩ = eb at *
  have hD := fun w => dataSize_any (Lib.cut l [32]).1 w
  unfold isData at hd
  generalize (Lib.cut l [32]).1 = nam at *
  generalize (Lib.cut l [32]).2.1 = rest at *
  generalize (Lib.cut l [32]).2.2 = fnd at *
  generalize dsz nam = D at *
  have HE := Lib.hid hE
  have HP := Lib.hid hP
  have HEn := Lib.hid hEn
  have HD := Lib.hid hD
  clear hE hl hok hP hEn hD 
  cases fnd with
  | false =>
    clear hd
    go_enter Tryz.func36, Tryz.ntmps36
    go_wp2_with fail
    refine hC.mono ?_
    rintro e w1 ⟨rfl, k1⟩
    have K1 := Lib.hid k1
    clear k1 hC
    go_wp2_with fail
    refine (HP.out _ (HE.out.bl K1.out)).mono ?_
    rintro e w3 ⟨rfl, k3⟩
    have K3 := Lib.hid (K1.out.trans k3)
    have k4 := K3.out.alloc (I7 0 0 0 0 0 0 0) 28
    obtain ⟨b0, b1, b2, b3, b4, b5, b6⟩ := (Has.new w3 (I7 0 0 0 0 0 0 0) 28).seven
    have K4 := Lib.hid k4
    clear k3 k4
    go_wp2_with fail
    refine (HEn.out _ (HE.out.bl K4.out).tabs).mono ?_
    rintro e w5 ⟨rfl, k5⟩
    have K5 := Lib.hid (K4.out.trans k5.bl)
    clear k5
    go_wp2
    (try simp only [Exit.inBlock, Exit.then])
    refine bodyPost_ret (results_tmp3 rfl _ _ _) rfl ?_
    exact ⟨⟨_, rfl⟩, K5.out⟩
  | true =>
    obtain rfl : D = 0 := by simpa using hd
    clear hd
    go_enter Tryz.func36, Tryz.ntmps36
    go_wp2_with fail
    refine hC.mono ?_
    rintro e w1 ⟨rfl, k1⟩
    have K1 := Lib.hid k1
    clear k1 hC
    go_wp2_with fail
    refine (HD.out _).mono ?_
    rintro e w2 ⟨rfl, rfl⟩
    go_wp2_with fail
    refine (HP.out _ (HE.out.bl K1.out)).mono ?_
    rintro e w3 ⟨rfl, k3⟩
    have K3 := Lib.hid (K1.out.trans k3)
    have k4 := K3.out.alloc (I7 0 0 0 0 0 0 0) 28
    obtain ⟨b0, b1, b2, b3, b4, b5, b6⟩ := (Has.new w3 (I7 0 0 0 0 0 0 0) 28).seven
    have K4 := Lib.hid k4
    clear k3 k4
    go_wp2_with fail
    refine (HEn.out _ (HE.out.bl K4.out).tabs).mono ?_
    rintro e w5 ⟨rfl, k5⟩
    have K5 := Lib.hid (K4.out.trans k5.bl)
    clear k5
    go_wp2
    (try simp only [Exit.inBlock, Exit.then])
    refine bodyPost_ret (results_tmp3 rfl _ _ _) rfl ?_
    exact ⟨⟨_, rfl⟩, K5.out⟩

end Go.Proofs.YtionnhjldcpmjaaGreatDoor

set_option linter.unusedVariables false
set_option linter.unusedSimpArgs false
namespace Go.Proofs.YtionnhjldcpmjaaGreatDoor
open Go.RowKit

/-- A number of so many bytes, told in one way. -/
def rdD (k : Nat) (s : List UInt8) : Option Nat := match Lib.parseUintB (8 * k) s with | .ok u => if Lib.decDigits u = s then some u else none | _ => none
theorem isk (k : Nat) (hk : k = 1 ∨ k = 2 ∨ k = 4 ∨ k = 8) (s : List UInt8) (u : Nat) (h : Lib.parseUintB (8 * k) s = .ok u) : u < 18446744073709551616 := by
  have h1 := Lib.parseUintB_le h
  rcases hk with rfl | rfl | rfl | rfl <;> simp at h1 <;> omega
theorem pu_ok (k : Nat) (hk : k = 1 ∨ k = 2 ∨ k = 4 ∨ k = 8) (s : List UInt8) (u : Nat) (w : World) (hs : s.length < 4294967281) (h : Lib.parseUintB (8 * k) s = .ok u) :
    Calls Tryz.prog 76 #[str s, .int .i64 10, .int .i64 (8 * (k : Int))] w fun e w' => e = .returned (.tuple #[.int .u64 u, .nilIface]) ∧ Bl w w' := by
  have hz : (⟨s.toArray⟩ : ByteArray).size ≤ 9223372036854775806 := by simp [ByteArray.size]; omega
  have fin : ∀ w', (w' = w ∨ w' = Lib.bytesWorld w 5 ⟨s.toArray⟩) → Bl w w' := by
    rintro w' (rfl | rfl)
    · exact Bl.refl _
    · exact Lib.bytesWorld_below _ _ _
  rcases hk with rfl | rfl | rfl | rfl
  · exact (Tryz.strconv_ParseUint_10_at8_ok ⟨s.toArray⟩ hz u h w).mono fun e w' h => ⟨h.1, fin w' h.2⟩
  · exact (Tryz.strconv_ParseUint_10_at16_ok ⟨s.toArray⟩ hz u h w).mono fun e w' h => ⟨h.1, fin w' h.2⟩
  · exact (Tryz.strconv_ParseUint_10_at32_ok ⟨s.toArray⟩ hz u h w).mono fun e w' h => ⟨h.1, fin w' h.2⟩
  · exact (Tryz.strconv_ParseUint_10_at64_ok ⟨s.toArray⟩ hz u h w).mono fun e w' h => ⟨h.1, fin w' h.2⟩
theorem pu_no (k : Nat) (hk : k = 1 ∨ k = 2 ∨ k = 4 ∨ k = 8) (s : List UInt8) (a : Addr) (w : World) (hE : Env a w) (hs : s.length < 4294967281) (h : ∀ u, Lib.parseUintB (8 * k) s ≠ .ok u) :
    Calls Tryz.prog 76 #[str s, .int .i64 10, .int .i64 (8 * (k : Int))] w fun e w' => (∃ x N, e = .returned (.tuple #[.int .u64 x, .iface 138 (.pointer (some ⟨N, 0, none⟩))])) ∧ Bl w w' := by
  have hz : (⟨s.toArray⟩ : ByteArray).size ≤ 281474976710656 := by simp [ByteArray.size]; omega
  obtain ⟨t1, p1, hv1⟩ := hE.syn
  obtain ⟨t2, p2, hv2⟩ := hE.rng
  rcases hA : Lib.parseUintB (8 * k) s with u | _ | _
  · exact absurd hA (h u)
  · rcases hk with rfl | rfl | rfl | rfl
    · refine (Any.strconv_ParseUint_10_at8_syntax Tryz.laysPu14 ⟨s.toArray⟩ hz hA _ w hv1 (Or.inr ⟨_, _, rfl⟩)).mono ?_
      rintro e w' ⟨N, rfl, -, -, hb⟩
      exact ⟨⟨_, N, rfl⟩, hb⟩
    · refine (Any.strconv_ParseUint_10_at16_syntax Tryz.laysPu14 ⟨s.toArray⟩ hz hA _ w hv1 (Or.inr ⟨_, _, rfl⟩)).mono ?_
      rintro e w' ⟨N, rfl, -, -, hb⟩
      exact ⟨⟨_, N, rfl⟩, hb⟩
    · refine (Any.strconv_ParseUint_10_at32_syntax Tryz.laysPu14 ⟨s.toArray⟩ hz hA _ w hv1 (Or.inr ⟨_, _, rfl⟩)).mono ?_
      rintro e w' ⟨N, rfl, -, -, hb⟩
      exact ⟨⟨_, N, rfl⟩, hb⟩
    · refine (Any.strconv_ParseUint_10_at64_syntax Tryz.laysPu14 ⟨s.toArray⟩ hz hA _ w hv1 (Or.inr ⟨_, _, rfl⟩)).mono ?_
      rintro e w' ⟨N, rfl, -, -, hb⟩
      exact ⟨⟨_, N, rfl⟩, hb⟩
  · rcases hk with rfl | rfl | rfl | rfl
    · refine (Any.strconv_ParseUint_10_at8_range Tryz.laysPu14 ⟨s.toArray⟩ hz hA _ w hv2 (Or.inr ⟨_, _, rfl⟩)).mono ?_
      rintro e w' ⟨N, rfl, -, -, hb⟩
      exact ⟨⟨_, N, rfl⟩, hb⟩
    · refine (Any.strconv_ParseUint_10_at16_range Tryz.laysPu14 ⟨s.toArray⟩ hz hA _ w hv2 (Or.inr ⟨_, _, rfl⟩)).mono ?_
      rintro e w' ⟨N, rfl, -, -, hb⟩
      exact ⟨⟨_, N, rfl⟩, hb⟩
    · refine (Any.strconv_ParseUint_10_at32_range Tryz.laysPu14 ⟨s.toArray⟩ hz hA _ w hv2 (Or.inr ⟨_, _, rfl⟩)).mono ?_
      rintro e w' ⟨N, rfl, -, -, hb⟩
      exact ⟨⟨_, N, rfl⟩, hb⟩
    · refine (Any.strconv_ParseUint_10_at64_range Tryz.laysPu14 ⟨s.toArray⟩ hz hA _ w hv2 (Or.inr ⟨_, _, rfl⟩)).mono ?_
      rintro e w' ⟨N, rfl, -, -, hb⟩
      exact ⟨⟨_, N, rfl⟩, hb⟩
set_option maxHeartbeats 1000000 in
theorem readData_yes (k : Nat) (hk : k = 1 ∨ k = 2 ∨ k = 4 ∨ k = 8) (s : List UInt8) (u : Nat) (a : Addr) (w : World) (hE : Env a w) (hs : s.length < 4294967281) (h : rdD k s = some u) :
    Calls Tryz.prog 50 #[str s, .int .i64 (k : Int)] w fun e w' => e = .returned (.tuple #[.int .u64 u, .nilIface]) ∧ Bl w w' := by
  obtain ⟨h1, h2⟩ : Lib.parseUintB (8 * k) s = .ok u ∧ Lib.decDigits u = s := by
    unfold rdD at h
    split at h
    · rename_i v hv
      split at h
      · rename_i h3
        obtain rfl := Option.some.inj h
        exact ⟨hv, h3⟩
      · cases h
    · cases h
  have hU := isk k hk s u h1
  have hP := pu_ok k hk s u w hs h1
  have hF := fun w hE => fmtU_any u hU a w hE
  rw [h2] at hF
  have HE := Lib.hid hE
  have HF := Lib.hid hF
  have hbe := beq_true (rfl : s = s)
  have hk8 : (k : Int) ≤ 8 := by omega
  have HK := Lib.hid hk
  clear h h1 h2 hE hF hk
  go_enter Tryz.func50, Tryz.ntmps50
  go_wp2_with fail
  refine hP.mono ?_
  rintro e w1 ⟨rfl, k1⟩
  have K1 := Lib.hid k1
  have HE1 := Lib.hid (HE.out.bl k1)
  clear k1 hP
  go_wp2_with fail
  refine (HF.out _ HE1.out).mono ?_
  rintro e w2 ⟨rfl, k2⟩
  have K2 := Lib.hid (K1.out.trans k2)
  clear k2
  go_wp2
  go_ret2
  exact ⟨rfl, K2.out⟩
set_option maxHeartbeats 1000000 in
theorem readData_no (k : Nat) (hk : k = 1 ∨ k = 2 ∨ k = 4 ∨ k = 8) (s : List UInt8) (a : Addr) (w : World) (hE : Env a w) (hs : s.length < 4294967281) (h : rdD k s = none) :
    Calls Tryz.prog 50 #[str s, .int .i64 (k : Int)] w fun e w' => e = .returned (.tuple #[.int .u64 0, .iface 153 (.pointer (some a))]) ∧ Bl w w' := by
  by_cases hex : ∃ u, Lib.parseUintB (8 * k) s = .ok u
  · obtain ⟨u, h1⟩ := hex
    have h2 : Lib.decDigits u ≠ s := by
      unfold rdD at h
      rw [h1] at h
      dsimp only at h
      split at h
      · cases h
      · assumption
    have hU := isk k hk s u h1
    have hP := pu_ok k hk s u w hs h1
    have hF := fun w hE => fmtU_any u hU a w hE
    have hbe := beq_false h2
    generalize Lib.decDigits u = ds at *
    have HE := Lib.hid hE
    have HF := Lib.hid hF
    have hk8 : (k : Int) ≤ 8 := by omega
    clear h h1 h2 hE hF hk
    go_enter Tryz.func50, Tryz.ntmps50
    go_wp2_with fail
    refine hP.mono ?_
    rintro e w1 ⟨rfl, k1⟩
    have K1 := Lib.hid k1
    have HE1 := Lib.hid (HE.out.bl k1)
    clear k1 hP
    go_wp2_with fail
    refine (HF.out _ HE1.out).mono ?_
    rintro e w2 ⟨rfl, k2⟩
    have K2 := Lib.hid (K1.out.trans k2)
    have herr := (HE1.out.bl k2).err
    clear k2
    go_wp2
    go_quiet (fail)
    go_wp2
    go_ret2
    exact ⟨rfl, K2.out.drewN _⟩
  · have hP := pu_no k hk s a w hE hs (fun u hu => hex ⟨u, hu⟩)
    have HE := Lib.hid hE
    have hk8 : (k : Int) ≤ 8 := by omega
    clear h hex hE hk
    go_enter Tryz.func50, Tryz.ntmps50
    go_wp2_with fail
    refine hP.mono ?_
    rintro e w1 ⟨⟨x, N, rfl⟩, k1⟩
    have K1 := Lib.hid k1
    have herr := (HE.out.bl k1).err
    clear k1 hP
    go_wp2
    go_quiet (fail)
    go_wp2
    go_ret2
    exact ⟨rfl, K1.out.drewN _⟩

end Go.Proofs.YtionnhjldcpmjaaGreatDoor

set_option linter.unusedVariables false
set_option linter.unusedSimpArgs false
namespace Go.Proofs.YtionnhjldcpmjaaGreatDoor
open Go.RowKit

/-- The lines of a text. -/
def linesF : Nat → List UInt8 → List (List UInt8)
  | 0, _ => []
  | f + 1, t => if t = [] then [] else (Lib.cut t [10]).1 :: linesF f (Lib.cut t [10]).2.1
def linesL (t : List UInt8) : List (List UInt8) := linesF t.length t
theorem cut_less (t : List UInt8) (h : t ≠ []) : (Lib.cut t [10]).2.1.length < t.length := by
  have hl : 0 < t.length := List.length_pos_iff.2 h
  unfold Lib.cut
  split
  · simp; omega
  · simpa using hl
theorem linesF_more : ∀ (f g : Nat) (t : List UInt8), t.length ≤ f → t.length ≤ g → linesF f t = linesF g t
  | 0, 0, t, _, _ => rfl
  | 0, g + 1, t, hf, _ => by
    have : t = [] := List.eq_nil_of_length_eq_zero (by omega)
    simp [linesF, this]
  | f + 1, 0, t, _, hg => by
    have : t = [] := List.eq_nil_of_length_eq_zero (by omega)
    simp [linesF, this]
  | f + 1, g + 1, t, hf, hg => by
    unfold linesF
    by_cases h : t = []
    · simp [h]
    · have hc := cut_less t h
      rw [if_neg h, if_neg h, linesF_more f g _ (by omega) (by omega)]
theorem linesL_cons (t : List UInt8) (h : t ≠ []) : linesL t = (Lib.cut t [10]).1 :: linesL (Lib.cut t [10]).2.1 := by
  have hl : 0 < t.length := List.length_pos_iff.2 h
  have hc := cut_less t h
  unfold linesL
  rw [show t.length = (t.length - 1) + 1 by omega]
  conv => lhs; unfold linesF
  rw [if_neg h, linesF_more (t.length - 1) (Lib.cut t [10]).2.1.length _ (by omega) (by omega)]
theorem linesL_nil : linesL [] = [] := rfl
theorem linesL_len : ∀ (n : Nat) (t : List UInt8), t.length ≤ n → (linesL t).length ≤ n
  | 0, t, h => by
    have : t = [] := List.eq_nil_of_length_eq_zero (by omega)
    simp [this, linesL_nil]
  | n + 1, t, h => by
    by_cases ht : t = []
    · simp [ht, linesL_nil]
    · have hc := cut_less t ht
      rw [linesL_cons t ht]
      have := linesL_len n (Lib.cut t [10]).2.1 (by omega)
      simp
      omega
/-- What lines say: bytes, or the number of the first that says none. -/
inductive Asm where
  | ok (bs : List Int)
  | bad (n : Nat)
def asmR (V : List UInt8 → Option (Int × Nat)) : List (List UInt8) → Nat → List Int → Asm
  | [], _, acc => .ok acc
  | l :: ls, n, acc => match V l with
    | none => .bad n
    | some (x, k) => asmR V ls (n + 1) (acc ++ putB x k)
/-- What a line is read as. -/
def LineIs (a : Addr) (V : List UInt8 → Option (Int × Nat)) (l : List UInt8) : Prop := ∀ w, Env a w → Calls Tryz.prog 36 #[str l] w fun e w' =>
  (match V l with
    | some (x, k) => e = .returned (.tuple #[.int .u64 x, .int .i64 k, .nilIface])
    | none => ∃ x k : Int, e = .returned (.tuple #[.int .u64 x, .int .i64 k, .iface 153 (.pointer (some a))])) ∧ Bl w w'
def AsmIs (R : Asm) (e : Ending) (w' : World) : Prop :=
  match R with
  | .ok bs => ∃ A c, e = .returned (.tuple #[.slice A bs.length c, .int .i64 0, .int .i64 0]) ∧ Rd w' A bs ∧ (A = none → c = 0)
  | .bad n => e = .returned (.tuple #[.slice none 0 0, .int .i64 (n : Nat), .int .i64 201])
theorem own_bl {w w' : World} {base e n : Nat} {v : Value} {xs : List Value} (h : w.ownsRow base e 1 v n xs) (k : Bl w w') : w'.ownsRow base e 1 v n xs := by
  obtain ⟨h1, h2⟩ := h
  refine ⟨h1, ?_⟩
  rcases h2 with h2 | ⟨g, c, cur, h3, h4, h5, h6⟩
  · exact .inl h2
  · exact .inr ⟨g, c, cur, h3, h4, (k.block g (lt_of_at h5)).trans h5, h6⟩
set_option maxRecDepth 100000 in
set_option maxHeartbeats 4000000 in
theorem assemble_any (V : List UInt8 → Option (Int × Nat)) (t : List UInt8) (a : Addr) (w : World) (hE : Env a w) (ht : t.length ≤ 100000)
    (hV : ∀ l ∈ linesL t, LineIs a V l) (hk : ∀ l x k, V l = some (x, k) → k ≤ 8) :
    Calls Tryz.prog 19 #[str t] w fun e w' => AsmIs (asmR V (linesL t) 1 []) e w' ∧ Bl w w' := by
  obtain ⟨i0, hi0, hz0, hz1, hz2⟩ := info_parts Tryz.infoByte
  have J0 := Lib.hid hi0; clear hi0
  have J1 := Lib.hid hz0; clear hz0
  have J2 := Lib.hid hz1; clear hz1
  have J3 := Lib.hid hz2; clear hz2
  generalize hR : asmR V (linesL t) 1 [] = R
  have HR := Lib.hid hR
  have HV := Lib.hid hV
  have HK := Lib.hid hk
  have HE := Lib.hid hE
  clear hR hV hk hE
  have hln := linesL_len 100000 t ht
  go_enter Tryz.func19, Tryz.ntmps19
  go_wp2_with fail
  go_loopw [0, 2, 5, 6] (fun tv bv lg nv wr => ∃ (t1 : List UInt8) (n : Nat) (acc : List Int) (A : Option Addr) (c : Nat), tv = str t1 ∧ bv = .slice A acc.length c ∧ lg = .bool false ∧ nv = .int .i64 (n : Nat) ∧
    t1.length ≤ 100000 ∧ 1 ≤ n ∧ n + t1.length ≤ 100001 ∧ acc.length ≤ 8 * n ∧ Hid (asmR V (linesL t1) n acc = R) ∧ Hid (∀ l ∈ linesL t1, LineIs a V l) ∧ Hid (wr.ownsRow w.heap.size 5 1 (.slice A acc.length c) acc.length (asBytes acc)) ∧ Hid (Bl w wr)) (fun tv bv lg nv wr => 100001 - (intOf nv).toNat)
  case atStart => exact ⟨t, 1, [], none, 0, rfl, rfl, rfl, rfl, ht, by omega, by omega, by simp, HR, HV, Lib.hid (World.ownsRow_nil w _ 5 1), Lib.hid (Bl.refl _)⟩
  case round =>
    clear HR HV hln
    obtain ⟨t1, n, acc, A, c, rfl, rfl, rfl, rfl, ht1, hn1, hnt, hac, HR, HV, HO, KW⟩ := hrel
    by_cases hem : t1 = []
    · subst hem
      have hR := HR.out
      rw [linesL_nil] at hR
      simp only [asmR] at hR
      have HR2 := Lib.hid hR
      clear hR HR
      go_wp2
      (try simp only [Exit.inBlock, Exit.then])
      refine bodyPost_ret (results_tmp3 rfl _ _ _) rfl ⟨?_, KW.out⟩
      rw [← HR2.out]
      obtain ⟨B, c2, h1, h2, _, h4, _⟩ := Rd.of_own HO.out
      injection h1 with h1 _ h3
      subst h1 h3
      exact ⟨_, _, rfl, h2, h4⟩
    · have hcons := linesL_cons t1 hem
      have hless := cut_less t1 hem
      have hC := cut_any t1 [10] a wr (HE.out.bl KW.out) (by omega)
      have hRc := HR.out
      have hVc := HV.out
      rw [hcons] at hRc hVc
      have he : t1.isEmpty = false := by simpa using hem
      generalize (Lib.cut t1 [10]).1 = one at *
      generalize (Lib.cut t1 [10]).2.1 = t2 at *
      generalize (Lib.cut t1 [10]).2.2 = fnd at *
      have hL := hVc one (by simp)
      have HV2 : Hid (∀ l ∈ linesL t2, LineIs a V l) := Lib.hid fun l hl => hVc l (by simp [hl])
      unfold asmR at hRc
      unfold LineIs at hL
      clear hcons hVc HR HV hem
      cases hVo : V one with
      | none =>
        rw [hVo] at hRc hL
        dsimp only at hRc hL
        have HRc := Lib.hid hRc
        have HL := Lib.hid hL
        clear hRc hL hVo
        go_wp2_with fail
        refine hC.mono ?_
        rintro e w1 ⟨rfl, k1⟩
        have K1 := Lib.hid (KW.out.trans k1)
        clear hC k1
        go_wp2_with fail
        refine (HL.out _ (HE.out.bl K1.out)).mono ?_
        rintro e w2 ⟨⟨x, k, rfl⟩, k2⟩
        have K2 := Lib.hid (K1.out.trans k2)
        have herr := (HE.out.bl K2.out).err
        clear k2 HL
        go_wp2_with fail
        refine (is_same a _).mono ?_
        rintro e w3 ⟨rfl, rfl⟩
        go_wp2
        (try simp only [Exit.inBlock, Exit.then])
        refine bodyPost_ret (results_tmp3 rfl _ _ _) rfl ⟨?_, K2.out⟩
        rw [← HRc.out]
        rfl
      | some xk =>
        obtain ⟨x, k⟩ := xk
        have hk8 := HK.out one x k hVo
        rw [hVo] at hRc hL
        dsimp only at hRc hL
        have HRc := Lib.hid hRc
        have HL := Lib.hid hL
        clear hRc hL hVo
        go_wp2_with fail
        refine hC.mono ?_
        rintro e w1 ⟨rfl, k1⟩
        have K1 := Lib.hid (KW.out.trans k1)
        have HO1 := Lib.hid k1
        clear hC k1
        go_wp2_with fail
        refine (HL.out _ (HE.out.bl K1.out)).mono ?_
        rintro e w2 ⟨rfl, k2⟩
        have K2 := Lib.hid (K1.out.trans k2)
        have HB2 := Lib.hid (HO1.out.trans k2)
        have herr := (HE.out.bl K2.out).err
        clear k2 HL HO1 K1
        go_wp2_with fail
        refine (is_nil a _).mono ?_
        rintro e w3 ⟨rfl, rfl⟩
        have hac4 : (acc.length : Int) + (k : Int) ≤ 4194304 := by omega
        have hdc : decide ((4194304 : Int) < (acc.length : Int) + (k : Int)) = false := by simp; omega
        go_wp2_with fail
        refine (put_nil x k _ hk8).mono ?_
        rintro e w4 ⟨B, c4, rfl, hr4, k4, hcn⟩
        have K4 := Lib.hid (K2.out.trans k4)
        have HO4 := Lib.hid (own_bl HO.out (HB2.out.trans k4))
        have HR4 := Lib.hid hr4
        have HC4 := Lib.hid hcn
        have hsz := K4.out.size
        clear hr4 k4 hcn HO HB2 K2 hdc
        go_wp2_with (at_builtin; refine wpl_append rfl (.tmp 41) (.tmp 44) 38 rfl w.heap.size 5 i0 Tryz.underlying38 J0.out J1.out J2.out J3.out _ acc.length acc rfl HO4.out B k c4 (putB x k) rfl HR4.out (putB_length x k) HC4.out (by omega) hsz ?_; intro v5 w5 hown5 hg5)
        have hb5 : Bl w w5 := Below.grown K4.out hg5 hsz (own_block_ge HO4.out)
        obtain ⟨A5, c5, rfl, _, _, _, _⟩ := Rd.of_own hown5
        have HO5 := Lib.hid hown5
        have K5 := Lib.hid hb5
        clear hown5 hg5 hb5
        go_wp2
        go_roundw
        case rel => exact ⟨t2, n + 1, acc ++ putB x k, A5, c5, rfl, by rw [List.length_append, putB_length], rfl, by go_num, by omega, by omega, by omega, by rw [List.length_append, putB_length]; omega, HRc, HV2, by rw [List.length_append, putB_length]; exact HO5, K5⟩
        case measure => simp [intOf] <;> omega

end Go.Proofs.YtionnhjldcpmjaaGreatDoor

set_option linter.unusedVariables false
set_option linter.unusedSimpArgs false
namespace Go.Proofs.YtionnhjldcpmjaaGreatDoor
open Go.RowKit

theorem dsz_of (s : List UInt8) : dsz s = 0 ∨ dsz s = 1 ∨ dsz s = 2 ∨ dsz s = 4 ∨ dsz s = 8 := by
  unfold dsz
  repeat' split
  all_goals simp
set_option maxHeartbeats 1000000 in
theorem line_data_yes (l : List UInt8) (u : Nat) (a : Addr) (w : World) (hE : Env a w) (hs : l.length < 4294967281) (hl : l ≠ []) (hd : isData l = true) (hv : rdD (dsz (Lib.cut l [32]).1) (Lib.cut l [32]).2.1 = some u) :
    Calls Tryz.prog 36 #[str l] w fun e w' => e = .returned (.tuple #[.int .u64 u, .int .i64 (dsz (Lib.cut l [32]).1 : Nat), .nilIface]) ∧ Bl w w' := by
  have hC := cut_any l [32] a w hE hs
  have he : l.isEmpty = false := by simpa using hl
  have hD := fun w => dataSize_any (Lib.cut l [32]).1 w
  have h8 := dsz_of (Lib.cut l [32]).1
  have hl2 := cut_len2 l [32]
  unfold isData at hd
  generalize (Lib.cut l [32]).1 = nam at *
  generalize (Lib.cut l [32]).2.1 = rest at *
  generalize (Lib.cut l [32]).2.2 = fnd at *
  generalize dsz nam = D at *
  obtain ⟨rfl, hD0⟩ : fnd = true ∧ D ≠ 0 := by simpa using hd
  have hk : D = 1 ∨ D = 2 ∨ D = 4 ∨ D = 8 := by omega
  have hR := fun w hE => readData_yes D hk rest u a w hE (by omega) hv
  have hDn : ((D : Int) == 0) = false := by simp; omega
  have HE := Lib.hid hE
  have HD := Lib.hid hD
  have HR := Lib.hid hR
  clear hE hl hd h8 hD hR hk hv hD0 hl2
  go_enter Tryz.func36, Tryz.ntmps36
  go_wp2_with fail
  refine hC.mono ?_
  rintro e w1 ⟨rfl, k1⟩
  have K1 := Lib.hid k1
  clear k1 hC
  go_wp2_with fail
  refine (HD.out _).mono ?_
  rintro e w2 ⟨rfl, rfl⟩
  go_wp2_with fail
  refine (HD.out _).mono ?_
  rintro e w3 ⟨rfl, rfl⟩
  go_wp2_with fail
  refine (HR.out _ (HE.out.bl K1.out)).mono ?_
  rintro e w4 ⟨rfl, k4⟩
  have K4 := Lib.hid (K1.out.trans k4)
  clear k4
  go_wp2_with fail
  refine (HD.out _).mono ?_
  rintro e w5 ⟨rfl, rfl⟩
  go_wp2
  (try simp only [Exit.inBlock, Exit.then])
  refine bodyPost_ret (results_tmp3 rfl _ _ _) rfl ?_
  exact ⟨rfl, K4.out⟩
set_option maxHeartbeats 1000000 in
theorem line_data_no (l : List UInt8) (a : Addr) (w : World) (hE : Env a w) (hs : l.length < 4294967281) (hl : l ≠ []) (hd : isData l = true) (hv : rdD (dsz (Lib.cut l [32]).1) (Lib.cut l [32]).2.1 = none) :
    Calls Tryz.prog 36 #[str l] w fun e w' => (∃ x k : Int, e = .returned (.tuple #[.int .u64 x, .int .i64 k, .iface 153 (.pointer (some a))])) ∧ Bl w w' := by
  have hC := cut_any l [32] a w hE hs
  have he : l.isEmpty = false := by simpa using hl
  have hD := fun w => dataSize_any (Lib.cut l [32]).1 w
  have h8 := dsz_of (Lib.cut l [32]).1
  have hl2 := cut_len2 l [32]
  unfold isData at hd
  generalize (Lib.cut l [32]).1 = nam at *
  generalize (Lib.cut l [32]).2.1 = rest at *
  generalize (Lib.cut l [32]).2.2 = fnd at *
  generalize dsz nam = D at *
  obtain ⟨rfl, hD0⟩ : fnd = true ∧ D ≠ 0 := by simpa using hd
  have hk : D = 1 ∨ D = 2 ∨ D = 4 ∨ D = 8 := by omega
  have hR := fun w hE => readData_no D hk rest a w hE (by omega) hv
  have hDn : ((D : Int) == 0) = false := by simp; omega
  have HE := Lib.hid hE
  have HD := Lib.hid hD
  have HR := Lib.hid hR
  clear hE hl hd h8 hD hR hk hv hD0 hl2
  go_enter Tryz.func36, Tryz.ntmps36
  go_wp2_with fail
  refine hC.mono ?_
  rintro e w1 ⟨rfl, k1⟩
  have K1 := Lib.hid k1
  clear k1 hC
  go_wp2_with fail
  refine (HD.out _).mono ?_
  rintro e w2 ⟨rfl, rfl⟩
  go_wp2_with fail
  refine (HD.out _).mono ?_
  rintro e w3 ⟨rfl, rfl⟩
  go_wp2_with fail
  refine (HR.out _ (HE.out.bl K1.out)).mono ?_
  rintro e w4 ⟨rfl, k4⟩
  have K4 := Lib.hid (K1.out.trans k4)
  clear k4
  go_wp2_with fail
  refine (HD.out _).mono ?_
  rintro e w5 ⟨rfl, rfl⟩
  go_wp2
  (try simp only [Exit.inBlock, Exit.then])
  refine bodyPost_ret (results_tmp3 rfl _ _ _) rfl ?_
  exact ⟨⟨_, _, rfl⟩, K4.out⟩
/-- What a line says: a number, and how many bytes it has. -/
def lineV (l : List UInt8) : Option (Int × Nat) :=
  if l = [] then some (0, 0) else if isData l = true then (rdD (dsz (Lib.cut l [32]).1) (Lib.cut l [32]).2.1).map fun u => ((u : Int), dsz (Lib.cut l [32]).1)
  else if okP l = true then some (((encS (readL l) : Nat) : Int), 4) else none
theorem lineV_nil : lineV [] = some (0, 0) := rfl
theorem lineV_le (l : List UInt8) (x : Int) (k : Nat) (h : lineV l = some (x, k)) : k ≤ 8 := by
  unfold lineV at h
  split at h
  · injection h with h; injection h with _ h; omega
  · split at h
    · obtain ⟨u, _, h2⟩ := Option.map_eq_some_iff.1 h
      injection h2 with _ h2
      have := dsz_of (Lib.cut l [32]).1
      omega
    · split at h
      · injection h with h; injection h with _ h; omega
      · cases h
theorem line_is (a : Addr) (l : List UInt8) (hs : l.length < 4294967281) : LineIs a lineV l := by
  intro w hE
  by_cases hl : l = []
  · subst hl
    rw [lineV_nil]
    exact line_empty w
  · by_cases hd : isData l = true
    · cases hv : rdD (dsz (Lib.cut l [32]).1) (Lib.cut l [32]).2.1 with
      | none =>
        have e : lineV l = none := by unfold lineV; rw [if_neg hl, if_pos hd, hv]; rfl
        rw [e]
        exact line_data_no l a w hE hs hl hd hv
      | some u =>
        have e : lineV l = some ((u : Int), dsz (Lib.cut l [32]).1) := by unfold lineV; rw [if_neg hl, if_pos hd, hv]; rfl
        rw [e]
        exact line_data_yes l u a w hE hs hl hd hv
    · have hd' : isData l = false := by simpa using hd
      cases ho : okP l with
      | true =>
        have e : lineV l = some (((encS (readL l) : Nat) : Int), 4) := by unfold lineV; rw [if_neg hl, if_neg hd, if_pos ho]
        rw [e]
        exact line_yes l a w hE hs hl hd' ho
      | false =>
        have e : lineV l = none := by unfold lineV; rw [if_neg hl, if_neg hd, if_neg (by rw [ho]; decide)]
        rw [e]
        refine (line_no l a w hE hs hl hd' ho).mono ?_
        rintro e w' ⟨⟨x, h⟩, hb⟩
        exact ⟨⟨x, 4, h⟩, hb⟩
theorem linesL_small : ∀ (n : Nat) (t : List UInt8), t.length ≤ n → ∀ l ∈ linesL t, l.length ≤ t.length
  | 0, t, h, l, hl => by
    have : t = [] := List.eq_nil_of_length_eq_zero (by omega)
    rw [this, linesL_nil] at hl
    cases hl
  | n + 1, t, h, l, hl => by
    by_cases ht : t = []
    · rw [ht, linesL_nil] at hl
      cases hl
    · have hc := cut_less t ht
      rw [linesL_cons t ht] at hl
      rcases List.mem_cons.1 hl with h1 | h1
      · rw [h1]
        exact cut_len1 t [10]
      · have := linesL_small n _ (by omega) l h1
        omega
/-- What a text says. -/
def asmT (t : List UInt8) : Asm := asmR lineV (linesL t) 1 []
theorem asm_any (t : List UInt8) (a : Addr) (w : World) (hE : Env a w) (ht : t.length ≤ 100000) :
    Calls Tryz.prog 19 #[str t] w fun e w' => AsmIs (asmT t) e w' ∧ Bl w w' :=
  assemble_any lineV t a w hE ht (fun l hl => line_is a l (by have := linesL_small _ t (Nat.le_refl _) l hl; omega)) lineV_le
/-- ecall. -/
def ecallI : Ins := ⟨87, 0, 0, 0, 0, 0, 4⟩
theorem ecall_key : encS ecallI = 115 ∧ encB ecallI = true ∧ textL ecallI = [101, 99, 97, 108, 108] := by decide +kernel
theorem lineV_text (i : Ins) (h : encB i = true) : lineV (textL i) = some (((encS i : Nat) : Int), 4) := by
  have hg := good_of h
  obtain ⟨h1, h2, _⟩ := text_line i hg
  unfold lineV
  rw [if_neg h2, if_neg (by rw [h1]; decide), if_pos (okP_text i h), read_text i hg]
theorem lineV_ecall : lineV [101, 99, 97, 108, 108] = some (115, 4) := by
  obtain ⟨h1, h2, h3⟩ := ecall_key
  rw [← h3, lineV_text _ h2, h1]
  rfl
theorem asmT_ecall : asmT [101, 99, 97, 108, 108, 10] = .ok (putB 115 4) := by
  have hl : linesL [101, 99, 97, 108, 108, 10] = [[101, 99, 97, 108, 108]] := by decide +kernel
  unfold asmT
  rw [hl]
  simp [asmR, lineV_ecall]
set_option maxHeartbeats 1000000 in
theorem answers_any (a : Addr) (w : World) (hE : Env a w) : Calls Tryz.prog 8 #[] w fun e w' => e = .returned (.bool true) ∧ Bl w w' := by
  have hA := asm_any [101, 99, 97, 108, 108, 10] a w hE (by decide)
  rw [asmT_ecall] at hA
  have hp : putB 115 4 = [115, 0, 0, 0] := by decide +kernel
  rw [hp] at hA
  go_enter Tryz.func8, Tryz.ntmps8
  go_wp2_with fail
  refine hA.mono ?_
  rintro e w1 ⟨⟨A, c, rfl, hr, _⟩, k1⟩
  obtain ⟨b, off, hA0, hcell⟩ := hr.at_ 0 (by decide)
  subst hA0
  have K1 := Lib.hid k1
  simp only [List.getD_cons_zero, Nat.add_zero] at hcell
  have hL : (([115, 0, 0, 0] : List Int).length) = 4 := rfl
  rw [hL]
  clear k1 hA hr
  go_wp2
  go_ret
  exact ⟨rfl, K1.out⟩

end Go.Proofs.YtionnhjldcpmjaaGreatDoor

set_option linter.unusedVariables false
set_option linter.unusedSimpArgs false
namespace Go.Proofs.YtionnhjldcpmjaaGreatDoor
open Go.RowKit

set_option maxRecDepth 100000
set_option maxHeartbeats 1000000 in
theorem same_big (A B : Option Addr) (len cap cap' : Nat) (xs : List Int) (w : World) (hr : Rd w A xs) (hr' : Rd w B xs) (hl : xs.length = len) (hm : len ≤ 1000000) :
    Calls Tryz.prog 20 #[.slice A len cap, .slice B len cap'] w fun e w' => e = .returned (.bool true) ∧ ∃ m, w' = w.drewN m := by
  have HR := Lib.hid hr; clear hr
  have HR' := Lib.hid hr'; clear hr'
  have HL := Lib.hid hl; clear hl
  go_enter Tryz.func20, Tryz.ntmps20
  go_wp2
  go_loopw [5] (fun i wr => ∃ k m : Nat, k ≤ len ∧ i = .int .i64 k ∧ wr = w.drewN m) (fun i _ => len - (intOf i).toNat)
  case atStart => exact ⟨0, 0, by omega, rfl, rfl⟩
  case round =>
    obtain ⟨k, m, hk, rfl, rfl⟩ := hrel
    by_cases hlt : k < len
    · obtain ⟨b, off, hA, hcell⟩ := HR.out.at_ k (by rw [HL.out]; omega)
      subst hA
      obtain ⟨b', off', hA, hcell'⟩ := HR'.out.at_ k (by rw [HL.out]; omega)
      subst hA
      generalize xs.getD k 0 = x at *
      have hin : (k : Int) < (len : Int) := by omega
      go_wp2
      go_quiet (fail)
      go_wp2
      go_roundw
      case rel => exact ⟨k + 1, m + nq, by omega, by go_num, rfl⟩
      case measure => simp [intOf]; omega
    · obtain rfl : k = len := by omega
      go_wp2
      go_ret
      exact ⟨rfl, _, rfl⟩


/-- append(append([]byte{}, x...), y...). -/
theorem two_run (W : World) (A B : Option Addr) (l m c d : Nat) (xs ys : List Int) (hx : Rd W A xs) (hy : Rd W B ys) (hl : xs.length = l) (hm : ys.length = m) (hc : A = none → c = 0) (hd : B = none → d = 0) (hb : l + m ≤ 1000000) :
    ∃ v1 w1 C k w2, (Builtin.append_ #[38, 38] 38 #[.slice (some ⟨W.heap.size, 0, none⟩) 0 0, .slice A l c]).run Tryz.prog (W.alloc (.cells #[] 5)) = .ok v1 w1 ∧
      (Builtin.append_ #[38, 38] 38 #[v1, .slice B m d]).run Tryz.prog w1 = .ok (.slice C (l + m) k) w2 ∧ Rd w2 C (xs ++ ys) ∧ Bl W w2 := by
  obtain ⟨i0, hi0, hz0, hz1, hz2⟩ := info_parts Tryz.infoByte
  obtain ⟨v1, w1, h1, h2, h3⟩ := run_appended (P := Tryz.prog) (W.alloc (.cells #[] 5)) 38 5 38 W.heap.size i0 Tryz.underlying38 hi0 hz0 hz1 hz2 _ 0 [] (own_empty W) A l c xs (hx.alloc _) hl hc (by omega) (by simp)
  have hb1 : Bl W w1 := ((Below.refl _ _).alloc (Nat.le_refl _) _).grown h3 (by simp) (own_block_ge (own_empty W))
  obtain ⟨v2, w2, g1, g2, g3⟩ := run_appended (P := Tryz.prog) w1 38 5 38 W.heap.size i0 Tryz.underlying38 hi0 hz0 hz1 hz2 v1 (0 + l) ([] ++ xs) h2 B m d ys (hy.below hb1) hm hd (by omega) hb1.size
  have hb2 : Bl W w2 := hb1.grown g3 hb1.size (own_block_ge h2)
  obtain ⟨C, k, rfl, hrd, _, _, _⟩ := Rd.of_own g2
  exact ⟨v1, w1, C, k, w2, h1, by simpa using g1, by simpa using hrd, hb2⟩
/-! Lines of two texts, one behind the other. -/
def pieces : List UInt8 → List (List UInt8)
  | [] => [[]]
  | c :: r => if c = 10 then [] :: pieces r else match pieces r with | [] => [[c]] | p :: ps => (c :: p) :: ps
theorem pieces_ne : ∀ a, pieces a ≠ []
  | [] => by simp [pieces]
  | c :: r => by
    unfold pieces
    split
    · simp
    · split <;> simp
theorem pieces_len : ∀ a, (pieces a).length = 1 + a.count 10
  | [] => rfl
  | c :: r => by
    have ih := pieces_len r
    unfold pieces
    split
    · rename_i h
      rw [h, List.length_cons, ih, List.count_cons_self]
      omega
    · rename_i h
      rw [List.count_cons_of_ne h]
      have hn := pieces_ne r
      cases hp : pieces r with
      | nil => exact absurd hp hn
      | cons p ps =>
        rw [hp] at ih
        simpa using ih
theorem pieces_one : ∀ x, (10 : UInt8) ∉ x → pieces x = [x]
  | [], _ => rfl
  | c :: r, h => by
    have hc : c ≠ 10 := fun e => h (by simp [e])
    unfold pieces
    rw [if_neg hc, pieces_one r (fun e => h (by simp [e]))]
theorem pieces_at : ∀ (x y : List UInt8), (10 : UInt8) ∉ x → pieces (x ++ 10 :: y) = x :: pieces y
  | [], y, _ => by simp [pieces]
  | c :: r, y, h => by
    have hc : c ≠ 10 := fun e => h (by simp [e])
    rw [List.cons_append]
    conv => lhs; unfold pieces
    rw [if_neg hc, pieces_at r y (fun e => h (by simp [e]))]
theorem nl_split : ∀ a : List UInt8, (10 : UInt8) ∉ a ∨ ∃ x y, a = x ++ 10 :: y ∧ (10 : UInt8) ∉ x
  | [] => Or.inl (by simp)
  | c :: r => by
    by_cases hc : c = 10
    · exact Or.inr ⟨[], r, by simp [hc], by simp⟩
    · rcases nl_split r with h | ⟨x, y, h1, h2⟩
      · exact Or.inl (by simp [h, Ne.symm hc])
      · exact Or.inr ⟨c :: x, y, by simp [h1], by simp [h2, Ne.symm hc]⟩
theorem lines_one (x : List UInt8) (h : (10 : UInt8) ∉ x) (hx : x ≠ []) : linesL x = [x] := by
  rw [linesL_cons x hx, cut_none 10 [] x h, linesL_nil]
theorem lines_at (x y : List UInt8) (h : (10 : UInt8) ∉ x) : linesL (x ++ 10 :: y) = x :: linesL y := by
  have hc : Lib.cut (x ++ 10 :: y) [10] = (x, y, true) := by
    have := cut_found 10 [] x y h
    simpa using this
  rw [linesL_cons _ (by simp), hc]
theorem lines_joined (b : List UInt8) : ∀ (n : Nat) (a : List UInt8), a.length ≤ n → linesL (a ++ 10 :: b) = pieces a ++ linesL b
  | n, a, hn => by
    rcases nl_split a with h | ⟨x, y, rfl, h⟩
    · rw [lines_at a b h, pieces_one a h]
      rfl
    · rw [pieces_at x y h, List.append_assoc, List.cons_append, lines_at x _ h]
      cases n with
      | zero => simp at hn
      | succ n =>
        rw [lines_joined b n y (by simp at hn; omega)]
        rfl
theorem pieces_lines : ∀ (n : Nat) (a : List UInt8), a.length ≤ n → pieces a = linesL a ∨ pieces a = linesL a ++ [[]]
  | n, a, hn => by
    rcases nl_split a with h | ⟨x, y, rfl, h⟩
    · by_cases ha : a = []
      · subst ha
        exact Or.inr rfl
      · exact Or.inl (by rw [pieces_one a h, lines_one a h ha])
    · rw [pieces_at x y h, lines_at x y h]
      cases n with
      | zero => simp at hn
      | succ n =>
        rcases pieces_lines n y (by simp at hn; omega) with e | e
        · exact Or.inl (by rw [e])
        · exact Or.inr (by rw [e]; rfl)
theorem asmR_append (V : List UInt8 → Option (Int × Nat)) : ∀ (l m : List (List UInt8)) (n : Nat) (acc : List Int), asmR V (l ++ m) n acc = match asmR V l n acc with | .ok x => asmR V m (n + l.length) x | .bad k => .bad k
  | [], m, n, acc => by simp [asmR]
  | t :: l, m, n, acc => by
    simp only [List.cons_append, asmR]
    cases hV : V t with
    | none => rfl
    | some xk =>
      obtain ⟨x, k⟩ := xk
      dsimp only
      rw [asmR_append V l m (n + 1) (acc ++ putB x k)]
      rw [show n + 1 + l.length = n + (t :: l).length by simp; omega]
theorem asmR_shift (V : List UInt8 → Option (Int × Nat)) : ∀ (l : List (List UInt8)) (n : Nat) (acc acc' : List Int) (d : Nat), asmR V l (n + d) (acc' ++ acc) = match asmR V l n acc with | .ok x => .ok (acc' ++ x) | .bad k => .bad (k + d)
  | [], n, acc, acc', d => by simp [asmR]
  | t :: l, n, acc, acc', d => by
    simp only [asmR]
    cases hV : V t with
    | none => rfl
    | some xk =>
      obtain ⟨x, k⟩ := xk
      dsimp only
      rw [List.append_assoc, show n + d + 1 = n + 1 + d by omega, asmR_shift V l (n + 1) (acc ++ putB x k) acc' d]
theorem asmR_len (V : List UInt8 → Option (Int × Nat)) (hk : ∀ l x k, V l = some (x, k) → k ≤ 8) : ∀ (l : List (List UInt8)) (n : Nat) (acc bs : List Int), asmR V l n acc = .ok bs → bs.length ≤ acc.length + 8 * l.length
  | [], n, acc, bs, h => by
    simp only [asmR] at h
    injection h with h
    rw [h]; simp
  | t :: l, n, acc, bs, h => by
    simp only [asmR] at h
    cases hV : V t with
    | none => rw [hV] at h; cases h
    | some xk =>
      obtain ⟨x, k⟩ := xk
      rw [hV] at h
      have := asmR_len V hk l (n + 1) _ bs h
      have h8 := hk t x k hV
      rw [List.length_append, putB_length] at this
      rw [List.length_cons]
      omega
theorem asmR_bad (V : List UInt8 → Option (Int × Nat)) : ∀ (l : List (List UInt8)) (n : Nat) (acc : List Int) (m : Nat), asmR V l n acc = .bad m → m < n + l.length
  | [], n, acc, m, h => by simp only [asmR] at h; cases h
  | t :: l, n, acc, m, h => by
    simp only [asmR] at h
    cases hV : V t with
    | none =>
      rw [hV] at h
      injection h with h
      simp
      omega
    | some xk =>
      obtain ⟨x, k⟩ := xk
      rw [hV] at h
      have := asmR_bad V l (n + 1) _ m h
      simp
      omega
theorem asmR_pieces (a : List UInt8) (acc : List Int) (n : Nat) : asmR lineV (pieces a) n acc = asmR lineV (linesL a) n acc := by
  rcases pieces_lines _ a (Nat.le_refl _) with e | e
  · rw [e]
  · rw [e, asmR_append]
    cases h : asmR lineV (linesL a) n acc with
    | bad k => rfl
    | ok x => simp [asmR, lineV_nil, putB]
theorem asmT_joined (a b : List UInt8) : asmT (a ++ 10 :: b) = match asmT a with | .bad k => .bad k | .ok x => match asmT b with | .ok y => .ok (x ++ y) | .bad k => .bad (k + (1 + a.count 10)) := by
  unfold asmT
  rw [lines_joined b _ a (Nat.le_refl _), asmR_append, asmR_pieces]
  cases h : asmR lineV (linesL a) 1 [] with
  | bad k => rfl
  | ok x =>
    dsimp only
    rw [pieces_len]
    have := asmR_shift lineV (linesL b) 1 [] x (1 + a.count 10)
    rw [List.append_nil] at this
    rw [this]
theorem asmT_len (t : List UInt8) (bs : List Int) (h : asmT t = .ok bs) : bs.length ≤ 8 * t.length := by
  have h1 := asmR_len lineV lineV_le _ 1 [] bs h
  have h2 := linesL_len t.length t (Nat.le_refl _)
  simp at h1
  omega
theorem asmT_bad (t : List UInt8) (m : Nat) (h : asmT t = .bad m) : m ≤ t.length := by
  have h1 := asmR_bad lineV _ 1 [] m h
  have h2 := linesL_len t.length t (Nat.le_refl _)
  omega
/-- What Assemble hands back, part for part. -/
def AsmF (R : Asm) (w' : World) (A : Option Addr) (l c : Nat) (n er : Int) : Prop :=
  match R with
  | .ok bs => l = bs.length ∧ n = 0 ∧ er = 0 ∧ Rd w' A bs ∧ (A = none → c = 0)
  | .bad m => A = none ∧ l = 0 ∧ c = 0 ∧ n = (m : Nat) ∧ er = 201
theorem asm_tuple (t : List UInt8) (a : Addr) (w : World) (hE : Env a w) (ht : t.length ≤ 100000) :
    Calls Tryz.prog 19 #[str t] w fun e w' => (∃ A l c n er, e = .returned (.tuple #[.slice A l c, .int .i64 n, .int .i64 er]) ∧ AsmF (asmT t) w' A l c n er) ∧ Bl w w' := by
  refine (asm_any t a w hE ht).mono ?_
  rintro e w' ⟨h, hb⟩
  refine ⟨?_, hb⟩
  cases hR : asmT t with
  | ok bs =>
    rw [hR] at h
    obtain ⟨A, c, h1, h2, h3⟩ := h
    exact ⟨A, bs.length, c, 0, 0, h1, rfl, rfl, rfl, h2, h3⟩
  | bad m =>
    rw [hR] at h
    exact ⟨none, 0, 0, _, _, h, rfl, rfl, rfl, rfl, rfl⟩
theorem idxL (l : List UInt8) (k : Nat) (hk : k < l.length) (w : World) : (Instr.index 9 (str l) (.int .i64 (k : Int))).run Tryz.prog w = .ok (.int .u8 ((l.getD k 0).toNat : Int)) w := by
  have hs : (⟨l.toArray⟩ : ByteArray).size = l.length := by simp [ByteArray.size]
  rw [run_index_string w 9 _ .i64 (k : Int) Tryz.underlying9, dif_pos (by rw [hs]; omega)]
  simp only [List.getD, List.getElem?_eq_getElem hk]
  rfl
theorem count_step (l : List UInt8) (k : Nat) (hk : k < l.length) : (l.take (k + 1)).count 10 = (l.take k).count 10 + if l.getD k 0 = 10 then 1 else 0 := by
  rw [List.take_succ_eq_append_getElem hk, List.count_append]
  have hg : l.getD k 0 = l[k] := by simp [List.getD, List.getElem?_eq_getElem hk]
  rw [hg]
  by_cases h : l[k] = 10
  · rw [if_pos h, h]; rfl
  · rw [if_neg h, List.count_cons_of_ne h]; rfl

end Go.Proofs.YtionnhjldcpmjaaGreatDoor
