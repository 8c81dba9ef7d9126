/-
  parse, Parse; kinds of lines.
-/
import Derived.Test.YtionnhjldcpmjaaGreatDoorAsmI
set_option linter.unusedVariables false
set_option linter.unusedSimpArgs false
namespace Go.Proofs.YtionnhjldcpmjaaGreatDoor
open Go.RowKit

/-- Is a text that of an instruction? -/
def okP (s : List UInt8) : Bool := encB (readL s) && decide (textL (readL s) = s)
theorem parse_yes (s : List UInt8) (a : Addr) (w : World) (hE : Env a w) (hs : s.length < 4294967281) (hok : okP s = true) :
    Calls Tryz.prog 26 #[str s] w fun e w' => e = .returned (.tuple #[.agg (readL s).cells, .nilIface]) ∧ Bl w w' := by
  simp only [okP, Bool.and_eq_true, decide_eq_true_eq] at hok
  obtain ⟨h1, h2⟩ := hok
  have hb := rdName_bd (Lib.cut s [32]).1
  have ht : ∀ w, Env a w → Calls Tryz.prog 12 #[.agg (readL s).cells] w fun e w' => e = .returned (.tuple #[str (textL (readL s)), .bool true]) ∧ Bl w w' :=
    fun w hE => text_yes (readL s) a w hE (readL_in s) h1 _ hb.2 (readL_od s)
  exact parse_gen s a w hE hs (readL s) rfl true (textL (readL s)) ht _ _ _ _ _ _ _ .nilIface (fun _ _ => ⟨rfl, rfl⟩) (fun h => absurd ⟨rfl, h2⟩ h)
theorem parse_no (s : List UInt8) (a : Addr) (w : World) (hE : Env a w) (hs : s.length < 4294967281) (hok : okP s = false) :
    Calls Tryz.prog 26 #[str s] w fun e w' => e = .returned (.tuple #[.agg (I7 0 0 0 0 0 0 0), .iface 153 (.pointer (some a))]) ∧ Bl w w' := by
  have hb := rdName_bd (Lib.cut s [32]).1
  by_cases h1 : encB (readL s) = true
  · have h2 : textL (readL s) ≠ s := by
      intro h2
      simp [okP, h1, h2] at hok
    have ht : ∀ w, Env a w → Calls Tryz.prog 12 #[.agg (readL s).cells] w fun e w' => e = .returned (.tuple #[str (textL (readL s)), .bool true]) ∧ Bl w w' :=
      fun w hE => text_yes (readL s) a w hE (readL_in s) h1 _ hb.2 (readL_od s)
    exact parse_gen s a w hE hs (readL s) rfl true (textL (readL s)) ht 0 0 0 0 0 0 0 _ (fun _ h => absurd h h2) (fun _ => ⟨⟨rfl, rfl, rfl, rfl, rfl, rfl, rfl⟩, rfl⟩)
  · have h1 : encB (readL s) = false := by simpa using h1
    have ht : ∀ w, Env a w → Calls Tryz.prog 12 #[.agg (readL s).cells] w fun e w' => e = .returned (.tuple #[str [], .bool false]) ∧ Bl w w' :=
      fun w hE => text_no (readL s) a w hE h1
    exact parse_gen s a w hE hs (readL s) rfl false [] ht 0 0 0 0 0 0 0 _ (fun h => by cases h) (fun _ => ⟨⟨rfl, rfl, rfl, rfl, rfl, rfl, rfl⟩, rfl⟩)
/-! Parse. -/
set_option maxHeartbeats 1000000 in
theorem Parse_yes (s : List UInt8) (a : Addr) (w : World) (hE : Env a w) (hs : s.length < 4294967281) (hok : okP s = true) :
    Calls Tryz.prog 14 #[str s] w fun e w' => e = .returned (.tuple #[.agg (readL s).cells, .bool true]) ∧ Bl w w' := by
  have k0 := (Bl.refl w).alloc (I7 0 0 0 0 0 0 0) 28
  have hR := Has.new w (I7 0 0 0 0 0 0 0) 28
  have hP := parse_yes s a (w.alloc (.cells (I7 0 0 0 0 0 0 0) 28)) (hE.bl k0) hs hok
  generalize readL s = I at *
  have HK := Lib.hid k0
  have HR := Lib.hid hR
  have HE := Lib.hid hE
  clear hok k0 hR hE
  go_enter Tryz.func14, Tryz.ntmps14
  go_wp2_with fail
  refine hP.mono ?_
  rintro e w1 ⟨rfl, k1⟩
  have K1 := Lib.hid (HK.out.trans k1)
  have hR1 := (HR.out.bl k1).alloc (.cells I.cells 28)
  have hI1 := Has.new w1 I.cells 28
  have k2 := K1.out.alloc I.cells 28
  have hne : w.heap.size ≠ w1.heap.size := Nat.ne_of_lt (HR.out.bl k1).lt
  have herr := (HE.out.bl k2).err
  obtain ⟨b0, b1, b2, b3, b4, b5, b6⟩ := hI1.seven
  obtain ⟨r0, r1, r2, r3, r4, r5, r6⟩ := hR1.seven
  have z := hR1.free
  have HR1 := Lib.hid hR1
  have K2 := Lib.hid k2
  clear hR1 hI1 k2 k1 hP HR HK K1
  go_wp2_with fail
  generalize w1.alloc (.cells I.cells 28) = w2 at *
  refine (is_nil a _).mono ?_
  rintro e w3 ⟨rfl, rfl⟩
  generalize w1.heap.size = b at *
  go_wp2
  (try simp only [Exit.inBlock, Exit.then])
  refine bodyPost_ret (results_two rfl _ _ w.heap.size _ _ _ _ _ _ _ rfl (HR1.out.seven_set _ _ _ _ _ _ _)) rfl ⟨rfl, ?_⟩
  exact Bl.seven_set K2.out (Nat.le_refl _) _ _ _ _ _ _ _
set_option maxHeartbeats 1000000 in
theorem Parse_no (s : List UInt8) (a : Addr) (w : World) (hE : Env a w) (hs : s.length < 4294967281) (hok : okP s = false) :
    Calls Tryz.prog 14 #[str s] w fun e w' => e = .returned (.tuple #[.agg (I7 0 0 0 0 0 0 0), .bool false]) ∧ Bl w w' := by
  have k0 := (Bl.refl w).alloc (I7 0 0 0 0 0 0 0) 28
  have hR := Has.new w (I7 0 0 0 0 0 0 0) 28
  have hP := parse_no s a (w.alloc (.cells (I7 0 0 0 0 0 0 0) 28)) (hE.bl k0) hs hok
  have HK := Lib.hid k0
  have HR := Lib.hid hR
  have HE := Lib.hid hE
  clear hok k0 hR hE
  go_enter Tryz.func14, Tryz.ntmps14
  go_wp2_with fail
  refine hP.mono ?_
  rintro e w1 ⟨rfl, k1⟩
  have K1 := Lib.hid (HK.out.trans k1)
  have hR1 := (HR.out.bl k1).alloc (.cells (I7 0 0 0 0 0 0 0) 28)
  have k2 := K1.out.alloc (I7 0 0 0 0 0 0 0) 28
  have herr := (HE.out.bl k2).err
  obtain ⟨r0, r1, r2, r3, r4, r5, r6⟩ := hR1.seven
  have z := hR1.free
  have HR1 := Lib.hid hR1
  have K2 := Lib.hid k2
  clear hR1 k2 k1 hP HR HK K1
  go_wp2_with fail
  generalize w1.alloc (.cells (I7 0 0 0 0 0 0 0) 28) = w2 at *
  refine (is_same a _).mono ?_
  rintro e w3 ⟨rfl, rfl⟩
  generalize w1.heap.size = b at *
  go_wp2
  (try simp only [Exit.inBlock, Exit.then])
  refine bodyPost_ret (results_two rfl _ _ w.heap.size _ _ _ _ _ _ _ rfl (HR1.out.seven_set _ _ _ _ _ _ _)) rfl ⟨rfl, ?_⟩
  exact Bl.seven_set K2.out (Nat.le_refl _) _ _ _ _ _ _ _
/-! Lines. -/
/-- How many bytes the numbers behind a name have. -/
def dsz (s : List UInt8) : Nat := if s = [46, 98, 121, 116, 101] then 1 else if s = [46, 104, 97, 108, 102] then 2 else if s = [46, 119, 111, 114, 100] then 4 else if s = [46, 100, 119, 111, 114, 100] then 8 else 0
set_option maxHeartbeats 1000000 in
theorem dataSize_any (s : List UInt8) (w : World) : Calls Tryz.prog 49 #[str s] w fun e w' => e = .returned (.int .i64 (dsz s : Nat)) ∧ w = w' := by
  by_cases h1 : s = [46, 98, 121, 116, 101]
  · rw [show dsz s = 1 by unfold dsz; rw [if_pos h1]]
    have e1 := beq_true h1
    clear h1
    go_enter Tryz.func49, Tryz.ntmps49
    go_wp2
    go_ret
    exact ⟨rfl, rfl⟩
  by_cases h2 : s = [46, 104, 97, 108, 102]
  · rw [show dsz s = 2 by unfold dsz; rw [if_neg h1, if_pos h2]]
    have e1 := beq_false h1
    have e2 := beq_true h2
    clear h1 h2
    go_enter Tryz.func49, Tryz.ntmps49
    go_wp2
    go_ret
    exact ⟨rfl, rfl⟩
  by_cases h3 : s = [46, 119, 111, 114, 100]
  · rw [show dsz s = 4 by unfold dsz; rw [if_neg h1, if_neg h2, if_pos h3]]
    have e1 := beq_false h1
    have e2 := beq_false h2
    have e3 := beq_true h3
    clear h1 h2 h3
    go_enter Tryz.func49, Tryz.ntmps49
    go_wp2
    go_ret
    exact ⟨rfl, rfl⟩
  by_cases h4 : s = [46, 100, 119, 111, 114, 100]
  · rw [show dsz s = 8 by unfold dsz; rw [if_neg h1, if_neg h2, if_neg h3, if_pos h4]]
    have e1 := beq_false h1
    have e2 := beq_false h2
    have e3 := beq_false h3
    have e4 := beq_true h4
    clear h1 h2 h3 h4
    go_enter Tryz.func49, Tryz.ntmps49
    go_wp2
    go_ret
    exact ⟨rfl, rfl⟩
  · rw [show dsz s = 0 by unfold dsz; rw [if_neg h1, if_neg h2, if_neg h3, if_neg h4]]
    have e1 := beq_false h1
    have e2 := beq_false h2
    have e3 := beq_false h3
    have e4 := beq_false h4
    clear h1 h2 h3 h4
    go_enter Tryz.func49, Tryz.ntmps49
    go_wp2
    go_ret
    exact ⟨rfl, rfl⟩
/-- Is a line one of data? -/
def isData (l : List UInt8) : Bool := (Lib.cut l [32]).2.2 && decide (dsz (Lib.cut l [32]).1 ≠ 0)
set_option maxHeartbeats 1000000 in
theorem line_empty (w : World) : Calls Tryz.prog 36 #[str []] w fun e w' => e = .returned (.tuple #[.int .u64 0, .int .i64 0, .nilIface]) ∧ Bl w w' := by
  go_enter Tryz.func36, Tryz.ntmps36
  go_wp2
  (try simp only [Exit.inBlock, Exit.then])
  refine bodyPost_ret (results_tmp3 rfl _ _ _) rfl ?_
  exact ⟨rfl, Bl.refl _⟩

end Go.Proofs.YtionnhjldcpmjaaGreatDoor
