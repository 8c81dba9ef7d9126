/-
  Touch of a store.
-/
import Derived.Test.YteeheojjmdlmgaaPageH
set_option linter.unusedVariables false
set_option linter.unusedSimpArgs false
namespace Go.Proofs.Yteeheojjmdlmgaa
open Go.RowKit
set_option maxRecDepth 100000
/-- The stamps of a span, few pages or many. -/
theorem stampAll_any {Y : Rest} {S : Nat → Prop} {w : World} {sb n k : Nat} {f : Nat → Option Nat} {M st : Nat → Int} (h : StoreAt Y S w sb n f k M st) (a b : Nat) (hab : a < b) (hc : b ≤ 274877906944) (hn : n < 80000000) (hS : ∀ b, w.heap.size ≤ b → S b) :
    Calls Try.prog 54 #[.pointer (some ⟨sb, 1, none⟩), span (a : Int) (b : Int)] w fun e w' => e = .returned (.tuple #[]) ∧ (∃ st', StoreAt Y S w' sb (n + 8192) f k M st' ∧ Rise st st' (fun p => a / 4096 ≤ p ∧ p ≤ (b - 1) / 4096)) ∧ Fr S w w' := by
  by_cases hw : (b - 1) / 4096 - a / 4096 < 4096
  · exact stampAll_narrow h a b hab hc hw (by omega) hS
  · refine (stampAll_wide h (a : Int) (b : Int) (by omega) (by omega) (by omega) (by omega) (by omega)).mono ?_
    rintro e w' ⟨rfl, ⟨st', h1, h2⟩, h3⟩
    exact ⟨rfl, ⟨st', h1.mono (by omega), h2.mono fun _ _ => trivial⟩, h3⟩
set_option maxHeartbeats 2000000 in
theorem touch_any {Y : Rest} {S : Nat → Prop} {w : World} {sb n k : Nat} {f : Nat → Option Nat} {M st : Nat → Int} (h : StoreAt Y S w sb n f k M st) (a b : Nat) (hab : a < b) (hc : b ≤ 274877906944) (hn : n < 80000000) (hS : ∀ b, w.heap.size ≤ b → S b) :
    Calls Try.prog 29 #[.pointer (some ⟨sb, 1, none⟩), .int .u64 (a : Int), .int .u64 (b : Int)] w fun e w' => e = .returned (.tuple #[]) ∧ (∃ st', StoreAt Y S w' sb (n + 8192) f k M st' ∧ Rise st st' (fun p => a / 4096 ≤ p ∧ p ≤ (b - 1) / 4096)) ∧ Fr S w w' := by
  have cw := fun W => pwithin_in (a : Int) (b : Int) W (by omega)
  have ce := fun W => empty_any (a : Int) (b : Int) W
  rw [decide_eq_false (by omega)] at ce
  have cst := fun (W : World) (S' : Nat → Prop) (hW : StoreAt Y S' W sb n f k M st) (hS' : ∀ b, W.heap.size ≤ b → S' b) => stampAll_any hW a b hab hc hn hS'
  have HH := Lib.hid h; clear h
  have HS := Lib.hid hS; clear hS
  have CW := Lib.hid cw; clear cw
  have CE := Lib.hid ce; clear ce
  have CST := Lib.hid cst; clear cst
  generalize (a : Int) = A at *
  generalize (b : Int) = B at *
  unfold span at *
  go_enter Try.func29, Try.ntmps29
  go_wp2_with fail
  refine (CW.out _).mono ?_
  rintro e w1 ⟨rfl, bl1⟩
  have h1 : StoreAt Y (less S w1.heap.size) (w1.alloc (box48 A B)) sb n f k M st := (HH.out.bl bl1).less _
  have hS1 : ∀ b, w1.heap.size ≤ b → S b := fun b hb => HS.out b (Nat.le_trans bl1.size hb)
  have fr1 : Fr (less S w1.heap.size) (w1.alloc (box48 A B)) (w1.alloc (box48 A B)) := Fr.refl _ _
  have FR1 := Lib.hid fr1; clear fr1
  have H1 := Lib.hid h1; clear h1
  have HS1 := Lib.hid hS1; clear hS1
  have BL1 := Lib.hid bl1; clear bl1
  go_wp2_with fail
  refine (CE.out _).mono ?_
  rintro e w2 ⟨rfl, bl2⟩
  have fr2 := FR1.out.trans (Fr.of_bl bl2)
  have h2 := H1.out.bl bl2
  obtain ⟨c0, c1⟩ := two_cells (box_at fr2)
  have FR2 := Lib.hid fr2; clear fr2 FR1 bl2
  have H2 := Lib.hid h2; clear h2 H1
  go_wp2_with fail
  refine (CST.out _ _ H2.out (less_new HS1.out FR2.out.size)).mono ?_
  rintro e w3 ⟨rfl, ⟨st', h3, r3⟩, fr3⟩
  have FR3 := Lib.hid (FR2.out.trans fr3)
  have H3 := Lib.hid (h3.among (T := S) (fun _ _ e => e.1))
  have R3 := Lib.hid r3
  clear c0 c1 h3 r3 fr3
  go_wp2_with fail
  go_end0
  exact ⟨rfl, ⟨st', H3.out, R3.out⟩, (Fr.of_bl BL1.out).trans FR3.out.unless⟩
end Go.Proofs.Yteeheojjmdlmgaa
