/-
  Plain facts: what Decode answers lies in its ranges; what Encode answers is decoded to the instruction.
-/
import Derived.Test.YtionnhjldcpmjaaGreatDoorEncodeD
import Derived.Test.YtionnhjldcpmjaaGreatDoorInstM
set_option linter.unusedVariables false
set_option linter.unusedSimpArgs false
namespace Go.Proofs.YtionnhjldcpmjaaGreatDoor
open Go.RowKit
theorem layF_lt (i : Ins) (s : Nat) (hs : s < 4294967296) (fm : Fm) (hm : ∀ m, fm = .sh m → m ≤ 6) : layF i s fm < 4294967296 := by
  cases fm with
  | up => exact ly_lt (ly_lt hs (by omega)) (by omega)
  | jp => exact ly_lt (ly_lt (ly_lt (ly_lt (ly_lt hs (by omega)) (by omega)) (by omega)) (by omega)) (by omega)
  | im => exact ly_lt (ly_lt (ly_lt hs (by omega)) (by omega)) (by omega)
  | br => exact ly_lt (ly_lt (ly_lt (ly_lt (ly_lt (ly_lt hs (by omega)) (by omega)) (by omega)) (by omega)) (by omega)) (by omega)
  | st => exact ly_lt (ly_lt (ly_lt (ly_lt hs (by omega)) (by omega)) (by omega)) (by omega)
  | rg => exact ly_lt (ly_lt (ly_lt hs (by omega)) (by omega)) (by omega)
  | am => exact ly_lt (ly_lt (ly_lt (ly_lt hs (by omega)) (by omega)) (by omega)) (by omega)
  | sh m => have := hm m rfl; exact ly_lt (ly_lt (ly_lt hs (by omega)) (by omega)) (by omega)
  | ba => exact hs
  | no => exact hs
theorem encS_lt (i : Ins) : encS i < 4294967296 := layF_lt i _ (keyW_lt _) _ (fun m h => fm_sh _ _ m h)
theorem enc_true {i : Ins} (h : encB i = true) : opW (encS i) ≠ 0 ∧ dec (encS i) = i := of_decide_eq_true h
/-- The ranges of a decoded instruction. -/
structure Ins.In (i : Ins) : Prop where
  rd0 : 0 ≤ i.rd
  rd1 : i.rd < 32
  r10 : 0 ≤ i.r1
  r11 : i.r1 < 32
  r20 : 0 ≤ i.r2
  r21 : i.r2 < 32
  od0 : 0 ≤ i.od
  od1 : i.od < 4
  sz : i.sz = 4
theorem tk5 (s a : Nat) : 0 ≤ tk s a 5 0 ∧ tk s a 5 0 < 32 := by
  rw [tk_zero]; have : pc s a 5 < 32 := pc_lt s a 5; omega
theorem tk2 (s a : Nat) : 0 ≤ tk s a 2 0 ∧ tk s a 2 0 < 4 := by
  rw [tk_zero]; have : pc s a 2 < 4 := pc_lt s a 2; omega
theorem parts_in (o : Int) (s : Nat) (fm : Fm) (h : fm ≠ .no) : (parts o s fm).In := by
  have a := tk5 s 7
  have b := tk5 s 15
  have c := tk5 s 20
  have d := tk2 s 25
  cases fm with
  | no => exact absurd rfl h
  | _ => constructor <;> first | rfl | exact a.1 | exact a.2 | exact b.1 | exact b.2 | exact c.1 | exact c.2 | exact d.1 | exact d.2 | (show (0 : Int) ≤ 0; decide) | (show (0 : Int) < 32; decide) | (show (0 : Int) < 4; decide)
theorem dec_in {s : Nat} (h : opW s ≠ 0) : (dec s).In := by
  have e : dec s = parts (opW s) s (fmW s) := if_neg h
  rw [e]
  exact parts_in _ _ _ (fun hn => h (no_zero _ _ _ _ hn))
theorem enc_false {i : Ins} (h : ¬ i.In) : encB i = false := by
  cases hB : encB i with
  | false => rfl
  | true =>
    obtain ⟨h1, h2⟩ := enc_true hB
    rw [← h2] at h
    exact absurd (dec_in h1) h
theorem dec_op {s : Nat} (h : opW s ≠ 0) : (dec s).op = opW s := by
  have e : dec s = parts (opW s) s (fmW s) := if_neg h
  have hn : fmW s ≠ .no := fun hn => h (no_zero _ _ _ _ hn)
  rw [e]
  generalize fmW s = fm at *
  cases fm with
  | no => exact absurd rfl hn
  | _ => rfl
/-- Structs that are not the same compare as such. -/
theorem eql_of {a0 a1 a2 a3 a4 a5 a6 b0 b1 b2 b3 b4 b5 b6 : Int} (h : (⟨a0, a1, a2, a3, a4, a5, a6⟩ : Ins) ≠ ⟨b0, b1, b2, b3, b4, b5, b6⟩) (w : World) :
    (Go.binOp .eql 28 (.agg (I7 a0 a1 a2 a3 a4 a5 a6)) (.agg (I7 b0 b1 b2 b3 b4 b5 b6))).run Tryz.prog w = .ok (.bool false) w := by
  rw [struct_eql]
  have : ¬ (a0 = b0 ∧ a1 = b1 ∧ a2 = b2 ∧ a3 = b3 ∧ a4 = b4 ∧ a5 = b5 ∧ a6 = b6) := by
    rintro ⟨rfl, rfl, rfl, rfl, rfl, rfl, rfl⟩
    exact h rfl
  rw [decide_eq_false this]
end Go.Proofs.YtionnhjldcpmjaaGreatDoor
