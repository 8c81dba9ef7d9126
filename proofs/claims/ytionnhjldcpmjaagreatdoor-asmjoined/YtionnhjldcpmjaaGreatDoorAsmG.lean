/-
  readName.
-/
import Derived.Test.YtionnhjldcpmjaaGreatDoorAsmF
set_option linter.unusedVariables false
set_option linter.unusedSimpArgs false
namespace Go.Proofs.YtionnhjldcpmjaaGreatDoor
open Go.RowKit

theorem ord_idx (k : Nat) (hk : k < 4) (w : World) : (Instr.index 54 (.agg #[.string ⟨#[]⟩, .string ⟨#[46, 114, 108]⟩, .string ⟨#[46, 97, 113]⟩, .string ⟨#[46, 97, 113, 114, 108]⟩]) (.int .i64 k)).run Tryz.prog w = .ok (str (ordOf k)) w := by
  have h : k = 0 ∨ k = 1 ∨ k = 2 ∨ k = 3 := by omega
  rcases h with rfl | rfl | rfl | rfl <;> simp [Instr.index, run_underlying Tryz.underlying54, asIntOf, go_sem, ordOf, ordT]
/-- The operator and the order of a name, of the orders from k on. -/
def rdN (s : List UInt8) : Nat → Nat → Nat × Nat
  | 0, _ => (0, 0)
  | f + 1, k => if opOf (Lib.trimSuffix s (ordOf k)) ≠ 0 then (opOf (Lib.trimSuffix s (ordOf k)), k) else rdN s f (k + 1)
def rdName (s : List UInt8) : Nat × Nat := rdN s 4 0
theorem rdN_bd (s : List UInt8) : ∀ f k, k + f ≤ 4 → (rdN s f k).1 ≤ 88 ∧ (rdN s f k).2 < 4
  | 0, k, _ => by simp [rdN]
  | f + 1, k, h => by
    unfold rdN
    have h1 : ∀ t, opOf t ≤ 88 := fun t => by unfold opOf; split <;> (try split) <;> omega
    split
    · exact ⟨h1 _, by simp; omega⟩
    · exact rdN_bd s f (k + 1) (by omega)
set_option maxHeartbeats 2000000 in
theorem readName_any (s : List UInt8) (a : Addr) (w : World) (hE : Env a w) (hs : s.length < 4294967281) :
    Calls Tryz.prog 44 #[str s] w fun e w' => e = .returned (.tuple #[.int .i64 ((rdName s).1 : Nat), .int .i64 ((rdName s).2 : Nat)]) ∧ Bl w w' := by
  obtain ⟨r, hr⟩ : ∃ r, rdName s = r := ⟨_, rfl⟩
  rw [hr]
  have HR := Lib.hid hr
  clear hr
  have o0 := hE.o0
  have o1 := hE.o1
  have o2 := hE.o2
  have o3 := hE.o3
  clear hE
  go_enter Tryz.func44, Tryz.ntmps44
  go_wp2_with fail
  go_loopw [9] (fun i wr => ∃ k : Nat, k ≤ 4 ∧ i = .int .i64 k ∧ Hid (rdN s (4 - k) k = r) ∧ Hid (Bl w wr)) (fun i wr => 4 - (intOf i).toNat)
  case atStart => exact ⟨0, by omega, rfl, HR, Lib.hid (Bl.refl _)⟩
  case round =>
    obtain ⟨k, hk, rfl, hn, KW⟩ := hrel
    by_cases hlt : k < 4
    · have hx := ord_idx k hlt
      have hrd : rdN s (4 - k) k = if opOf (Lib.trimSuffix s (ordOf k)) ≠ 0 then (opOf (Lib.trimSuffix s (ordOf k)), k) else rdN s (4 - (k + 1)) (k + 1) := by
        rw [show 4 - k = (4 - (k + 1)) + 1 by omega]
        rfl
      rw [hn.out] at hrd
      have hT := trimS_any s (ordOf k) wr hs
      have hO := op_any (Lib.trimSuffix s (ordOf k)) wr
      have HRD := Lib.hid hrd
      clear hrd o0 o1 o2 o3
      generalize ordOf k = o at *
      generalize Lib.trimSuffix s o = t at *
      by_cases hq : opOf t = 0
      · rw [hq] at hO
        go_wp2_with fail
        refine hT.mono ?_
        rintro e w1 ⟨rfl, rfl⟩
        go_wp2_with fail
        refine hO.mono ?_
        rintro e w2 ⟨rfl, k2⟩
        have K2 := Lib.hid (KW.out.trans k2)
        have HQ := Lib.hid hq
        clear hO hT k2 hq
        go_wp2
        go_roundw
        case rel => exact ⟨k + 1, by omega, by go_num, Lib.hid (by rw [HRD.out, if_neg (by simp [HQ.out])]), K2⟩
        case measure => simp [intOf] <;> omega
      · have hd : decide (opOf t ≠ 0) = true := by simpa using hq
        rw [hd] at hO
        have HQ := Lib.hid hq
        clear hd hq
        generalize hopt : opOf t = q at *
        have HOP := Lib.hid hopt
        clear hopt
        go_wp2_with fail
        refine hT.mono ?_
        rintro e w1 ⟨rfl, rfl⟩
        go_wp2_with fail
        refine hO.mono ?_
        rintro e w2 ⟨rfl, k2⟩
        have K2 := Lib.hid (KW.out.trans k2)
        clear hO hT k2
        go_wp2
        go_ret2
        refine ⟨?_, K2.out⟩
        rw [HRD.out, if_pos HQ.out]
        rfl
    · obtain rfl : k = 4 := by omega
      have hr := hn.out
      have HR2 := Lib.hid hr
      clear hr
      go_wp2
      go_ret2
      refine ⟨?_, KW.out⟩
      rw [← HR2.out]
      rfl

end Go.Proofs.YtionnhjldcpmjaaGreatDoor
