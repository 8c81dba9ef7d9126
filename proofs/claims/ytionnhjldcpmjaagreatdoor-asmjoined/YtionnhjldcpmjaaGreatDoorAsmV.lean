/-
  What a text says; the first answer.
-/
import Derived.Test.YtionnhjldcpmjaaGreatDoorAsmW
import Derived.Test.YtionnhjldcpmjaaGreatDoorAsmL
import Derived.Test.YtionnhjldcpmjaaGreatDoorBack
set_option linter.unusedVariables false
set_option linter.unusedSimpArgs false
namespace Go.Proofs.YtionnhjldcpmjaaGreatDoor
open Go.RowKit

theorem dsz_of (s : List UInt8) : dsz s = 0 ∨ dsz s = 1 ∨ dsz s = 2 ∨ dsz s = 4 ∨ dsz s = 8 := by
  unfold dsz
  repeat' split
  all_goals simp
set_option maxHeartbeats 1000000 in
theorem line_data_yes (l : List UInt8) (u : Nat) (a : Addr) (w : World) (hE : Env a w) (hs : l.length < 4294967281) (hl : l ≠ []) (hd : isData l = true) (hv : rdD (dsz (Lib.cut l [32]).1) (Lib.cut l [32]).2.1 = some u) :
    Calls Tryz.prog 36 #[str l] w fun e w' => e = .returned (.tuple #[.int .u64 u, .int .i64 (dsz (Lib.cut l [32]).1 : Nat), .nilIface]) ∧ Bl w w' := by
  have hC := cut_any l [32] a w hE hs
  have he : l.isEmpty = false := by simpa using hl
  have hD := fun w => dataSize_any (Lib.cut l [32]).1 w
  have h8 := dsz_of (Lib.cut l [32]).1
  have hl2 := cut_len2 l [32]
  unfold isData at hd
  generalize (Lib.cut l [32]).1 = nam at *
  generalize (Lib.cut l [32]).2.1 = rest at *
  generalize (Lib.cut l [32]).2.2 = fnd at *
  generalize dsz nam = D at *
  obtain ⟨rfl, hD0⟩ : fnd = true ∧ D ≠ 0 := by simpa using hd
  have hk : D = 1 ∨ D = 2 ∨ D = 4 ∨ D = 8 := by omega
  have hR := fun w hE => readData_yes D hk rest u a w hE (by omega) hv
  have hDn : ((D : Int) == 0) = false := by simp; omega
  have HE := Lib.hid hE
  have HD := Lib.hid hD
  have HR := Lib.hid hR
  clear hE hl hd h8 hD hR hk hv hD0 hl2
  go_enter Tryz.func36, Tryz.ntmps36
  go_wp2_with fail
  refine hC.mono ?_
  rintro e w1 ⟨rfl, k1⟩
  have K1 := Lib.hid k1
  clear k1 hC
  go_wp2_with fail
  refine (HD.out _).mono ?_
  rintro e w2 ⟨rfl, rfl⟩
  go_wp2_with fail
  refine (HD.out _).mono ?_
  rintro e w3 ⟨rfl, rfl⟩
  go_wp2_with fail
  refine (HR.out _ (HE.out.bl K1.out)).mono ?_
  rintro e w4 ⟨rfl, k4⟩
  have K4 := Lib.hid (K1.out.trans k4)
  clear k4
  go_wp2_with fail
  refine (HD.out _).mono ?_
  rintro e w5 ⟨rfl, rfl⟩
  go_wp2
  (try simp only [Exit.inBlock, Exit.then])
  refine bodyPost_ret (results_tmp3 rfl _ _ _) rfl ?_
  exact ⟨rfl, K4.out⟩
set_option maxHeartbeats 1000000 in
theorem line_data_no (l : List UInt8) (a : Addr) (w : World) (hE : Env a w) (hs : l.length < 4294967281) (hl : l ≠ []) (hd : isData l = true) (hv : rdD (dsz (Lib.cut l [32]).1) (Lib.cut l [32]).2.1 = none) :
    Calls Tryz.prog 36 #[str l] w fun e w' => (∃ x k : Int, e = .returned (.tuple #[.int .u64 x, .int .i64 k, .iface 153 (.pointer (some a))])) ∧ Bl w w' := by
  have hC := cut_any l [32] a w hE hs
  have he : l.isEmpty = false := by simpa using hl
  have hD := fun w => dataSize_any (Lib.cut l [32]).1 w
  have h8 := dsz_of (Lib.cut l [32]).1
  have hl2 := cut_len2 l [32]
  unfold isData at hd
  generalize (Lib.cut l [32]).1 = nam at *
  generalize (Lib.cut l [32]).2.1 = rest at *
  generalize (Lib.cut l [32]).2.2 = fnd at *
  generalize dsz nam = D at *
  obtain ⟨rfl, hD0⟩ : fnd = true ∧ D ≠ 0 := by simpa using hd
  have hk : D = 1 ∨ D = 2 ∨ D = 4 ∨ D = 8 := by omega
  have hR := fun w hE => readData_no D hk rest a w hE (by omega) hv
  have hDn : ((D : Int) == 0) = false := by simp; omega
  have HE := Lib.hid hE
  have HD := Lib.hid hD
  have HR := Lib.hid hR
  clear hE hl hd h8 hD hR hk hv hD0 hl2
  go_enter Tryz.func36, Tryz.ntmps36
  go_wp2_with fail
  refine hC.mono ?_
  rintro e w1 ⟨rfl, k1⟩
  have K1 := Lib.hid k1
  clear k1 hC
  go_wp2_with fail
  refine (HD.out _).mono ?_
  rintro e w2 ⟨rfl, rfl⟩
  go_wp2_with fail
  refine (HD.out _).mono ?_
  rintro e w3 ⟨rfl, rfl⟩
  go_wp2_with fail
  refine (HR.out _ (HE.out.bl K1.out)).mono ?_
  rintro e w4 ⟨rfl, k4⟩
  have K4 := Lib.hid (K1.out.trans k4)
  clear k4
  go_wp2_with fail
  refine (HD.out _).mono ?_
  rintro e w5 ⟨rfl, rfl⟩
  go_wp2
  (try simp only [Exit.inBlock, Exit.then])
  refine bodyPost_ret (results_tmp3 rfl _ _ _) rfl ?_
  exact ⟨⟨_, _, rfl⟩, K4.out⟩
/-- What a line says: a number, and how many bytes it has. -/
def lineV (l : List UInt8) : Option (Int × Nat) :=
  if l = [] then some (0, 0) else if isData l = true then (rdD (dsz (Lib.cut l [32]).1) (Lib.cut l [32]).2.1).map fun u => ((u : Int), dsz (Lib.cut l [32]).1)
  else if okP l = true then some (((encS (readL l) : Nat) : Int), 4) else none
theorem lineV_nil : lineV [] = some (0, 0) := rfl
theorem lineV_le (l : List UInt8) (x : Int) (k : Nat) (h : lineV l = some (x, k)) : k ≤ 8 := by
  unfold lineV at h
  split at h
  · injection h with h; injection h with _ h; omega
  · split at h
    · obtain ⟨u, _, h2⟩ := Option.map_eq_some_iff.1 h
      injection h2 with _ h2
      have := dsz_of (Lib.cut l [32]).1
      omega
    · split at h
      · injection h with h; injection h with _ h; omega
      · cases h
theorem line_is (a : Addr) (l : List UInt8) (hs : l.length < 4294967281) : LineIs a lineV l := by
  intro w hE
  by_cases hl : l = []
  · subst hl
    rw [lineV_nil]
    exact line_empty w
  · by_cases hd : isData l = true
    · cases hv : rdD (dsz (Lib.cut l [32]).1) (Lib.cut l [32]).2.1 with
      | none =>
        have e : lineV l = none := by unfold lineV; rw [if_neg hl, if_pos hd, hv]; rfl
        rw [e]
        exact line_data_no l a w hE hs hl hd hv
      | some u =>
        have e : lineV l = some ((u : Int), dsz (Lib.cut l [32]).1) := by unfold lineV; rw [if_neg hl, if_pos hd, hv]; rfl
        rw [e]
        exact line_data_yes l u a w hE hs hl hd hv
    · have hd' : isData l = false := by simpa using hd
      cases ho : okP l with
      | true =>
        have e : lineV l = some (((encS (readL l) : Nat) : Int), 4) := by unfold lineV; rw [if_neg hl, if_neg hd, if_pos ho]
        rw [e]
        exact line_yes l a w hE hs hl hd' ho
      | false =>
        have e : lineV l = none := by unfold lineV; rw [if_neg hl, if_neg hd, if_neg (by rw [ho]; decide)]
        rw [e]
        refine (line_no l a w hE hs hl hd' ho).mono ?_
        rintro e w' ⟨⟨x, h⟩, hb⟩
        exact ⟨⟨x, 4, h⟩, hb⟩
theorem linesL_small : ∀ (n : Nat) (t : List UInt8), t.length ≤ n → ∀ l ∈ linesL t, l.length ≤ t.length
  | 0, t, h, l, hl => by
    have : t = [] := List.eq_nil_of_length_eq_zero (by omega)
    rw [this, linesL_nil] at hl
    cases hl
  | n + 1, t, h, l, hl => by
    by_cases ht : t = []
    · rw [ht, linesL_nil] at hl
      cases hl
    · have hc := cut_less t ht
      rw [linesL_cons t ht] at hl
      rcases List.mem_cons.1 hl with h1 | h1
      · rw [h1]
        exact cut_len1 t [10]
      · have := linesL_small n _ (by omega) l h1
        omega
/-- What a text says. -/
def asmT (t : List UInt8) : Asm := asmR lineV (linesL t) 1 []
theorem asm_any (t : List UInt8) (a : Addr) (w : World) (hE : Env a w) (ht : t.length ≤ 100000) :
    Calls Tryz.prog 19 #[str t] w fun e w' => AsmIs (asmT t) e w' ∧ Bl w w' :=
  assemble_any lineV t a w hE ht (fun l hl => line_is a l (by have := linesL_small _ t (Nat.le_refl _) l hl; omega)) lineV_le
/-- ecall. -/
def ecallI : Ins := ⟨87, 0, 0, 0, 0, 0, 4⟩
theorem ecall_key : encS ecallI = 115 ∧ encB ecallI = true ∧ textL ecallI = [101, 99, 97, 108, 108] := by decide +kernel
theorem lineV_text (i : Ins) (h : encB i = true) : lineV (textL i) = some (((encS i : Nat) : Int), 4) := by
  have hg := good_of h
  obtain ⟨h1, h2, _⟩ := text_line i hg
  unfold lineV
  rw [if_neg h2, if_neg (by rw [h1]; decide), if_pos (okP_text i h), read_text i hg]
theorem lineV_ecall : lineV [101, 99, 97, 108, 108] = some (115, 4) := by
  obtain ⟨h1, h2, h3⟩ := ecall_key
  rw [← h3, lineV_text _ h2, h1]
  rfl
theorem asmT_ecall : asmT [101, 99, 97, 108, 108, 10] = .ok (putB 115 4) := by
  have hl : linesL [101, 99, 97, 108, 108, 10] = [[101, 99, 97, 108, 108]] := by decide +kernel
  unfold asmT
  rw [hl]
  simp [asmR, lineV_ecall]
set_option maxHeartbeats 1000000 in
theorem answers_any (a : Addr) (w : World) (hE : Env a w) : Calls Tryz.prog 8 #[] w fun e w' => e = .returned (.bool true) ∧ Bl w w' := by
  have hA := asm_any [101, 99, 97, 108, 108, 10] a w hE (by decide)
  rw [asmT_ecall] at hA
  have hp : putB 115 4 = [115, 0, 0, 0] := by decide +kernel
  rw [hp] at hA
  go_enter Tryz.func8, Tryz.ntmps8
  go_wp2_with fail
  refine hA.mono ?_
  rintro e w1 ⟨⟨A, c, rfl, hr, _⟩, k1⟩
  obtain ⟨b, off, hA0, hcell⟩ := hr.at_ 0 (by decide)
  subst hA0
  have K1 := Lib.hid k1
  simp only [List.getD_cons_zero, Nat.add_zero] at hcell
  have hL : (([115, 0, 0, 0] : List Int).length) = 4 := rfl
  rw [hL]
  clear k1 hA hr
  go_wp2
  go_ret
  exact ⟨rfl, K1.out⟩

end Go.Proofs.YtionnhjldcpmjaaGreatDoor
