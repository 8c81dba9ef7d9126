/-
  Lines that have ended; rows of numbers.
-/
import Derived.Test.YtionnhjldcpmjaaGreatDoorJoin
import Derived.Test.YtionnhjldcpmjaaGreatDoorInstP
import Derived.Test.YtionnhjldcpmjaaGreatDoorWrap
set_option linter.unusedVariables false
set_option linter.unusedSimpArgs false
namespace Go.Proofs.YtionnhjldcpmjaaGreatDoor
open Go.RowKit

/-- A text whose lines have all ended, and its bytes. -/
def Qd (t : List UInt8) (acc : List Int) : Prop := ∀ r y, asmT r = .ok y → asmT (t ++ r) = .ok (acc ++ y)
theorem asmT_nil : asmT [] = .ok [] := rfl
theorem Qd.nil : Qd [] [] := fun r y h => by simpa using h
theorem Qd.step {t l : List UInt8} {acc z : List Int} (h : Qd t acc) (hl : asmT l = .ok z) : Qd (t ++ l ++ [10]) (acc ++ z) := by
  intro r y hr
  have hj := asmT_joined l r
  rw [hl, hr] at hj
  have := h _ _ hj
  rw [List.append_assoc, List.append_assoc, List.append_assoc]
  simpa using this
theorem Qd.done {t : List UInt8} {acc : List Int} (h : Qd t acc) : asmT t = .ok acc := by
  have := h [] [] asmT_nil
  simpa using this
theorem Qd.last {t l : List UInt8} {acc z : List Int} (h : Qd t acc) (hl : asmT l = .ok z) : asmT (t ++ l) = .ok (acc ++ z) := h _ _ hl
theorem asmT_line (l : List UInt8) (hn : (10 : UInt8) ∉ l) (hne : l ≠ []) (x : Int) (k : Nat) (hV : lineV l = some (x, k)) : asmT l = .ok (putB x k) := by
  unfold asmT
  rw [lines_one l hn hne]
  simp [asmR, hV]
theorem word_line (s : Nat) (hs : s < 4294967296) (h0 : opW s ≠ 0) (h85 : opW s ≠ 85) (h86 : opW s ≠ 86) : encB (dec s) = true ∧ asmT (textL (dec s)) = .ok (putB (s : Int) 4) := by
  have hb := back_eq s hs h0 h85 h86
  have hB : encB (dec s) = true := by
    unfold encB
    rw [hb]
    simp [h0]
  have hg := good_of hB
  obtain ⟨_, h2, h3⟩ := text_line _ hg
  refine ⟨hB, ?_⟩
  have hV := lineV_text _ hB
  rw [hb] at hV
  exact asmT_line _ h3 h2 _ _ hV
theorem ecall_line : asmT [101, 99, 97, 108, 108] = .ok (putB 115 4) := asmT_line _ (by decide) (by decide) _ _ lineV_ecall
theorem parseM_snoc (M : Nat) (hM : M < 18446744073709551616) (d : UInt8) (hd : 48 ≤ d.toNat ∧ d.toNat ≤ 57) : ∀ (l : List UInt8) (acc v : Nat), Lib.parseUintM M acc l = .ok v → v * 10 + (d.toNat - 48) ≤ M → Lib.parseUintM M acc (l ++ [d]) = .ok (v * 10 + (d.toNat - 48))
  | [], acc, v, h, hv => by
    simp only [Lib.parseUintM] at h
    injection h with h
    subst h
    simp only [List.nil_append, Lib.parseUintM]
    rw [if_pos hd, if_neg (by omega), if_neg (by omega)]
  | c :: r, acc, v, h, hv => by
    simp only [List.cons_append, Lib.parseUintM] at h ⊢
    split at h
    · rename_i h1
      rw [if_pos h1]
      split at h
      · cases h
      · rename_i h2
        rw [if_neg h2]
        split at h
        · cases h
        · rename_i h3
          rw [if_neg h3]
          exact parseM_snoc M hM d hd r _ v h hv
    · cases h
theorem parseM_dec (M : Nat) (hM : M < 18446744073709551616) (u : Nat) (h : u ≤ M) : Lib.parseUintM M 0 (Lib.decDigits u) = .ok u := by
  induction u using Nat.strongRecOn with
  | _ u ih =>
    rw [Lib.decDigits]
    split
    · rename_i hu
      have hb := byte_of u hu
      have := parseM_snoc M hM (UInt8.ofNat (48 + u)) (by omega) [] 0 0 rfl (by omega)
      rw [List.nil_append] at this
      rw [this]
      congr 1
      omega
    · rename_i hu
      have hb := byte_of (u % 10) (by omega)
      rw [parseM_snoc M hM (UInt8.ofNat (48 + u % 10)) (by omega) _ 0 (u / 10) (ih (u / 10) (by omega) (by omega)) (by omega)]
      congr 1
      omega
theorem rdD_dec (k : Nat) (hk : k = 1 ∨ k = 2 ∨ k = 4 ∨ k = 8) (u : Nat) (hu : u ≤ 2 ^ (8 * k) - 1) : rdD k (Lib.decDigits u) = some u := by
  have hM : 2 ^ (8 * k) - 1 < 18446744073709551616 := by rcases hk with rfl | rfl | rfl | rfl <;> decide
  unfold rdD Lib.parseUintB
  rw [if_neg (dec_ne u), parseM_dec _ hM u hu]
  simp
theorem dec_no (u : Nat) (c : UInt8) (h : c.toNat < 48) : c ∉ Lib.decDigits u := fun hc => by have := dec_digits u c hc; omega
theorem data_line (nam : List UInt8) (k u : Nat) (hk : k = 1 ∨ k = 2 ∨ k = 4 ∨ k = 8) (hn : (32 : UInt8) ∉ nam) (h10 : (10 : UInt8) ∉ nam) (hd : dsz nam = k) (hu : u ≤ 2 ^ (8 * k) - 1) :
    asmT (nam ++ [32] ++ Lib.decDigits u) = .ok (putB (u : Int) k) := by
  have hc : Lib.cut (nam ++ [32] ++ Lib.decDigits u) [32] = (nam, Lib.decDigits u, true) := by
    have := cut_found 32 [] nam (Lib.decDigits u) hn
    simpa using this
  have hne : nam ++ [32] ++ Lib.decDigits u ≠ [] := by simp
  refine asmT_line _ ?_ hne _ _ ?_
  · simp only [List.mem_append, not_or]
    exact ⟨⟨h10, by decide⟩, dec_no u 10 (by decide)⟩
  · unfold lineV
    rw [if_neg hne]
    have hi : isData (nam ++ [32] ++ Lib.decDigits u) = true := by
      unfold isData
      rw [hc, hd]
      simp
      omega
    rw [if_pos hi, hc]
    simp only [hd]
    rw [rdD_dec k hk u hu]
    rfl
theorem data_1 (u : Nat) (hu : u < 256) : asmT ([46, 98, 121, 116, 101, 32] ++ Lib.decDigits u) = .ok (putB (u : Int) 1) := by
  have := data_line [46, 98, 121, 116, 101] 1 u (by decide) (by decide) (by decide) (by decide) (by simp; omega)
  simpa using this
theorem data_2 (u : Nat) (hu : u < 65536) : asmT ([46, 104, 97, 108, 102, 32] ++ Lib.decDigits u) = .ok (putB (u : Int) 2) := by
  have := data_line [46, 104, 97, 108, 102] 2 u (by decide) (by decide) (by decide) (by decide) (by simp; omega)
  simpa using this
theorem data_4 (u : Nat) (hu : u < 4294967296) : asmT ([46, 119, 111, 114, 100, 32] ++ Lib.decDigits u) = .ok (putB (u : Int) 4) := by
  have := data_line [46, 119, 111, 114, 100] 4 u (by decide) (by decide) (by decide) (by decide) (by simp; omega)
  simpa using this
theorem data_8 (u : Nat) (hu : u < 18446744073709551616) : asmT ([46, 100, 119, 111, 114, 100, 32] ++ Lib.decDigits u) = .ok (putB (u : Int) 8) := by
  have := data_line [46, 100, 119, 111, 114, 100] 8 u (by decide) (by decide) (by decide) (by decide) (by simp; omega)
  simpa using this
/-- A row of numbers that came in. -/
def RowK (kd : IntKind) (w : World) (A : Option Addr) (len : Nat) (xs : List Int) : Prop := xs.length = len ∧ ∀ k, k < len → ∃ b off, A = some ⟨b, off, none⟩ ∧ w.cell? ⟨b, off + k, none⟩ = some (.int kd (xs.getD k 0)) ∧ (Lit.int kd (xs.getD k 0)).wf = true
theorem RowK.bl {kd : IntKind} {w w' : World} {A : Option Addr} {len : Nat} {xs : List Int} (h : RowK kd w A len xs) (k : Bl w w') : RowK kd w' A len xs :=
  ⟨h.1, fun i hi => by obtain ⟨b, off, h1, h2, h3⟩ := h.2 i hi; exact ⟨b, off, h1, k.cell h2, h3⟩⟩
open Go.ChangeShapes Go.WideShapes Go.ChangeAt
theorem open_row {H : Type} {enc : TypeId × Value → H} {W : World} {sp : Nat → Bool} {t e : TypeId} {kd : IntKind} {A : Option Addr} {len cap : Nat} {d : DataW H} {p : List MemPlace}
    (ht : Tryz.prog.underlying t = some (.slice e)) (he : Tryz.prog.underlying e = some (.int kd)) (hc : Tryz.prog.cellsOf e = 1)
    (h : DataW.Trod enc Tryz.prog W 0 sp true t (.slice A len cap) d p) : ∃ xs, RowK kd W A len xs := by
  obtain ⟨fuel, hf⟩ := h
  rcases open_ints ht he hc hf with ⟨hcs, _⟩ | ⟨x, l, c, zs, hcs, _, hl, hm, hz, _, hcell, hwz⟩
  · simp [Value.cells] at hcs
    obtain ⟨rfl, rfl, rfl⟩ := hcs
    exact ⟨[], rfl, fun k hk => by omega⟩
  · simp [Value.cells] at hcs
    obtain ⟨rfl, rfl, rfl⟩ := hcs
    have hlz : len ≤ zs.length := by rw [hz]; split <;> omega
    refine ⟨zs.take len, by rw [List.length_take]; omega, fun k hk => ?_⟩
    have hkz : k < zs.length := by omega
    have hg : (zs.take len).getD k 0 = zs.getD k 0 := by rw [List.getD_eq_getElem?_getD, List.getD_eq_getElem?_getD, List.getElem?_take_of_lt hk]
    rw [hg]
    have h0 := hcell 0 (by omega)
    have h1 := hcell k hkz
    obtain ⟨b, off, spot⟩ := x
    have hspot : spot = none := by simpa [Addr.add] using World.cell?_spot h0
    subst hspot
    refine ⟨b, off, rfl, ?_, ?_⟩
    · rw [Lib.add_plain] at h1
      exact h1
    · rw [List.getD_eq_getElem?_getD, List.getElem?_eq_getElem hkz]
      exact hwz _ (by simp)
theorem wf_nat {kd : IntKind} {x : Int} (h : (Lit.int kd x).wf = true) (hm : kd.min = 0) : ∃ n : Nat, x = (n : Int) ∧ (n : Int) ≤ kd.max := by
  simp only [Lit.wf, Bool.and_eq_true, decide_eq_true_eq] at h
  exact ⟨x.toNat, by omega, by omega⟩

end Go.Proofs.YtionnhjldcpmjaaGreatDoor
