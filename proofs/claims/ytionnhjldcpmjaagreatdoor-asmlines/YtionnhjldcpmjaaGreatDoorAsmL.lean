/-
  Assemble.
-/
import Derived.Test.YtionnhjldcpmjaaGreatDoorAsmK
set_option linter.unusedVariables false
set_option linter.unusedSimpArgs false
namespace Go.Proofs.YtionnhjldcpmjaaGreatDoor
open Go.RowKit

/-- The lines of a text. -/
def linesF : Nat → List UInt8 → List (List UInt8)
  | 0, _ => []
  | f + 1, t => if t = [] then [] else (Lib.cut t [10]).1 :: linesF f (Lib.cut t [10]).2.1
def linesL (t : List UInt8) : List (List UInt8) := linesF t.length t
theorem cut_less (t : List UInt8) (h : t ≠ []) : (Lib.cut t [10]).2.1.length < t.length := by
  have hl : 0 < t.length := List.length_pos_iff.2 h
  unfold Lib.cut
  split
  · simp; omega
  · simpa using hl
theorem linesF_more : ∀ (f g : Nat) (t : List UInt8), t.length ≤ f → t.length ≤ g → linesF f t = linesF g t
  | 0, 0, t, _, _ => rfl
  | 0, g + 1, t, hf, _ => by
    have : t = [] := List.eq_nil_of_length_eq_zero (by omega)
    simp [linesF, this]
  | f + 1, 0, t, _, hg => by
    have : t = [] := List.eq_nil_of_length_eq_zero (by omega)
    simp [linesF, this]
  | f + 1, g + 1, t, hf, hg => by
    unfold linesF
    by_cases h : t = []
    · simp [h]
    · have hc := cut_less t h
      rw [if_neg h, if_neg h, linesF_more f g _ (by omega) (by omega)]
theorem linesL_cons (t : List UInt8) (h : t ≠ []) : linesL t = (Lib.cut t [10]).1 :: linesL (Lib.cut t [10]).2.1 := by
  have hl : 0 < t.length := List.length_pos_iff.2 h
  have hc := cut_less t h
  unfold linesL
  rw [show t.length = (t.length - 1) + 1 by omega]
  conv => lhs; unfold linesF
  rw [if_neg h, linesF_more (t.length - 1) (Lib.cut t [10]).2.1.length _ (by omega) (by omega)]
theorem linesL_nil : linesL [] = [] := rfl
theorem linesL_len : ∀ (n : Nat) (t : List UInt8), t.length ≤ n → (linesL t).length ≤ n
  | 0, t, h => by
    have : t = [] := List.eq_nil_of_length_eq_zero (by omega)
    simp [this, linesL_nil]
  | n + 1, t, h => by
    by_cases ht : t = []
    · simp [ht, linesL_nil]
    · have hc := cut_less t ht
      rw [linesL_cons t ht]
      have := linesL_len n (Lib.cut t [10]).2.1 (by omega)
      simp
      omega
/-- What lines say: bytes, or the number of the first that says none. -/
inductive Asm where
  | ok (bs : List Int)
  | bad (n : Nat)
def asmR (V : List UInt8 → Option (Int × Nat)) : List (List UInt8) → Nat → List Int → Asm
  | [], _, acc => .ok acc
  | l :: ls, n, acc => match V l with
    | none => .bad n
    | some (x, k) => asmR V ls (n + 1) (acc ++ putB x k)
/-- What a line is read as. -/
def LineIs (a : Addr) (V : List UInt8 → Option (Int × Nat)) (l : List UInt8) : Prop := ∀ w, Env a w → Calls Tryz.prog 36 #[str l] w fun e w' =>
  (match V l with
    | some (x, k) => e = .returned (.tuple #[.int .u64 x, .int .i64 k, .nilIface])
    | none => ∃ x k : Int, e = .returned (.tuple #[.int .u64 x, .int .i64 k, .iface 153 (.pointer (some a))])) ∧ Bl w w'
def AsmIs (R : Asm) (e : Ending) (w' : World) : Prop :=
  match R with
  | .ok bs => ∃ A c, e = .returned (.tuple #[.slice A bs.length c, .int .i64 0, .int .i64 0]) ∧ Rd w' A bs ∧ (A = none → c = 0)
  | .bad n => e = .returned (.tuple #[.slice none 0 0, .int .i64 (n : Nat), .int .i64 201])
theorem own_bl {w w' : World} {base e n : Nat} {v : Value} {xs : List Value} (h : w.ownsRow base e 1 v n xs) (k : Bl w w') : w'.ownsRow base e 1 v n xs := by
  obtain ⟨h1, h2⟩ := h
  refine ⟨h1, ?_⟩
  rcases h2 with h2 | ⟨g, c, cur, h3, h4, h5, h6⟩
  · exact .inl h2
  · exact .inr ⟨g, c, cur, h3, h4, (k.block g (lt_of_at h5)).trans h5, h6⟩
set_option maxRecDepth 100000 in
set_option maxHeartbeats 4000000 in
theorem assemble_any (V : List UInt8 → Option (Int × Nat)) (t : List UInt8) (a : Addr) (w : World) (hE : Env a w) (ht : t.length ≤ 100000)
    (hV : ∀ l ∈ linesL t, LineIs a V l) (hk : ∀ l x k, V l = some (x, k) → k ≤ 8) :
    Calls Tryz.prog 19 #[str t] w fun e w' => AsmIs (asmR V (linesL t) 1 []) e w' ∧ Bl w w' := by
  obtain ⟨i0, hi0, hz0, hz1, hz2⟩ := info_parts Tryz.infoByte
  have J0 := Lib.hid hi0; clear hi0
  have J1 := Lib.hid hz0; clear hz0
  have J2 := Lib.hid hz1; clear hz1
  have J3 := Lib.hid hz2; clear hz2
  generalize hR : asmR V (linesL t) 1 [] = R
  have HR := Lib.hid hR
  have HV := Lib.hid hV
  have HK := Lib.hid hk
  have HE := Lib.hid hE
  clear hR hV hk hE
  have hln := linesL_len 100000 t ht
  go_enter Tryz.func19, Tryz.ntmps19
  go_wp2_with fail
  go_loopw [0, 2, 5, 6] (fun tv bv lg nv wr => ∃ (t1 : List UInt8) (n : Nat) (acc : List Int) (A : Option Addr) (c : Nat), tv = str t1 ∧ bv = .slice A acc.length c ∧ lg = .bool false ∧ nv = .int .i64 (n : Nat) ∧
    t1.length ≤ 100000 ∧ 1 ≤ n ∧ n + t1.length ≤ 100001 ∧ acc.length ≤ 8 * n ∧ Hid (asmR V (linesL t1) n acc = R) ∧ Hid (∀ l ∈ linesL t1, LineIs a V l) ∧ Hid (wr.ownsRow w.heap.size 5 1 (.slice A acc.length c) acc.length (asBytes acc)) ∧ Hid (Bl w wr)) (fun tv bv lg nv wr => 100001 - (intOf nv).toNat)
  case atStart => exact ⟨t, 1, [], none, 0, rfl, rfl, rfl, rfl, ht, by omega, by omega, by simp, HR, HV, Lib.hid (World.ownsRow_nil w _ 5 1), Lib.hid (Bl.refl _)⟩
  case round =>
    clear HR HV hln
    obtain ⟨t1, n, acc, A, c, rfl, rfl, rfl, rfl, ht1, hn1, hnt, hac, HR, HV, HO, KW⟩ := hrel
    by_cases hem : t1 = []
    · subst hem
      have hR := HR.out
      rw [linesL_nil] at hR
      simp only [asmR] at hR
      have HR2 := Lib.hid hR
      clear hR HR
      go_wp2
      (try simp only [Exit.inBlock, Exit.then])
      refine bodyPost_ret (results_tmp3 rfl _ _ _) rfl ⟨?_, KW.out⟩
      rw [← HR2.out]
      obtain ⟨B, c2, h1, h2, _, h4, _⟩ := Rd.of_own HO.out
      injection h1 with h1 _ h3
      subst h1 h3
      exact ⟨_, _, rfl, h2, h4⟩
    · have hcons := linesL_cons t1 hem
      have hless := cut_less t1 hem
      have hC := cut_any t1 [10] a wr (HE.out.bl KW.out) (by omega)
      have hRc := HR.out
      have hVc := HV.out
      rw [hcons] at hRc hVc
      have he : t1.isEmpty = false := by simpa using hem
      generalize (Lib.cut t1 [10]).1 = one at *
      generalize (Lib.cut t1 [10]).2.1 = t2 at *
      generalize (Lib.cut t1 [10]).2.2 = fnd at *
      have hL := hVc one (by simp)
      have HV2 : Hid (∀ l ∈ linesL t2, LineIs a V l) := Lib.hid fun l hl => hVc l (by simp [hl])
      unfold asmR at hRc
      unfold LineIs at hL
      clear hcons hVc HR HV hem
      cases hVo : V one with
      | none =>
        rw [hVo] at hRc hL
        dsimp only at hRc hL
        have HRc := Lib.hid hRc
        have HL := Lib.hid hL
        clear hRc hL hVo
        go_wp2_with fail
        refine hC.mono ?_
        rintro e w1 ⟨rfl, k1⟩
        have K1 := Lib.hid (KW.out.trans k1)
        clear hC k1
        go_wp2_with fail
        refine (HL.out _ (HE.out.bl K1.out)).mono ?_
        rintro e w2 ⟨⟨x, k, rfl⟩, k2⟩
        have K2 := Lib.hid (K1.out.trans k2)
        have herr := (HE.out.bl K2.out).err
        clear k2 HL
        go_wp2_with fail
        refine (is_same a _).mono ?_
        rintro e w3 ⟨rfl, rfl⟩
        go_wp2
        (try simp only [Exit.inBlock, Exit.then])
        refine bodyPost_ret (results_tmp3 rfl _ _ _) rfl ⟨?_, K2.out⟩
        rw [← HRc.out]
        rfl
      | some xk =>
        obtain ⟨x, k⟩ := xk
        have hk8 := HK.out one x k hVo
        rw [hVo] at hRc hL
        dsimp only at hRc hL
        have HRc := Lib.hid hRc
        have HL := Lib.hid hL
        clear hRc hL hVo
        go_wp2_with fail
        refine hC.mono ?_
        rintro e w1 ⟨rfl, k1⟩
        have K1 := Lib.hid (KW.out.trans k1)
        have HO1 := Lib.hid k1
        clear hC k1
        go_wp2_with fail
        refine (HL.out _ (HE.out.bl K1.out)).mono ?_
        rintro e w2 ⟨rfl, k2⟩
        have K2 := Lib.hid (K1.out.trans k2)
        have HB2 := Lib.hid (HO1.out.trans k2)
        have herr := (HE.out.bl K2.out).err
        clear k2 HL HO1 K1
        go_wp2_with fail
        refine (is_nil a _).mono ?_
        rintro e w3 ⟨rfl, rfl⟩
        have hac4 : (acc.length : Int) + (k : Int) ≤ 4194304 := by omega
        have hdc : decide ((4194304 : Int) < (acc.length : Int) + (k : Int)) = false := by simp; omega
        go_wp2_with fail
        refine (put_nil x k _ hk8).mono ?_
        rintro e w4 ⟨B, c4, rfl, hr4, k4, hcn⟩
        have K4 := Lib.hid (K2.out.trans k4)
        have HO4 := Lib.hid (own_bl HO.out (HB2.out.trans k4))
        have HR4 := Lib.hid hr4
        have HC4 := Lib.hid hcn
        have hsz := K4.out.size
        clear hr4 k4 hcn HO HB2 K2 hdc
        go_wp2_with (at_builtin; refine wpl_append rfl (.tmp 41) (.tmp 44) 38 rfl w.heap.size 5 i0 Tryz.underlying38 J0.out J1.out J2.out J3.out _ acc.length acc rfl HO4.out B k c4 (putB x k) rfl HR4.out (putB_length x k) HC4.out (by omega) hsz ?_; intro v5 w5 hown5 hg5)
        have hb5 : Bl w w5 := Below.grown K4.out hg5 hsz (own_block_ge HO4.out)
        obtain ⟨A5, c5, rfl, _, _, _, _⟩ := Rd.of_own hown5
        have HO5 := Lib.hid hown5
        have K5 := Lib.hid hb5
        clear hown5 hg5 hb5
        go_wp2
        go_roundw
        case rel => exact ⟨t2, n + 1, acc ++ putB x k, A5, c5, rfl, by rw [List.length_append, putB_length], rfl, by go_num, by omega, by omega, by omega, by rw [List.length_append, putB_length]; omega, HRc, HV2, by rw [List.length_append, putB_length]; exact HO5, K5⟩
        case measure => simp [intOf] <;> omega

end Go.Proofs.YtionnhjldcpmjaaGreatDoor
