/-
  Law AsmNames: for every number and every text the law returns true: names of operators, and operators of names. Tied card; the listed variables are those of the program text.
-/
import Derived.Test.YtionnhjldcpmjaaGreatDoorWrap
import Derived.Test.YtionnhjldcpmjaaGreatDoorRefN
import Derived.Test.YtionnhjldcpmjaaGreatDoorTie
import Derived.Test.YtionnhjldcpmjaaGreatDoorCards
import Derived.SevenTiedAt
set_option linter.unusedVariables false
set_option linter.unusedSimpArgs false
namespace Go.Proofs.YtionnhjldcpmjaaGreatDoor
open Go.RowKit

open Go.ChangeShapes Go.WideShapes Go.ChangeAt
theorem size_str (s : List UInt8) : ((⟨s.toArray⟩ : ByteArray).size : Int) = (s.length : Int) := by simp [ByteArray.size]
/-- The last operator of that name among the first ones. -/
def lst (s : List UInt8) : Nat → Nat
  | 0 => 0
  | j + 1 => if 1 ≤ j ∧ nmT.getD j [] = s then j else lst s j
theorem lst_all : ((List.range 88).all fun j => decide (lst (nmT.getD (j + 1) []) 89 = j + 1) && decide (opOf (nmT.getD (j + 1) []) = j + 1)) = true := by decide +kernel
theorem lst_none (s : List UInt8) (h : ∀ j, 1 ≤ j → j < 89 → nmT.getD j [] ≠ s) : ∀ i, i ≤ 89 → lst s i = 0
  | 0, _ => rfl
  | j + 1, hj => by
    rw [lst, if_neg (fun h1 => h j h1.1 (by omega) h1.2)]
    exact lst_none s h j (by omega)
theorem lst_op (s : List UInt8) : lst s 89 = opOf s := by
  by_cases h : ∃ j, 1 ≤ j ∧ j < 89 ∧ nmT.getD j [] = s
  · obtain ⟨j, h1, h2, h3⟩ := h
    have a := List.all_eq_true.1 lst_all (j - 1) (List.mem_range.2 (by omega))
    rw [show j - 1 + 1 = j by omega] at a
    simp only [Bool.and_eq_true, decide_eq_true_eq] at a
    rw [← h3, a.1, a.2]
  · have hn : ∀ j, 1 ≤ j → j < 89 → nmT.getD j [] ≠ s := fun j h1 h2 h3 => h ⟨j, h1, h2, h3⟩
    rw [lst_none s hn 89 (by omega)]
    by_cases hs : s = []
    · unfold opOf; rw [if_pos hs]
    · rw [opOf_miss hs]
      intro j hj
      rcases Nat.eq_zero_or_pos j with h0 | h0
      · subst h0
        intro h
        exact hs h.symm
      · exact hn j h0 hj

set_option maxRecDepth 100000 in
set_option maxHeartbeats 4000000 in
/-- The law's text returns true. -/
theorem asmNames_walk (op : Int) (hop : -9223372036854775808 ≤ op ∧ op ≤ 9223372036854775807) (name : List UInt8) (hname : name.length ≤ 9223372036854775807) (a : Addr) (w : World) (hE : Env a w) :
    Calls Tryz.prog 3 #[.int .i64 op, str name] w fun e w' => e = .returned (.bool true) ∧ Bl w w' := by
  by_cases hlen : (1000 : Int) < (name.length : Int)
  · have hA := answers_any a w hE
    have hsz := size_str name
    have HS := Lib.hid hname
    clear hE hname
    go_enter Tryz.func3, Tryz.ntmps3
    go_wp2_with fail
    refine hA.mono ?_
    rintro e w1 ⟨rfl, k1⟩
    have K1 := Lib.hid k1
    clear k1 hA
    go_wp2
    go_ret
    exact ⟨rfl, K1.out⟩
  · have HE := Lib.hid hE
    have hsz := size_str name
    have HS := Lib.hid hname
    have hN := name_any op w
    obtain ⟨R, hRo⟩ : ∃ R, R = opOf name := ⟨_, rfl⟩
    obtain ⟨bo, hbo⟩ : ∃ bo, bo = decide (R ≠ 0) := ⟨_, rfl⟩
    have hO : ∀ w, Calls Tryz.prog 11 #[str name] w fun e w' => e = .returned (.tuple #[.int .i64 (R : Int), .bool bo]) ∧ Bl w w' := by
      rw [hbo, hRo]
      exact fun w => op_any name w
    have HBO := Lib.hid hbo
    have HO := Lib.hid hO
    have hl := lst_op name
    rw [← hRo] at hl
    have HL := Lib.hid hl
    clear hE hname hO hl hbo hRo
    by_cases h1 : 1 ≤ op ∧ op ≤ 88
    · obtain ⟨k, rfl⟩ : ∃ k : Nat, op = (k : Int) := ⟨op.toNat, by omega⟩
      have hnm : nm (k : Int) = nmT.getD k [] := nm_nat k (by omega) (by omega)
      rw [hnm] at hN
      have hR := fun w => refName_any k (by omega) (by omega) w
      generalize nmT.getD k [] = s at *
      have HR := Lib.hid hR
      have hk1 : (1 : Int) ≤ (k : Int) := h1.1
      have hk2 : (k : Int) ≤ 88 := h1.2
      have hss := beq_true (rfl : s = s)
      clear hR hnm h1
      go_enter Tryz.func3, Tryz.ntmps3
      go_wp2_with fail
      refine hN.mono ?_
      rintro e w1 ⟨rfl, k1⟩
      have K1 := Lib.hid k1
      clear k1 hN
      go_wp2_with fail
      refine (HR.out _).mono ?_
      rintro e w2 ⟨rfl, rfl⟩
      clear HR
      go_wp2_with fail
      refine (HO.out _).mono ?_
      rintro e w3 ⟨rfl, k3⟩
      have K3 := Lib.hid (K1.out.trans k3)
      clear k3 HO K1
      go_wp2_with fail
      go_loop [9, 10] (fun kv iv => ∃ i c : Nat, 1 ≤ i ∧ i ≤ 89 ∧ iv = .int .i64 (i : Int) ∧ kv = .int .i64 (c : Int) ∧ Hid (lst name i = c)) (fun kv iv => 90 - (intOf iv).toNat)
      case atStart => exact ⟨1, 0, by omega, by omega, rfl, rfl, Lib.hid rfl⟩
      case round =>
        obtain ⟨i, c, hi1, hi2, rfl, rfl, HC⟩ := hrel
        by_cases hlt : i < 89
        · have hRi := refName_any i hi1 (by omega)
          have hil : (i : Int) ≤ 88 := by omega
          by_cases hq : nmT.getD i [] = name
          · have hb := beq_true hq
            have hn : lst name (i + 1) = i := by unfold lst; rw [if_pos ⟨hi1, hq⟩]
            generalize nmT.getD i [] = t at *
            have HN := Lib.hid hn
            have HRi := Lib.hid hRi
            clear hn hq hRi
            go_wp2_with fail
            refine (HRi.out _).mono ?_
            rintro e w4 ⟨rfl, rfl⟩
            go_wp2
            go_round
            case rel => exact ⟨i + 1, i, by omega, by omega, by go_num, rfl, HN⟩
            case measure => simp [intOf] <;> omega
          · have hb := beq_false hq
            have hn : lst name (i + 1) = c := by rw [lst]; rw [if_neg (fun h => hq h.2)]; exact HC.out
            generalize nmT.getD i [] = t at *
            have HN := Lib.hid hn
            have HRi := Lib.hid hRi
            clear hn hq hRi
            go_wp2_with fail
            refine (HRi.out _).mono ?_
            rintro e w4 ⟨rfl, rfl⟩
            go_wp2
            go_round
            case rel => exact ⟨i + 1, c, by omega, by omega, by go_num, rfl, HN⟩
            case measure => simp [intOf] <;> omega
        · obtain rfl : i = 89 := by omega
          obtain rfl : c = R := by rw [← HC.out, HL.out]
          have hA := answers_any a w3 (HE.out.bl K3.out)
          have hb := HBO.out
          by_cases h0 : c = 0
          · subst h0
            obtain rfl : bo = false := by rw [hb]; decide
            clear hb HBO
            go_wp2_with fail
            refine hA.mono ?_
            rintro e w5 ⟨rfl, k5⟩
            have K5 := Lib.hid (K3.out.trans k5)
            clear k5 hA
            go_wp2
            go_ret
            exact ⟨rfl, K5.out⟩
          · obtain rfl : bo = true := by rw [hb]; simpa using h0
            have h1 : (0 : Int) < (c : Int) := by omega
            clear hb HBO
            go_wp2_with fail
            refine hA.mono ?_
            rintro e w5 ⟨rfl, k5⟩
            have K5 := Lib.hid (K3.out.trans k5)
            clear k5 hA
            go_wp2
            go_ret
            exact ⟨rfl, K5.out⟩
    · have hnm : nm op = [] := by unfold nm; rw [if_neg h1]
      rw [hnm] at hN
      have hq : ¬ (1 ≤ op) ∨ (1 ≤ op ∧ ¬ (op ≤ 88)) := by omega
      have hss := beq_true (rfl : ([] : List UInt8) = [])
      clear hnm h1
      rcases hq with hq | ⟨hq, hq2⟩
      · go_enter Tryz.func3, Tryz.ntmps3
        go_wp2_with fail
        refine hN.mono ?_
        rintro e w1 ⟨rfl, k1⟩
        have K1 := Lib.hid k1
        clear k1 hN
        go_wp2_with fail
        refine (HO.out _).mono ?_
        rintro e w3 ⟨rfl, k3⟩
        have K3 := Lib.hid (K1.out.trans k3)
        clear k3 HO K1
        go_wp2_with fail
        go_loop [9, 10] (fun kv iv => ∃ i c : Nat, 1 ≤ i ∧ i ≤ 89 ∧ iv = .int .i64 (i : Int) ∧ kv = .int .i64 (c : Int) ∧ Hid (lst name i = c)) (fun kv iv => 90 - (intOf iv).toNat)
        case atStart => exact ⟨1, 0, by omega, by omega, rfl, rfl, Lib.hid rfl⟩
        case round =>
          obtain ⟨i, c, hi1, hi2, rfl, rfl, HC⟩ := hrel
          by_cases hlt : i < 89
          · have hRi := refName_any i hi1 (by omega)
            have hil : (i : Int) ≤ 88 := by omega
            by_cases hq : nmT.getD i [] = name
            · have hb := beq_true hq
              have hn : lst name (i + 1) = i := by unfold lst; rw [if_pos ⟨hi1, hq⟩]
              generalize nmT.getD i [] = t at *
              have HN := Lib.hid hn
              have HRi := Lib.hid hRi
              clear hn hq hRi
              go_wp2_with fail
              refine (HRi.out _).mono ?_
              rintro e w4 ⟨rfl, rfl⟩
              go_wp2
              go_round
              case rel => exact ⟨i + 1, i, by omega, by omega, by go_num, rfl, HN⟩
              case measure => simp [intOf] <;> omega
            · have hb := beq_false hq
              have hn : lst name (i + 1) = c := by rw [lst]; rw [if_neg (fun h => hq h.2)]; exact HC.out
              generalize nmT.getD i [] = t at *
              have HN := Lib.hid hn
              have HRi := Lib.hid hRi
              clear hn hq hRi
              go_wp2_with fail
              refine (HRi.out _).mono ?_
              rintro e w4 ⟨rfl, rfl⟩
              go_wp2
              go_round
              case rel => exact ⟨i + 1, c, by omega, by omega, by go_num, rfl, HN⟩
              case measure => simp [intOf] <;> omega
          · obtain rfl : i = 89 := by omega
            obtain rfl : c = R := by rw [← HC.out, HL.out]
            have hA := answers_any a w3 (HE.out.bl K3.out)
            have hb := HBO.out
            by_cases h0 : c = 0
            · subst h0
              obtain rfl : bo = false := by rw [hb]; decide
              clear hb HBO
              go_wp2_with fail
              refine hA.mono ?_
              rintro e w5 ⟨rfl, k5⟩
              have K5 := Lib.hid (K3.out.trans k5)
              clear k5 hA
              go_wp2
              go_ret
              exact ⟨rfl, K5.out⟩
            · obtain rfl : bo = true := by rw [hb]; simpa using h0
              have h1 : (0 : Int) < (c : Int) := by omega
              clear hb HBO
              go_wp2_with fail
              refine hA.mono ?_
              rintro e w5 ⟨rfl, k5⟩
              have K5 := Lib.hid (K3.out.trans k5)
              clear k5 hA
              go_wp2
              go_ret
              exact ⟨rfl, K5.out⟩
      · go_enter Tryz.func3, Tryz.ntmps3
        go_wp2_with fail
        refine hN.mono ?_
        rintro e w1 ⟨rfl, k1⟩
        have K1 := Lib.hid k1
        clear k1 hN
        go_wp2_with fail
        refine (HO.out _).mono ?_
        rintro e w3 ⟨rfl, k3⟩
        have K3 := Lib.hid (K1.out.trans k3)
        clear k3 HO K1
        go_wp2_with fail
        go_loop [9, 10] (fun kv iv => ∃ i c : Nat, 1 ≤ i ∧ i ≤ 89 ∧ iv = .int .i64 (i : Int) ∧ kv = .int .i64 (c : Int) ∧ Hid (lst name i = c)) (fun kv iv => 90 - (intOf iv).toNat)
        case atStart => exact ⟨1, 0, by omega, by omega, rfl, rfl, Lib.hid rfl⟩
        case round =>
          obtain ⟨i, c, hi1, hi2, rfl, rfl, HC⟩ := hrel
          by_cases hlt : i < 89
          · have hRi := refName_any i hi1 (by omega)
            have hil : (i : Int) ≤ 88 := by omega
            by_cases hq : nmT.getD i [] = name
            · have hb := beq_true hq
              have hn : lst name (i + 1) = i := by unfold lst; rw [if_pos ⟨hi1, hq⟩]
              generalize nmT.getD i [] = t at *
              have HN := Lib.hid hn
              have HRi := Lib.hid hRi
              clear hn hq hRi
              go_wp2_with fail
              refine (HRi.out _).mono ?_
              rintro e w4 ⟨rfl, rfl⟩
              go_wp2
              go_round
              case rel => exact ⟨i + 1, i, by omega, by omega, by go_num, rfl, HN⟩
              case measure => simp [intOf] <;> omega
            · have hb := beq_false hq
              have hn : lst name (i + 1) = c := by rw [lst]; rw [if_neg (fun h => hq h.2)]; exact HC.out
              generalize nmT.getD i [] = t at *
              have HN := Lib.hid hn
              have HRi := Lib.hid hRi
              clear hn hq hRi
              go_wp2_with fail
              refine (HRi.out _).mono ?_
              rintro e w4 ⟨rfl, rfl⟩
              go_wp2
              go_round
              case rel => exact ⟨i + 1, c, by omega, by omega, by go_num, rfl, HN⟩
              case measure => simp [intOf] <;> omega
          · obtain rfl : i = 89 := by omega
            obtain rfl : c = R := by rw [← HC.out, HL.out]
            have hA := answers_any a w3 (HE.out.bl K3.out)
            have hb := HBO.out
            by_cases h0 : c = 0
            · subst h0
              obtain rfl : bo = false := by rw [hb]; decide
              clear hb HBO
              go_wp2_with fail
              refine hA.mono ?_
              rintro e w5 ⟨rfl, k5⟩
              have K5 := Lib.hid (K3.out.trans k5)
              clear k5 hA
              go_wp2
              go_ret
              exact ⟨rfl, K5.out⟩
            · obtain rfl : bo = true := by rw [hb]; simpa using h0
              have h1 : (0 : Int) < (c : Int) := by omega
              clear hb HBO
              go_wp2_with fail
              refine hA.mono ?_
              rintro e w5 ⟨rfl, k5⟩
              have K5 := Lib.hid (K3.out.trans k5)
              clear k5 hA
              go_wp2
              go_ret
              exact ⟨rfl, K5.out⟩

set_option maxRecDepth 100000 in
theorem asmNames_lifted (os : Os) (started : os.Started) (H : Type) (enc : TypeId × Value → H) :
    ReturnsInHanded {} Tryz.checked os 3 .any (fun w args => (Rows.asmNamesSpec.pre enc Tryz.prog Tryz.f3 [] false w args ∧ laidMetH Tryz.prog laidA w) ∧ sizedMet enc Tryz.prog Tryz.f3 (OpenSpec.ofChange Rows.asmNamesSpec) false w args)
      (Rows.asmNamesSpec.post enc Tryz.prog Tryz.f3 false true false false) := by
  refine returnsIn_laid (C := Tryz.checked) (X := fun w _ => laidMetH Tryz.prog laidA w) (fun _ _ _ hh h => h.of_heap hh) own started (by kernel_rfl) Tryz.func3
    (ChangeSpec.witness_shaped (enc := enc) (C := Tryz.checked) (os := os) (X := fun w _ => laidMetH Tryz.prog laidA w) false (World.doorLaid Tryz.prog 181 os) #[.int .i64 0, .string ⟨#[]⟩] 8 rfl (World.shaped_of_RefB (by kernel_rfl) (by kernel_rfl)) (by kernel_rfl) (by kernel_rfl) (by kernel_rfl) (door_metA os _)) ?_
  intro W base args ds gs before hval0 hW hL hsh
  have hval : ∀ (j : Nat) t v, Tryz.f3.params[j]? = some t → args[j]? = some v → Value.okWide Tryz.prog W .any base t v := hval0
  have hW' := hW
  obtain ⟨p, q, hA0, hV, rfl, hfz, hnd⟩ := hW
  have hA : DataW.TrodAll enc Tryz.prog W 0 (fun _ => true) true Tryz.f3.params.toList args.toList ds p := hA0
  rw [Tryz.params3] at hA hval
  obtain ⟨v0, vs0, d0, ds0, p0, q0, hargs, rfl, rfl, h0, r0⟩ := trodAll_cons hA
  obtain ⟨v1, vs1, d1, ds1, p1, q1, rfl, rfl, rfl, h1, r1⟩ := trodAll_cons r0
  obtain ⟨rfl, rfl, rfl⟩ := trodAll_nil r1
  obtain rfl : args = #[v0, v1] := by cases args; simp_all
  obtain ⟨rfl, rfl⟩ := trodVars_none hV
  obtain ⟨op, rfl, rfl, rfl, hop⟩ := open_int Tryz.underlying3 (hval 0 3 v0 rfl rfl) h0
  obtain ⟨name, rfl, rfl, rfl, hname⟩ := ChangeMaps.open_string Tryz.underlying9 (hval 1 9 v1 rfl rfl) h1
  obtain ⟨ae, hEn⟩ := of_laidA hL (some_max hsh)
  clear hA0 hval0
  have hC := asmNames_walk op (i64_bd _ hop) name.data.toList (len_of hname) ae W hEn
  rw [← str_of name] at hC
  refine hC.mono fun e W' ⟨he, bel⟩ => ?_
  subst he
  exact ⟨_, rfl, _, _, _, [], _, [], hW', trodAll_mk1 (shut_bool Tryz.underlying4 _), (trodAll_cons_mk (shut_int Tryz.underlying3 hop) (trodAll_cons_mk (ChangeMaps.shut_string Tryz.underlying9 hname) trodAll_mk0)), rfl, bel.frame _, fun h => by cases h⟩

theorem asmNames_row : Rows.AsmNamesSaid :=
  OpenClaim.holds_of_wide 3 Tryz.f3 rfl rfl rfl rfl rfl rfl rfl ⟨rfl, rfl, rfl, rfl, rfl⟩ rfl rfl rfl rfl rfl (by kernel_rfl) Tryz.func3 (by kernel_rfl)
    (of_decide_eq_true (by kernel_rfl)) (by unfold Func.isWrapper; first | (rw [if_pos (by decide +kernel)]; kernel_rfl) | (rw [if_neg (by decide +kernel)]; exact ⟨rfl, rfl⟩))
    (fun os started H enc _ => asmNames_lifted os started H enc)

/-- The statement: the tied card. -/
theorem asmNames_holds : Rows.AsmNamesCardSaid :=
  Claim7.holds_tied_plain_at .later [] _ true _ true
    asmNames_row (fun _ h => by cases h) (by kernel_rfl) (fun _ h => by cases h) asmNames_row_tie rfl ⟨rfl, rfl⟩ (by kernel_rfl) rfl
    (fun f fn hf hfn => by
      obtain rfl : f = 3 := Option.some.inj ((show Tryz.prog.funcNamed "marionette/marionettelaw05.AsmNames" = some 3 by kernel_rfl).symm.trans hf) |>.symm
      obtain rfl : fn = Tryz.f3 := (Option.some.inj (Tryz.func3.symm.trans hfn)).symm
      exact ⟨by kernel_rfl, fun j t ht => by
        rw [Tryz.params3] at ht
        have hm : t ∈ [3, 9] := by simpa using Array.mem_of_getElem? ht
        have hall : ([3, 9].all fun u => !Tryz.prog.wantsStandIn u) = true := by kernel_rfl
        exact (show Tryz.prog.wantsStandIn t = false by simpa using List.all_eq_true.1 hall t hm)⟩)
    (by kernel_rfl)
#print axioms asmNames_holds

end Go.Proofs.YtionnhjldcpmjaaGreatDoor
