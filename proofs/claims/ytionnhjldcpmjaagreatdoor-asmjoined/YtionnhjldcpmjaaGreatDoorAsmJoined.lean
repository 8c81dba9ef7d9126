/-
  Law AsmJoined: for every two texts the law returns true: the bytes of both, one behind the other, are those of each. Tied card; the listed variables are those of the program text.
-/
import Derived.Test.YtionnhjldcpmjaaGreatDoorWrap
import Derived.Test.YtionnhjldcpmjaaGreatDoorJoin
import Derived.Test.YtionnhjldcpmjaaGreatDoorTie
import Derived.Test.YtionnhjldcpmjaaGreatDoorCards
import Derived.SevenTiedAt
set_option linter.unusedVariables false
set_option linter.unusedSimpArgs false
namespace Go.Proofs.YtionnhjldcpmjaaGreatDoor
open Go.RowKit

open Go.ChangeShapes Go.WideShapes Go.ChangeAt
theorem size_str (s : List UInt8) : ((⟨s.toArray⟩ : ByteArray).size : Int) = (s.length : Int) := by simp [ByteArray.size]

set_option maxRecDepth 100000 in
set_option maxHeartbeats 8000000 in
/-- The law's text returns true. -/
theorem asmJoined_walk (x : List UInt8) (hx : x.length ≤ 9223372036854775807) (y : List UInt8) (hy : y.length ≤ 9223372036854775807) (a : Addr) (w : World) (hE : Env a w) :
    Calls Tryz.prog 7 #[str x, str y] w fun e w' => e = .returned (.bool true) ∧ Bl w w' := by
  by_cases hbx : (2000 : Int) < (x.length : Int)
  · have hA := answers_any a w hE
    have hsx := size_str x
    have hsy := size_str y
    have HX := Lib.hid hx
    have HY := Lib.hid hy
    clear hE hx hy
    go_enter Tryz.func7, Tryz.ntmps7
    go_wp2_with fail
    refine hA.mono ?_
    rintro e w1 ⟨rfl, k1⟩
    have K1 := Lib.hid k1
    clear k1 hA
    go_wp2
    go_ret
    exact ⟨rfl, K1.out⟩
  by_cases hby : (2000 : Int) < (y.length : Int)
  · have hA := answers_any a w hE
    have hsx := size_str x
    have hsy := size_str y
    have HX := Lib.hid hx
    have HY := Lib.hid hy
    clear hE hx hy
    go_enter Tryz.func7, Tryz.ntmps7
    go_wp2_with fail
    refine hA.mono ?_
    rintro e w1 ⟨rfl, k1⟩
    have K1 := Lib.hid k1
    clear k1 hA
    go_wp2
    go_ret
    exact ⟨rfl, K1.out⟩
  have hlx : x.length ≤ 2000 := by omega
  have hly : y.length ≤ 2000 := by omega
  obtain ⟨xa, hxa⟩ : ∃ z, z = x ++ [10] := ⟨_, rfl⟩
  obtain ⟨xy, hxy⟩ : ∃ z, z = xa ++ y := ⟨_, rfl⟩
  have hla : xa.length = x.length + 1 := by rw [hxa]; simp
  have hlz : xy.length = x.length + 1 + y.length := by rw [hxy, List.length_append, hla]
  have add1 : ∀ w : World, (Op.stringOp .add ⟨x.toArray⟩ ⟨#[10]⟩).run Tryz.prog w = .ok (str xa) w := by
    rw [hxa]
    exact add_run x [10] ⟨by omega, by simp⟩
  have add2 : ∀ w : World, (Op.stringOp .add ⟨xa.toArray⟩ ⟨y.toArray⟩).run Tryz.prog w = .ok (str xy) w := by
    rw [hxy]
    exact add_run xa y ⟨by omega, by omega⟩
  have hJ := asmT_joined x y
  have he : x ++ 10 :: y = xy := by rw [hxy, hxa]; simp
  rw [he] at hJ
  have HJ := Lib.hid hJ
  have h1 := asm_tuple x a w hE (by omega)
  have h2 := fun w hE => asm_tuple y a w hE (by omega)
  have h3 := fun w hE => asm_tuple xy a w hE (by omega)
  have H2 := Lib.hid h2
  have H3 := Lib.hid h3
  have HE := Lib.hid hE
  have hsx := size_str x
  have hsy := size_str y
  have HLy := Lib.hid hly
  have hix := idxL x
  have HIX := Lib.hid hix
  clear h2 h3 hE hx hy hxa hxy hla hlz hJ he hly hix
  go_enter Tryz.func7, Tryz.ntmps7
  go_wp2_with fail
  refine h1.mono ?_
  rintro e w1 ⟨⟨A1, l1, c1, n1, e1, rfl, F1⟩, k1⟩
  have HF1 := Lib.hid F1
  have K1 := Lib.hid k1
  clear h1 F1 k1
  go_wp2_with fail
  refine (H2.out _ (HE.out.bl K1.out)).mono ?_
  rintro e w2 ⟨⟨A2, l2, c2, n2, e2, rfl, F2⟩, k2⟩
  have HF2 := Lib.hid F2
  have K2 := Lib.hid (K1.out.trans k2)
  have G2 := Lib.hid k2
  clear F2 k2 H2
  go_wp2_with fail
  refine (H3.out _ (HE.out.bl K2.out)).mono ?_
  rintro e w3 ⟨⟨A3, l3, c3, n3, e3, rfl, F3⟩, k3⟩
  have HF3 := Lib.hid F3
  have K3 := Lib.hid (K2.out.trans k3)
  have G3 := Lib.hid k3
  have G13 := Lib.hid (G2.out.trans k3)
  clear F3 k3 H3 G2 add1 add2 K1 K2
  go_wp2_with fail
  go_loop [14, 15] (fun lv iv => ∃ k c : Nat, k ≤ x.length ∧ c ≤ k ∧ lv = .int .i64 (1 + (c : Int)) ∧ iv = .int .i64 (k : Int) ∧ Hid ((x.take k).count 10 = c)) (fun lv iv => x.length - (intOf iv).toNat)
  case atStart => exact ⟨0, 0, by omega, by omega, by simp, rfl, Lib.hid (by simp)⟩
  case round =>
    obtain ⟨k, c, hk, hck, rfl, rfl, HC⟩ := hrel
    by_cases hlt : k < x.length
    · have hi := HIX.out k hlt
      have hst := count_step x k hlt
      rw [HC.out] at hst
      have hkl : (k : Int) < (x.length : Int) := by omega
      by_cases h10 : x.getD k 0 = 10
      · rw [if_pos h10] at hst
        have hb : ((x.getD k 0).toNat : Int) = 10 := by rw [h10]; rfl
        rw [hb] at hi
        have HST := Lib.hid hst
        clear hst h10 hb
        go_wp2
        go_round
        case rel => exact ⟨k + 1, c + 1, by omega, by omega, by go_num, by go_num, HST⟩
        case measure => simp [intOf] <;> omega
      · rw [if_neg h10] at hst
        have hb : (((x.getD k 0).toNat : Int) == 10) = false := by
          have : (x.getD k 0).toNat ≠ 10 := fun h => h10 (UInt8.toNat_inj.1 h)
          rw [beq_eq_false_iff_ne]
          omega
        have HST := Lib.hid hst
        clear hst h10
        generalize x.getD k 0 = by1 at *
        go_wp2
        go_round
        case rel => exact ⟨k + 1, c, by omega, by omega, by go_num, by go_num, HST⟩
        case measure => simp [intOf] <;> omega
    · obtain rfl : k = x.length := by omega
      have hcc := HC.out
      rw [List.take_length] at hcc
      have hJ := HJ.out
      rw [hcc] at hJ
      have HCC := Lib.hid hcc
      clear HIX HC hlt hcc
      have hE3 := HE.out.bl K3.out
      cases hR1 : asmT x with
      | bad m =>
        have f1 := HF1.out
        have f3 := HF3.out
        rw [hR1] at f1 hJ
        rw [hJ] at f3
        obtain ⟨rfl, rfl, rfl, rfl, rfl⟩ := f1
        obtain ⟨rfl, rfl, rfl, rfl, rfl⟩ := f3
        clear HF1 HF2 HF3 hJ HJ hR1
        have hA := answers_any a w3 hE3
        clear hE3
        go_wp2_with fail
        refine hA.mono ?_
        rintro e w4 ⟨rfl, k4⟩
        have K4 := Lib.hid (K3.out.trans k4)
        clear k4 hA
        go_wp2
        go_ret
        exact ⟨rfl, K4.out⟩
      | ok xs =>
        have f1 := HF1.out
        have f3 := HF3.out
        rw [hR1] at f1 hJ
        obtain ⟨hl1, rfl, rfl, rd1, cc1⟩ := f1
        have hn1 := asmT_len x xs hR1
        cases hR2 : asmT y with
        | bad m =>
          have f2 := HF2.out
          have hm := asmT_bad y m hR2
          rw [hR2] at f2 hJ
          dsimp only at hJ
          rw [hJ] at f3
          obtain ⟨rfl, rfl, rfl, rfl, rfl⟩ := f2
          obtain ⟨rfl, rfl, rfl, rfl, rfl⟩ := f3
          have hml : (m : Int) ≤ 2000 := by have := HLy.out; omega
          clear HF1 HF2 HF3 hJ HJ hR1 hR2 hl1 rd1 cc1 hn1 hm
          have hA := answers_any a w3 hE3
          have hq : (((m + (1 + c) : Nat) : Int) == 1 + (c : Int) + (m : Int)) = true := by rw [beq_iff_eq]; omega
          have hq2 : ((m + (1 + c) : Nat) : Int) = 1 + (c : Int) + (m : Int) := by omega
          rw [hq2]
          clear hE3 hq hq2
          go_wp2_with fail
          refine hA.mono ?_
          rintro e w4 ⟨rfl, k4⟩
          have K4 := Lib.hid (K3.out.trans k4)
          clear k4 hA
          go_wp2
          go_ret
          exact ⟨rfl, K4.out⟩
        | ok ys =>
          have f2 := HF2.out
          have hn2 := asmT_len y ys hR2
          rw [hR2] at f2 hJ
          dsimp only at hJ
          rw [hJ] at f3
          obtain ⟨hl2, rfl, rfl, rd2, cc2⟩ := f2
          obtain ⟨hl3, rfl, rfl, rd3, cc3⟩ := f3
          rw [List.length_append] at hl3
          have hly := HLy.out
          have hA := answers_any a w3 hE3
          have Rd1 := Lib.hid (rd1.below G13.out)
          have Rd2 := Lib.hid (rd2.below G3.out)
          have Rd3 := Lib.hid rd3
          have L1 := Lib.hid hl1
          have L2 := Lib.hid hl2
          have L3 := Lib.hid hl3
          have C1 := Lib.hid cc1
          have C2 := Lib.hid cc2
          have hb1 : l1 ≤ 16000 := by omega
          have hb2 : l2 ≤ 16000 := by omega
          obtain rfl : l3 = l1 + l2 := by omega
          clear HF1 HF2 HF3 hJ HJ hR1 hR2 hl1 rd1 cc1 hn1 hl2 rd2 cc2 hn2 hl3 rd3 cc3 hE3 hly
          go_wp2_with fail
          refine hA.mono ?_
          rintro e w4 ⟨rfl, k4⟩
          have K4 := Lib.hid (K3.out.trans k4)
          obtain ⟨v1, u1, C, ck, u2, run1, run2, rdz, bz⟩ := two_run w4 A1 A2 l1 l2 c1 c2 xs ys (Rd1.out.below k4) (Rd2.out.below k4) L1.out.symm L2.out.symm C1.out C2.out (by omega)
          have RdA := Lib.hid (Rd3.out.below (k4.trans bz))
          have RdZ := Lib.hid rdz
          have K5 := Lib.hid (K4.out.trans bz)
          clear k4 hA rdz bz
          go_wp2_with (first | (at_builtin; refine wpl_append_run rfl (.tmp 92) (.tmp 93) 38 rfl _ _ _ rfl rfl run1 ?_) | (at_builtin; refine wpl_append_run rfl (.tmp 94) (.tmp 95) 38 rfl _ _ _ rfl rfl run2 ?_))
          clear run1 run2
          refine (same_big A3 C (l1 + l2) c3 ck (xs ++ ys) _ RdA.out RdZ.out (by rw [List.length_append, ← L1.out, ← L2.out]) (by omega)).mono ?_
          rintro e w6 ⟨rfl, m, rfl⟩
          go_wp2
          go_ret
          exact ⟨rfl, K5.out.drewN m⟩

set_option maxRecDepth 100000 in
theorem asmJoined_lifted (os : Os) (started : os.Started) (H : Type) (enc : TypeId × Value → H) :
    ReturnsInHanded {} Tryz.checked os 7 .any (fun w args => (Rows.asmJoinedSpec.pre enc Tryz.prog Tryz.f7 [] false w args ∧ laidMetH Tryz.prog laidA w) ∧ sizedMet enc Tryz.prog Tryz.f7 (OpenSpec.ofChange Rows.asmJoinedSpec) false w args)
      (Rows.asmJoinedSpec.post enc Tryz.prog Tryz.f7 false true false false) := by
  refine returnsIn_laid (C := Tryz.checked) (X := fun w _ => laidMetH Tryz.prog laidA w) (fun _ _ _ hh h => h.of_heap hh) own started (by kernel_rfl) Tryz.func7
    (ChangeSpec.witness_shaped (enc := enc) (C := Tryz.checked) (os := os) (X := fun w _ => laidMetH Tryz.prog laidA w) false (World.doorLaid Tryz.prog 181 os) #[.string ⟨#[]⟩, .string ⟨#[]⟩] 8 rfl (World.shaped_of_RefB (by kernel_rfl) (by kernel_rfl)) (by kernel_rfl) (by kernel_rfl) (by kernel_rfl) (door_metA os _)) ?_
  intro W base args ds gs before hval0 hW hL hsh
  have hval : ∀ (j : Nat) t v, Tryz.f7.params[j]? = some t → args[j]? = some v → Value.okWide Tryz.prog W .any base t v := hval0
  have hW' := hW
  obtain ⟨p, q, hA0, hV, rfl, hfz, hnd⟩ := hW
  have hA : DataW.TrodAll enc Tryz.prog W 0 (fun _ => true) true Tryz.f7.params.toList args.toList ds p := hA0
  rw [Tryz.params7] at hA hval
  obtain ⟨v0, vs0, d0, ds0, p0, q0, hargs, rfl, rfl, h0, r0⟩ := trodAll_cons hA
  obtain ⟨v1, vs1, d1, ds1, p1, q1, rfl, rfl, rfl, h1, r1⟩ := trodAll_cons r0
  obtain ⟨rfl, rfl, rfl⟩ := trodAll_nil r1
  obtain rfl : args = #[v0, v1] := by cases args; simp_all
  obtain ⟨rfl, rfl⟩ := trodVars_none hV
  obtain ⟨x, rfl, rfl, rfl, hx⟩ := ChangeMaps.open_string Tryz.underlying9 (hval 0 9 v0 rfl rfl) h0
  obtain ⟨y, rfl, rfl, rfl, hy⟩ := ChangeMaps.open_string Tryz.underlying9 (hval 1 9 v1 rfl rfl) h1
  obtain ⟨ae, hEn⟩ := of_laidA hL (some_max hsh)
  clear hA0 hval0
  have hC := asmJoined_walk x.data.toList (len_of hx) y.data.toList (len_of hy) ae W hEn
  rw [← str_of x] at hC
  rw [← str_of y] at hC
  refine hC.mono fun e W' ⟨he, bel⟩ => ?_
  subst he
  exact ⟨_, rfl, _, _, _, [], _, [], hW', trodAll_mk1 (shut_bool Tryz.underlying4 _), (trodAll_cons_mk (ChangeMaps.shut_string Tryz.underlying9 hx) (trodAll_cons_mk (ChangeMaps.shut_string Tryz.underlying9 hy) trodAll_mk0)), rfl, bel.frame _, fun h => by cases h⟩

theorem asmJoined_row : Rows.AsmJoinedSaid :=
  OpenClaim.holds_of_wide 7 Tryz.f7 rfl rfl rfl rfl rfl rfl rfl ⟨rfl, rfl, rfl, rfl, rfl⟩ rfl rfl rfl rfl rfl (by kernel_rfl) Tryz.func7 (by kernel_rfl)
    (of_decide_eq_true (by kernel_rfl)) (by unfold Func.isWrapper; first | (rw [if_pos (by decide +kernel)]; kernel_rfl) | (rw [if_neg (by decide +kernel)]; exact ⟨rfl, rfl⟩))
    (fun os started H enc _ => asmJoined_lifted os started H enc)

/-- The statement: the tied card. -/
theorem asmJoined_holds : Rows.AsmJoinedCardSaid :=
  Claim7.holds_tied_plain_at .later [] _ true _ true
    asmJoined_row (fun _ h => by cases h) (by kernel_rfl) (fun _ h => by cases h) asmJoined_row_tie rfl ⟨rfl, rfl⟩ (by kernel_rfl) rfl
    (fun f fn hf hfn => by
      obtain rfl : f = 7 := Option.some.inj ((show Tryz.prog.funcNamed "marionette/marionettelaw05.AsmJoined" = some 7 by kernel_rfl).symm.trans hf) |>.symm
      obtain rfl : fn = Tryz.f7 := (Option.some.inj (Tryz.func7.symm.trans hfn)).symm
      exact ⟨by kernel_rfl, fun j t ht => by
        rw [Tryz.params7] at ht
        have hm : t ∈ [9, 9] := by simpa using Array.mem_of_getElem? ht
        have hall : ([9, 9].all fun u => !Tryz.prog.wantsStandIn u) = true := by kernel_rfl
        exact (show Tryz.prog.wantsStandIn t = false by simpa using List.all_eq_true.1 hall t hm)⟩)
    (by kernel_rfl)
#print axioms asmJoined_holds

end Go.Proofs.YtionnhjldcpmjaaGreatDoor
