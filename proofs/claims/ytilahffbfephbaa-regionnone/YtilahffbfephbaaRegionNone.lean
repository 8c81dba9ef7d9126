/-
  For all pages and places the law RegionNone returns true: a nil list answers nothing, and a copy of a list is its own. No condition.
-/
import Derived.Test.YtilahffbfephbaaRows
import Derived.Test.YtilahffbfephbaaRefE
import Derived.Test.YtilahffbfephbaaRegO
import Derived.Deep.Cut
import Derived.WalkKit
import Derived.ProofKit
import Derived.OpenShut
import Derived.ShutString
import Derived.ChangeOld
import Derived.Below
namespace Go.Proofs.Ytilahffbfephbaa.regionNone
open Go.ChangeShapes Go.WideShapes Go.ChangeAt Go.RowKit
open Go.ChangeMaps (open_string shut_string)
set_option linter.unusedVariables false
set_option linter.unusedSimpArgs false
set_option maxRecDepth 100000

theorem own : ownKnob Try.prog.godebug = none := by kernel_rfl
theorem laidOut : laidOutB Try.prog = true := by kernel_rfl

/-- WHAT THE WALK IS TOLD OF A SLICE OF INTEGERS THAT CAME IN: it is nil; or it leads to a row of 'cap' cells, the numbers 'zs' (the first 'len' are its elements, the rest its spare room), each fitting its kind. -/
def IsRow (k : IntKind) (w : World) (a : Option Addr) (len cap : Nat) (zs : List Int) : Prop :=
  (a = none ∧ len = 0 ∧ cap = 0 ∧ zs = []) ∨
  ∃ x, a = some x ∧ len ≤ cap ∧ cap ≤ maxLen ∧ zs.length = cap ∧ (∀ i, i < zs.length → w.cell? (x.add i) = some (.int k (zs.getD i 0))) ∧ ∀ n ∈ zs, (Lit.int k n).wf = true

/-! ### The walk: the Go text returns true -/
set_option maxHeartbeats 8000000 in
theorem walk (a0 : Option Addr) (len0 cap0 : Nat) (z0 : List Int) (a1 : Int) (a2 : Int) (w : World) (w0 : IsRow .u8 w a0 len0 cap0 z0) (w1 : (Lit.int .u64 a1).wf = true) (w2 : (Lit.int .u64 a2).wf = true) :
    Calls Try.prog 7 #[.slice a0 len0 cap0, .int .u64 a1, .int .u64 a2] w fun e w' => e = .returned (.bool true) ∧ Below w.heap.size w w' := by
  obtain ⟨hby, hlen⟩ := isRow_byts w0
  clear w0 w1 w2
  go_enter Try.func7, Try.ntmps7
  go_wp2_with fail
  refine (built_any _ _ _ _ hby hlen).mono ?_
  rintro e n0 ⟨b, sb, P, rfl, hbo⟩
  have HBO0 := Lib.hid hbo; clear hbo hby hlen
  unfold addr0
  go_wp2_with fail
  refine (at_nil _ _).mono ?_
  rintro e n1 ⟨rfl, k1⟩
  have HBO1 := Lib.hid (HBO0.out.next (k1.alloc (.cells #[.int .u64 0, .int .u64 0, .int .i64 0] 51))); clear k1 HBO0
  unfold rgV
  go_wp2_with fail
  refine (first_nil _ _ _ _).mono ?_
  rintro e n2 ⟨rfl, k2⟩
  have HBO2 := Lib.hid (HBO1.out.next k2); clear k2 HBO1
  go_wp2_with fail
  refine (room_nil _ _ _).mono ?_
  rintro e n3 ⟨rfl, k3⟩
  have HBO3 := Lib.hid (HBO2.out.next k3); clear k3 HBO2
  go_wp2_with fail
  refine (answers_any _).mono ?_
  rintro e n4 ⟨rfl, k4⟩
  have HBO4 := Lib.hid (HBO3.out.next k4); clear k4 HBO3
  go_wp2_with fail
  refine (map_nil _ _ _ _).mono ?_
  rintro e n5 ⟨rfl, k5⟩
  have HBO5 := Lib.hid (HBO4.out.next k5); clear k5 HBO4
  go_wp2_with fail
  refine (unmap_nil _ _ _).mono ?_
  rintro e n6 ⟨rfl, k6⟩
  have HBO6 := Lib.hid (HBO5.out.next k6); clear k6 HBO5
  go_wp2_with fail
  refine (protect_nil _ _ _ _).mono ?_
  rintro e n7 ⟨rfl, k7⟩
  have HBO7 := Lib.hid (HBO6.out.next k7); clear k7 HBO6
  go_wp2_with fail
  refine (free_nil _ _ _).mono ?_
  rintro e n8 ⟨rfl, k8⟩
  have HBO8 := Lib.hid (HBO7.out.next k8); clear k8 HBO7
  go_wp2_with fail
  refine (all_nil _).mono ?_
  rintro e n9 ⟨rfl, k9⟩
  have HBO9 := Lib.hid (HBO8.out.next k9); clear k9 HBO8
  go_wp2_with fail
  refine (pages_nil _).mono ?_
  rintro e n10 ⟨rfl, k10⟩
  have HBO10 := Lib.hid (HBO9.out.next k10); clear k10 HBO9
  go_wp2_with fail
  refine (copy_nil _).mono ?_
  rintro e n11 ⟨rfl, k11⟩
  have HBO11 := Lib.hid (HBO10.out.next k11); clear k11 HBO10
  have hlr := Lib.hid (regs_len HBO11.out.pgs)
  go_wp2_with fail
  refine (all_any HBO11.out.list (by have := hlr.out; omega)).mono ?_
  rintro e n12 ⟨vb, rfl, rb, k12⟩
  have HBO12 := Lib.hid (HBO11.out.next k12); clear k12 HBO11
  have RB := Lib.hid rb; clear rb
  go_wp2_with fail
  refine (copy_any HBO12.out.list (by have := hlr.out; omega)).mono ?_
  rintro e n13 ⟨cb, rfl, hcb, lc, k13⟩
  have HBO13 := Lib.hid (HBO12.out.next k13)
  have RB13 := Lib.hid (RB.out.bl k13)
  have HCB := Lib.hid hcb; clear hcb
  have LC := Lib.hid lc; clear lc
  have RB12 := RB
  have KC := Lib.hid k13; clear k13
  unfold addr0
  have hsp : Span 0 409600 := ⟨by omega, by omega, by omega, by omega⟩
  have HSP := Lib.hid hsp; clear hsp
  have heq : layL (regs P) 0 409600 [⟨0, 409600, 3⟩] = [⟨0, 409600, 3⟩] := by
    have hp := HBO13.out.pgs
    refine ((regs_rs hp).lay (by omega) HSP.out).eq (one_rs (by omega) HSP.out) fun a q => ?_
    rw [lay_in (regs_rs hp) (by omega) HSP.out, In_one, regs_in hp]
    constructor
    · rintro (h | ⟨h1, h2⟩)
      · exact h
      · have := onP_lt hp h2; omega
    · exact .inl
  have HEQ := Lib.hid heq; clear heq
  go_wp2_with fail
  refine (map_ok LC.out 0 409600 3 (by omega) HSP.out (by omega) (by omega) (by have := hlr.out; omega) (by rw [HEQ.out]; simp)).mono ?_
  rintro e n14 ⟨rfl, lc2, f14⟩
  rw [HEQ.out] at lc2
  have k14 : Bl n12 n14 := Fr.only_new KC.out f14 HCB.out
  have LC2 := Lib.hid lc2; clear lc2
  have HBO14 : Hid (Both w b sb P n14) := Lib.hid (HBO12.out.next k14)
  have RB14 := Lib.hid (RB12.out.bl k14); clear k14 f14
  go_wp2_with fail
  refine (all_any HBO14.out.list (by have := hlr.out; omega)).mono ?_
  rintro e n15 ⟨vo, rfl, ro, k15⟩
  obtain ⟨A, cap, hvo⟩ := ro.shape
  subst hvo
  obtain ⟨n, hn⟩ : ∃ n, n = (regs P).length := ⟨_, rfl⟩
  have hro := ro.1
  rw [← hn] at hro hlr ⊢
  have hnI : (n : Int) ≤ 100 := by have := hlr.out; omega
  have HRO := Lib.hid hro; clear hro ro
  have HN := Lib.hid hn; clear hn
  have K15 := Lib.hid k15; clear k15
  go_wp2_with fail
  go_loopw [19] (fun i wr => ∃ (k : Nat) (xs : List Value), k ≤ n ∧ i = .int .i64 k ∧ wr.ownsRow n14.heap.size 51 3 (.slice A n cap) n xs ∧ Bl n14 wr) (fun i _ => n - (intOf i).toNat)
  case atStart => exact ⟨0, _, by omega, rfl, HRO.out, K15.out⟩
  case round =>
    obtain ⟨k, xs, hk, rfl, hown, hbl⟩ := hrel
    have HBL := Lib.hid hbl; clear hbl
    have hkI : (k : Int) ≤ (n : Int) := by omega
    by_cases hlt : k < n
    · obtain ⟨g, hA, hgb⟩ : ∃ g, A = some ⟨g, 0, none⟩ ∧ n14.heap.size ≤ g := by
        rcases hown.2 with ⟨h1, h2⟩ | ⟨g, c', cur, h1, h2, _⟩
        · omega
        · exact ⟨g, by injection h1, h2⟩
      subst hA
      have hl3 := hown.1
      obtain ⟨z, hcell⟩ : ∃ z, wr.cell? ⟨g, k * 3 + 2, none⟩ = some z := ⟨xs[k * 3 + 2]'(by omega), by rw [hown.cellAt (k * 3 + 2) (by omega), List.getElem?_eq_getElem (by omega)]⟩
      have hfz := hown.frozenAt (k * 3 + 2)
      have hst := (hown.stored (k * 3 + 2) (.int .i64 9)).1
      have hltI : (k : Int) < (n : Int) := by omega
      have HST := Lib.hid hst; clear hst hown hl3
      go_wp2_with fail
      refine ⟨⟨k + 1, _, by omega, by go_num, HST.out, HBL.out.set hgb _⟩, ?_⟩
      simp only [intOf]; omega
    · have hge : (n : Int) ≤ (k : Int) := by omega
      clear hown
      have HBO15 := Lib.hid (HBO14.out.next HBL.out)
      have RB15 := Lib.hid (RB14.out.bl HBL.out)
      have LC15 := Lib.hid (LC2.out.bl HBL.out)
      go_wp2_with fail
      refine (all_any HBO15.out.list (by have := HN.out; omega)).mono ?_
      rintro e n16 ⟨v16, rfl, r16, k16⟩
      have HBO16 := Lib.hid (HBO15.out.next k16)
      have RB16 := Lib.hid (RB15.out.bl k16)
      have LC16 := Lib.hid (LC15.out.bl k16); clear k16
      have R16 := Lib.hid r16; clear r16
      go_wp2_with fail
      refine (same_any R16.out RB16.out (by have := HN.out; omega)).mono ?_
      rintro e n17 ⟨rfl, k17⟩
      have HBO17 := Lib.hid (HBO16.out.next k17)
      have LC17 := Lib.hid (LC16.out.bl k17); clear k17
      go_wp2_with fail
      refine (pages_any LC17.out (one_rs (by omega) HSP.out).nm.so (by simp)).mono ?_
      rintro e n18 ⟨rfl, k18⟩
      have HBO18 := Lib.hid (HBO17.out.next k18); clear k18
      have ht : tot [⟨0, 409600, 3⟩] / 4096 = 100 := by simp [tot]
      rw [ht]; clear ht
      go_wp2_with fail
      go_ret
      exact ⟨rfl, HBO18.out.bl⟩

/-! ### The row's step -/
set_option maxRecDepth 100000 in
theorem lifted (os : Os) (started : os.Started) (H : Type) (enc : TypeId × Value → H) :
    ReturnsInHanded {} Try.checked os 7 .any (Rows.regionNoneSpec.pre6 enc Try.prog Try.f7 Rows.regionNoneRow.domain false) (Rows.regionNoneSpec.post enc Try.prog Try.f7 false true false false) := by
  refine returnsInHanded_of_change (C := Try.checked) own started (by kernel_rfl) Try.func7
    (ChangeSpec.witness6 (enc := enc) (C := Try.checked) false ⟨#[], #[.slice none 0 0, .int .u64 0, .int .u64 0], []⟩ 8 (by kernel_rfl) (by kernel_rfl) (by kernel_rfl) (by kernel_rfl)) ?_
  intro W base args ds gs before hval0 hW hcnd _
  have hval : ∀ (j : Nat) t v, Try.f7.params[j]? = some t → args[j]? = some v → Value.okWide Try.prog W .any base t v := hval0
  have hW' := hW
  obtain ⟨p, q, hA0, hV, rfl, hfz, hnd⟩ := hW
  have hA : DataW.TrodAll enc Try.prog W 0 (fun _ => true) true Try.f7.params.toList args.toList ds p := hA0
  rw [Try.params7] at hA hval
  obtain ⟨v0, vs0, d0, ds0, p0, q0, hargs, rfl, rfl, h0, r0⟩ := trodAll_cons hA
  obtain ⟨v1, vs1, d1, ds1, p1, q1, rfl, rfl, rfl, h1, r1⟩ := trodAll_cons r0
  obtain ⟨v2, vs2, d2, ds2, p2, q2, rfl, rfl, rfl, h2, r2⟩ := trodAll_cons r1
  obtain ⟨rfl, rfl, rfl⟩ := trodAll_nil r2
  obtain rfl : args = #[v0, v1, v2] := by cases args; simp_all
  obtain ⟨rfl, rfl⟩ := trodVars_none hV
  obtain ⟨a0, len0, cap0, rfl⟩ := okWide_slice Try.underlying46 (hval 0 46 v0 rfl rfl)
  have k0 := h0
  have lt0 : ∀ x ∈ p0, x.block < W.heap.size := by obtain ⟨m, hm⟩ := k0; exact DataW.trod_lt m _ _ _ hm
  obtain ⟨z0, w0⟩ : ∃ zs, IsRow .u8 W a0 len0 cap0 zs := by
    obtain ⟨fuel, hf⟩ := h0
    rcases open_ints Try.underlying46 Try.underlying5 (by kernel_rfl) hf with ⟨hcs, _⟩ | ⟨x, l, c, zs, hcs, _, hl, hm, hz, _, hcell, hwz⟩
    · simp [Value.cells] at hcs
      obtain ⟨rfl, rfl, rfl⟩ := hcs
      exact ⟨[], .inl ⟨rfl, rfl, rfl, rfl⟩⟩
    · simp [Value.cells] at hcs
      obtain ⟨rfl, rfl, rfl⟩ := hcs
      exact ⟨zs, .inr ⟨_, rfl, hl, hm, by simpa using hz, hcell, hwz⟩⟩
  obtain ⟨a1, rfl, rfl, rfl, w1⟩ := open_int Try.underlying30 (hval 1 30 v1 rfl rfl) h1
  obtain ⟨a2, rfl, rfl, rfl, w2⟩ := open_int Try.underlying30 (hval 2 30 v2 rfl rfl) h2
  clear hA0 hval0
  refine (walk a0 len0 cap0 z0 a1 a2 W w0 w1 w2).mono fun e W' ⟨he, bel⟩ => ?_
  subst he
  exact ⟨_, rfl, _, _, _, [], _, [], hW', trodAll_mk1 (shut_bool Try.underlying4 _), (trodAll_cons_mk (Below.trod laidOut (by kernel_rfl) (of_decide_eq_true (by kernel_rfl)) k0 bel lt0) (trodAll_cons_mk (shut_int Try.underlying30 w1) (trodAll_cons_mk (shut_int Try.underlying30 w2) trodAll_mk0))), rfl, bel.frame _, fun h => by cases h⟩

theorem over : Rows.regionNoneRow.holds Try.pinned (OpenSpec.ofChange Rows.regionNoneSpec) :=
  OpenClaim.holds_of_wide 7 Try.f7 rfl rfl rfl rfl rfl rfl rfl ⟨rfl, rfl, rfl, rfl, rfl⟩ rfl rfl rfl rfl rfl (by kernel_rfl) Try.func7 (by kernel_rfl)
    (of_decide_eq_true (by kernel_rfl)) (by unfold Func.isWrapper; first | (rw [if_pos (by decide +kernel)]; kernel_rfl) | (rw [if_neg (by decide +kernel)]; exact ⟨rfl, rfl⟩))
    (fun os started H enc _ => lifted os started H enc)

/-- The statement. -/
theorem proved : Rows.RegionNoneSaid := over
end Go.Proofs.Ytilahffbfephbaa.regionNone

namespace Go.Proofs.Ytilahffbfephbaa
/-- The statement, proved. -/
theorem regionNone_holds : Rows.RegionNoneSaid := regionNone.proved
#print axioms regionNone_holds
end Go.Proofs.Ytilahffbfephbaa
