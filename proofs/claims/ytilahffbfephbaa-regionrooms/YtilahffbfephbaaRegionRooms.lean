/-
  For all pages, sizes and bounds the law RegionRooms returns true: the list finds just the room that the space page by page finds. No condition.
-/
import Derived.Test.YtilahffbfephbaaRows
import Derived.Test.YtilahffbfephbaaRoomB
import Derived.Deep.Cut
import Derived.WalkKit
import Derived.ProofKit
import Derived.OpenShut
import Derived.ShutString
import Derived.ChangeOld
import Derived.Below
namespace Go.Proofs.Ytilahffbfephbaa.regionRooms
open Go.ChangeShapes Go.WideShapes Go.ChangeAt Go.RowKit
open Go.ChangeMaps (open_string shut_string)
set_option linter.unusedVariables false
set_option linter.unusedSimpArgs false
set_option maxRecDepth 100000

theorem own : ownKnob Try.prog.godebug = none := by kernel_rfl
theorem laidOut : laidOutB Try.prog = true := by kernel_rfl

/-- WHAT THE WALK IS TOLD OF A SLICE OF INTEGERS THAT CAME IN: it is nil; or it leads to a row of 'cap' cells, the numbers 'zs' (the first 'len' are its elements, the rest its spare room), each fitting its kind. -/
def IsRow (k : IntKind) (w : World) (a : Option Addr) (len cap : Nat) (zs : List Int) : Prop :=
  (a = none ∧ len = 0 ∧ cap = 0 ∧ zs = []) ∨
  ∃ x, a = some x ∧ len ≤ cap ∧ cap ≤ maxLen ∧ zs.length = cap ∧ (∀ i, i < zs.length → w.cell? (x.add i) = some (.int k (zs.getD i 0))) ∧ ∀ n ∈ zs, (Lit.int k n).wf = true

theorem maybe_zero (w : World) : Calls Try.prog 33 #[.int .u64 0] w fun e w' => e = .returned (.int .u64 1) ∧ w = w' := by
  go_enter Try.func33, Try.ntmps33
  go_wp2
  go_ret
  exact ⟨rfl, rfl⟩
theorem maybe_pos (n : Int) (w : World) (h : n ≠ 0) : Calls Try.prog 33 #[.int .u64 n] w fun e w' => e = .returned (.int .u64 0) ∧ w = w' := by
  have t : (n == 0) = false := by simp [h]
  clear h
  go_enter Try.func33, Try.ntmps33
  go_wp2
  go_ret
  exact ⟨rfl, rfl⟩
theorem maybe_any (n : Int) (w : World) : Calls Try.prog 33 #[.int .u64 n] w fun e w' => e = .returned (.int .u64 (if n = 0 then 1 else 0)) ∧ w = w' := by
  by_cases h : n = 0
  · subst h; exact maybe_zero w
  · rw [if_neg h]; exact maybe_pos n w h
theorem up_maybe (n : Int) (h : 0 ≤ n) : (n + (if n = 0 then 1 else 0) + 4095) / 4096 * 4096 = szOf n := by
  unfold szOf
  split <;> omega

/-! ### The walk: the Go text returns true -/
set_option maxHeartbeats 8000000 in
theorem walk (a0 : Option Addr) (len0 cap0 : Nat) (z0 : List Int) (a1 : Int) (a2 : Int) (w : World) (w0 : IsRow .u8 w a0 len0 cap0 z0) (w1 : (Lit.int .u64 a1).wf = true) (w2 : (Lit.int .u64 a2).wf = true) :
    Calls Try.prog 5 #[.slice a0 len0 cap0, .int .u64 a1, .int .u64 a2] w fun e w' => e = .returned (.bool true) ∧ Below w.heap.size w w' := by
  obtain ⟨hby, hlen⟩ := isRow_byts w0
  have hp1 : 0 ≤ a1 ∧ a1 ≤ 18446744073709551615 := by
    have h4 : (decide ((0 : Int) ≤ a1) && decide (a1 ≤ 18446744073709551615)) = true := w1
    simpa only [Bool.and_eq_true, decide_eq_true_eq] using h4
  have hp2 : 0 ≤ a2 ∧ a2 ≤ 18446744073709551615 := by
    have h4 : (decide ((0 : Int) ≤ a2) && decide (a2 ≤ 18446744073709551615)) = true := w2
    simpa only [Bool.and_eq_true, decide_eq_true_eq] using h4
  obtain ⟨p1, p2⟩ := hp1
  obtain ⟨p3, p4⟩ := hp2
  clear w0 w1 w2
  have s1 : 0 ≤ a1 % 50000 := by omega
  have s2 : a1 % 50000 < 50000 := by omega
  have l1 : 0 ≤ a2 % 300000 := by omega
  have l2 : a2 % 300000 < 300000 := by omega
  go_enter Try.func5, Try.ntmps5
  go_wp2_with fail
  refine (built_any _ _ _ _ hby hlen).mono ?_
  rintro e n0 ⟨b, sb, P, rfl, hbo⟩
  have HBO0 := Lib.hid hbo; clear hbo hby hlen
  unfold addr0
  go_wp2_with fail
  refine (answers_any _).mono ?_
  rintro e n1 ⟨rfl, k1⟩
  have HBO1 := Lib.hid (HBO0.out.next k1); clear k1 HBO0
  by_cases hbig : a1 ≤ 274877906944
  · go_wp2_with fail
    refine (room_any HBO1.out.list (regs_rs HBO1.out.pgs) (by have := regs_len HBO1.out.pgs; omega) a1 a2 p1 hbig p3 p4).mono ?_
    rintro e n2 ⟨x, ok, rfl, hr2, k2⟩
    have HBO2 := Lib.hid (HBO1.out.next k2); clear k2 HBO1
    have HR2 := Lib.hid hr2; clear hr2
    go_wp2_with fail
    refine (rroom_any HBO2.out.space HBO2.out.pgs a1 a2 p1 hbig p3 p4).mono ?_
    rintro e n3 ⟨x', ok', rfl, hr3, k3⟩
    have HBO := Lib.hid (HBO2.out.next k3); clear k3 HBO2
    obtain ⟨rfl, rfl⟩ := room_unique HR2.out hr3
    clear hr3 HR2
    rcases ok with _ | _
    · go_upto_region 9 with (fail)
      generalize hsv : a1 % 50000 = sv at s1 s2
      generalize hlw : a2 % 300000 = lw at l1 l2
      clear hsv hlw
      go_wp2_with fail
      refine (room_any HBO.out.list (regs_rs HBO.out.pgs) (by have := regs_len HBO.out.pgs; omega) sv lw s1 (by omega) l1 (by omega)).mono ?_
      rintro e n5 ⟨c, fine, rfl, hr5, k5⟩
      have HBO5 := Lib.hid (HBO.out.next k5); clear k5 HBO
      have HR5 := Lib.hid hr5; clear hr5
      go_wp2_with fail
      refine (rroom_any HBO5.out.space HBO5.out.pgs sv lw s1 (by omega) l1 (by omega)).mono ?_
      rintro e n6 ⟨c', fine', rfl, hr6, k6⟩
      have HBO6 := Lib.hid (HBO5.out.next k6); clear k6 HBO5
      obtain ⟨rfl, rfl⟩ := room_unique HR5.out hr6
      clear hr6
      rcases fine with _ | _
      · go_wp2_with fail
        go_ret
        exact ⟨rfl, HBO6.out.bl⟩
      · obtain ⟨f1, f2, f3, f4⟩ : c % 4096 = 0 ∧ 4096 ≤ c ∧ c + szOf sv ≤ belOf lw ∧ FreeIn (regs P) c (c + szOf sv) := by
          rcases HR5.out with ⟨_, a, b', c', d, _⟩ | ⟨h, _⟩
          · exact ⟨a, b', c', d⟩
          · cases h
        obtain ⟨z1, z2, z3⟩ := szOf_facts sv s1 (by omega)
        obtain ⟨y1, y2, y3⟩ := belOf_facts lw l1
        have hbl : belOf lw ≤ lw := by unfold belOf; omega
        have hsp : Span c (c + szOf sv) := ⟨f1, by omega, by omega, by omega⟩
        have HSP := Lib.hid hsp; clear hsp
        have HF4 := Lib.hid f4; clear f4 f1 z1 y1
        have hmu := up_maybe sv s1
        have HMU := Lib.hid hmu; clear hmu
        have hm0 : 0 ≤ (if sv = 0 then (1 : Int) else 0) ∧ (if sv = 0 then (1 : Int) else 0) ≤ 1 := by split <;> omega
        obtain ⟨hm1, hm2⟩ := hm0
        have cm := fun W => maybe_any sv W
        have CM := Lib.hid cm; clear cm
        generalize (if sv = 0 then (1 : Int) else 0) = mv at *
        have cu := fun W => up_any (sv + mv) W (by omega) (by omega)
        simp only [HMU.out] at cu
        have CU := Lib.hid cu; clear cu
        have f5 : c + szOf sv ≤ lw := by omega
        generalize szOf sv = sz at *
        have f6 : decide (c + sz ≤ lw) = true := by simp [f5]
        go_wp2_with fail
        refine (CM.out _).mono ?_
        rintro e w' ⟨rfl, rfl⟩
        go_wp2_with fail
        refine (CU.out _).mono ?_
        rintro e w' ⟨rfl, rfl⟩
        go_wp2_with fail
        refine (free_any HBO6.out.list (regs_rs HBO6.out.pgs).nm.so c (c + sz) (by omega) HSP.out (by have := regs_len HBO6.out.pgs; omega) true ⟨fun _ => HF4.out, fun _ => rfl⟩).mono ?_
        rintro e n7 ⟨rfl, k7⟩
        have HBO7 := Lib.hid (HBO6.out.next k7); clear k7
        go_wp2_with fail
        refine (CM.out _).mono ?_
        rintro e w' ⟨rfl, rfl⟩
        go_wp2_with fail
        refine (CU.out _).mono ?_
        rintro e w' ⟨rfl, rfl⟩
        go_wp2_with fail
        go_ret
        exact ⟨rfl, HBO7.out.bl⟩
    · go_upto_region 9 with (fail)
      generalize hsv : a1 % 50000 = sv at s1 s2
      generalize hlw : a2 % 300000 = lw at l1 l2
      clear hsv hlw
      go_wp2_with fail
      refine (room_any HBO.out.list (regs_rs HBO.out.pgs) (by have := regs_len HBO.out.pgs; omega) sv lw s1 (by omega) l1 (by omega)).mono ?_
      rintro e n5 ⟨c, fine, rfl, hr5, k5⟩
      have HBO5 := Lib.hid (HBO.out.next k5); clear k5 HBO
      have HR5 := Lib.hid hr5; clear hr5
      go_wp2_with fail
      refine (rroom_any HBO5.out.space HBO5.out.pgs sv lw s1 (by omega) l1 (by omega)).mono ?_
      rintro e n6 ⟨c', fine', rfl, hr6, k6⟩
      have HBO6 := Lib.hid (HBO5.out.next k6); clear k6 HBO5
      obtain ⟨rfl, rfl⟩ := room_unique HR5.out hr6
      clear hr6
      rcases fine with _ | _
      · go_wp2_with fail
        go_ret
        exact ⟨rfl, HBO6.out.bl⟩
      · obtain ⟨f1, f2, f3, f4⟩ : c % 4096 = 0 ∧ 4096 ≤ c ∧ c + szOf sv ≤ belOf lw ∧ FreeIn (regs P) c (c + szOf sv) := by
          rcases HR5.out with ⟨_, a, b', c', d, _⟩ | ⟨h, _⟩
          · exact ⟨a, b', c', d⟩
          · cases h
        obtain ⟨z1, z2, z3⟩ := szOf_facts sv s1 (by omega)
        obtain ⟨y1, y2, y3⟩ := belOf_facts lw l1
        have hbl : belOf lw ≤ lw := by unfold belOf; omega
        have hsp : Span c (c + szOf sv) := ⟨f1, by omega, by omega, by omega⟩
        have HSP := Lib.hid hsp; clear hsp
        have HF4 := Lib.hid f4; clear f4 f1 z1 y1
        have hmu := up_maybe sv s1
        have HMU := Lib.hid hmu; clear hmu
        have hm0 : 0 ≤ (if sv = 0 then (1 : Int) else 0) ∧ (if sv = 0 then (1 : Int) else 0) ≤ 1 := by split <;> omega
        obtain ⟨hm1, hm2⟩ := hm0
        have cm := fun W => maybe_any sv W
        have CM := Lib.hid cm; clear cm
        generalize (if sv = 0 then (1 : Int) else 0) = mv at *
        have cu := fun W => up_any (sv + mv) W (by omega) (by omega)
        simp only [HMU.out] at cu
        have CU := Lib.hid cu; clear cu
        have f5 : c + szOf sv ≤ lw := by omega
        generalize szOf sv = sz at *
        have f6 : decide (c + sz ≤ lw) = true := by simp [f5]
        go_wp2_with fail
        refine (CM.out _).mono ?_
        rintro e w' ⟨rfl, rfl⟩
        go_wp2_with fail
        refine (CU.out _).mono ?_
        rintro e w' ⟨rfl, rfl⟩
        go_wp2_with fail
        refine (free_any HBO6.out.list (regs_rs HBO6.out.pgs).nm.so c (c + sz) (by omega) HSP.out (by have := regs_len HBO6.out.pgs; omega) true ⟨fun _ => HF4.out, fun _ => rfl⟩).mono ?_
        rintro e n7 ⟨rfl, k7⟩
        have HBO7 := Lib.hid (HBO6.out.next k7); clear k7
        go_wp2_with fail
        refine (CM.out _).mono ?_
        rintro e w' ⟨rfl, rfl⟩
        go_wp2_with fail
        refine (CU.out _).mono ?_
        rintro e w' ⟨rfl, rfl⟩
        go_wp2_with fail
        go_ret
        exact ⟨rfl, HBO7.out.bl⟩
  · have hbig2 : 274877906944 < a1 := by omega
    go_wp2_with fail
    refine (room_far a1 a2 hbig2).mono ?_
    rintro e n2 ⟨rfl, k2⟩
    have HBO2 := Lib.hid (HBO1.out.next k2); clear k2 HBO1
    go_wp2_with fail
    refine (rroom_far sb a1 a2 hbig2).mono ?_
    rintro e n3 ⟨rfl, k3⟩
    have HBO := Lib.hid (HBO2.out.next k3); clear k3 HBO2
    go_upto_region 9 with (fail)
    generalize hsv : a1 % 50000 = sv at s1 s2
    generalize hlw : a2 % 300000 = lw at l1 l2
    clear hsv hlw
    go_wp2_with fail
    refine (room_any HBO.out.list (regs_rs HBO.out.pgs) (by have := regs_len HBO.out.pgs; omega) sv lw s1 (by omega) l1 (by omega)).mono ?_
    rintro e n5 ⟨c, fine, rfl, hr5, k5⟩
    have HBO5 := Lib.hid (HBO.out.next k5); clear k5 HBO
    have HR5 := Lib.hid hr5; clear hr5
    go_wp2_with fail
    refine (rroom_any HBO5.out.space HBO5.out.pgs sv lw s1 (by omega) l1 (by omega)).mono ?_
    rintro e n6 ⟨c', fine', rfl, hr6, k6⟩
    have HBO6 := Lib.hid (HBO5.out.next k6); clear k6 HBO5
    obtain ⟨rfl, rfl⟩ := room_unique HR5.out hr6
    clear hr6
    rcases fine with _ | _
    · go_wp2_with fail
      go_ret
      exact ⟨rfl, HBO6.out.bl⟩
    · obtain ⟨f1, f2, f3, f4⟩ : c % 4096 = 0 ∧ 4096 ≤ c ∧ c + szOf sv ≤ belOf lw ∧ FreeIn (regs P) c (c + szOf sv) := by
        rcases HR5.out with ⟨_, a, b', c', d, _⟩ | ⟨h, _⟩
        · exact ⟨a, b', c', d⟩
        · cases h
      obtain ⟨z1, z2, z3⟩ := szOf_facts sv s1 (by omega)
      obtain ⟨y1, y2, y3⟩ := belOf_facts lw l1
      have hbl : belOf lw ≤ lw := by unfold belOf; omega
      have hsp : Span c (c + szOf sv) := ⟨f1, by omega, by omega, by omega⟩
      have HSP := Lib.hid hsp; clear hsp
      have HF4 := Lib.hid f4; clear f4 f1 z1 y1
      have hmu := up_maybe sv s1
      have HMU := Lib.hid hmu; clear hmu
      have hm0 : 0 ≤ (if sv = 0 then (1 : Int) else 0) ∧ (if sv = 0 then (1 : Int) else 0) ≤ 1 := by split <;> omega
      obtain ⟨hm1, hm2⟩ := hm0
      have cm := fun W => maybe_any sv W
      have CM := Lib.hid cm; clear cm
      generalize (if sv = 0 then (1 : Int) else 0) = mv at *
      have cu := fun W => up_any (sv + mv) W (by omega) (by omega)
      simp only [HMU.out] at cu
      have CU := Lib.hid cu; clear cu
      have f5 : c + szOf sv ≤ lw := by omega
      generalize szOf sv = sz at *
      have f6 : decide (c + sz ≤ lw) = true := by simp [f5]
      go_wp2_with fail
      refine (CM.out _).mono ?_
      rintro e w' ⟨rfl, rfl⟩
      go_wp2_with fail
      refine (CU.out _).mono ?_
      rintro e w' ⟨rfl, rfl⟩
      go_wp2_with fail
      refine (free_any HBO6.out.list (regs_rs HBO6.out.pgs).nm.so c (c + sz) (by omega) HSP.out (by have := regs_len HBO6.out.pgs; omega) true ⟨fun _ => HF4.out, fun _ => rfl⟩).mono ?_
      rintro e n7 ⟨rfl, k7⟩
      have HBO7 := Lib.hid (HBO6.out.next k7); clear k7
      go_wp2_with fail
      refine (CM.out _).mono ?_
      rintro e w' ⟨rfl, rfl⟩
      go_wp2_with fail
      refine (CU.out _).mono ?_
      rintro e w' ⟨rfl, rfl⟩
      go_wp2_with fail
      go_ret
      exact ⟨rfl, HBO7.out.bl⟩

/-! ### The row's step -/
set_option maxRecDepth 100000 in
theorem lifted (os : Os) (started : os.Started) (H : Type) (enc : TypeId × Value → H) :
    ReturnsInHanded {} Try.checked os 5 .any (Rows.regionRoomsSpec.pre6 enc Try.prog Try.f5 Rows.regionRoomsRow.domain false) (Rows.regionRoomsSpec.post enc Try.prog Try.f5 false true false false) := by
  refine returnsInHanded_of_change (C := Try.checked) own started (by kernel_rfl) Try.func5
    (ChangeSpec.witness6 (enc := enc) (C := Try.checked) false ⟨#[], #[.slice none 0 0, .int .u64 0, .int .u64 0], []⟩ 8 (by kernel_rfl) (by kernel_rfl) (by kernel_rfl) (by kernel_rfl)) ?_
  intro W base args ds gs before hval0 hW hcnd _
  have hval : ∀ (j : Nat) t v, Try.f5.params[j]? = some t → args[j]? = some v → Value.okWide Try.prog W .any base t v := hval0
  have hW' := hW
  obtain ⟨p, q, hA0, hV, rfl, hfz, hnd⟩ := hW
  have hA : DataW.TrodAll enc Try.prog W 0 (fun _ => true) true Try.f5.params.toList args.toList ds p := hA0
  rw [Try.params5] at hA hval
  obtain ⟨v0, vs0, d0, ds0, p0, q0, hargs, rfl, rfl, h0, r0⟩ := trodAll_cons hA
  obtain ⟨v1, vs1, d1, ds1, p1, q1, rfl, rfl, rfl, h1, r1⟩ := trodAll_cons r0
  obtain ⟨v2, vs2, d2, ds2, p2, q2, rfl, rfl, rfl, h2, r2⟩ := trodAll_cons r1
  obtain ⟨rfl, rfl, rfl⟩ := trodAll_nil r2
  obtain rfl : args = #[v0, v1, v2] := by cases args; simp_all
  obtain ⟨rfl, rfl⟩ := trodVars_none hV
  obtain ⟨a0, len0, cap0, rfl⟩ := okWide_slice Try.underlying46 (hval 0 46 v0 rfl rfl)
  have k0 := h0
  have lt0 : ∀ x ∈ p0, x.block < W.heap.size := by obtain ⟨m, hm⟩ := k0; exact DataW.trod_lt m _ _ _ hm
  obtain ⟨z0, w0⟩ : ∃ zs, IsRow .u8 W a0 len0 cap0 zs := by
    obtain ⟨fuel, hf⟩ := h0
    rcases open_ints Try.underlying46 Try.underlying5 (by kernel_rfl) hf with ⟨hcs, _⟩ | ⟨x, l, c, zs, hcs, _, hl, hm, hz, _, hcell, hwz⟩
    · simp [Value.cells] at hcs
      obtain ⟨rfl, rfl, rfl⟩ := hcs
      exact ⟨[], .inl ⟨rfl, rfl, rfl, rfl⟩⟩
    · simp [Value.cells] at hcs
      obtain ⟨rfl, rfl, rfl⟩ := hcs
      exact ⟨zs, .inr ⟨_, rfl, hl, hm, by simpa using hz, hcell, hwz⟩⟩
  obtain ⟨a1, rfl, rfl, rfl, w1⟩ := open_int Try.underlying30 (hval 1 30 v1 rfl rfl) h1
  obtain ⟨a2, rfl, rfl, rfl, w2⟩ := open_int Try.underlying30 (hval 2 30 v2 rfl rfl) h2
  clear hA0 hval0
  refine (walk a0 len0 cap0 z0 a1 a2 W w0 w1 w2).mono fun e W' ⟨he, bel⟩ => ?_
  subst he
  exact ⟨_, rfl, _, _, _, [], _, [], hW', trodAll_mk1 (shut_bool Try.underlying4 _), (trodAll_cons_mk (Below.trod laidOut (by kernel_rfl) (of_decide_eq_true (by kernel_rfl)) k0 bel lt0) (trodAll_cons_mk (shut_int Try.underlying30 w1) (trodAll_cons_mk (shut_int Try.underlying30 w2) trodAll_mk0))), rfl, bel.frame _, fun h => by cases h⟩

theorem over : Rows.regionRoomsRow.holds Try.pinned (OpenSpec.ofChange Rows.regionRoomsSpec) :=
  OpenClaim.holds_of_wide 5 Try.f5 rfl rfl rfl rfl rfl rfl rfl ⟨rfl, rfl, rfl, rfl, rfl⟩ rfl rfl rfl rfl rfl (by kernel_rfl) Try.func5 (by kernel_rfl)
    (of_decide_eq_true (by kernel_rfl)) (by unfold Func.isWrapper; first | (rw [if_pos (by decide +kernel)]; kernel_rfl) | (rw [if_neg (by decide +kernel)]; exact ⟨rfl, rfl⟩))
    (fun os started H enc _ => lifted os started H enc)

/-- The statement. -/
theorem proved : Rows.RegionRoomsSaid := over
end Go.Proofs.Ytilahffbfephbaa.regionRooms

namespace Go.Proofs.Ytilahffbfephbaa
/-- The statement, proved. -/
theorem regionRooms_holds : Rows.RegionRoomsSaid := regionRooms.proved
#print axioms regionRooms_holds
end Go.Proofs.Ytilahffbfephbaa
