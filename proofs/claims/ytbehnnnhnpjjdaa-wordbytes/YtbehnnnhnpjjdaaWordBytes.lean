/-
  For every list of bytes b, every word x and every number n: Put lays x's n lowest bytes behind b as the reference does, Get answers the reference's number, and what Put laid is read back as x's lowest bytes: the law WordBytes returns true. No condition.
-/
import Derived.Test.YtbehnnnhnpjjdaaRows
import Derived.Test.YtbehnnnhnpjjdaaWalksE
import Derived.WalkKit
import Derived.ProofKit
import Derived.OpenShut
import Derived.ShutString
import Derived.ChangeOld
import Derived.Below
namespace Go.Proofs.Ytbehnnnhnpjjdaa.wordBytes
open Go.ChangeShapes Go.WideShapes Go.ChangeAt Go.RowKit
open Go.ChangeMaps (open_string shut_string)
set_option linter.unusedVariables false

theorem own : ownKnob Try.prog.godebug = none := by kernel_rfl
theorem laidOut : laidOutB Try.prog = true := by kernel_rfl

/-- WHAT THE WALK IS TOLD OF A SLICE OF INTEGERS THAT CAME IN: it is nil; or it leads to a row of 'cap' cells, the numbers 'zs' (the first 'len' are its elements, the rest its spare room), each fitting its kind. -/
def IsRow (k : IntKind) (w : World) (a : Option Addr) (len cap : Nat) (zs : List Int) : Prop :=
  (a = none ∧ len = 0 ∧ cap = 0 ∧ zs = []) ∨
  ∃ x, a = some x ∧ len ≤ cap ∧ cap ≤ maxLen ∧ zs.length = cap ∧ (∀ i, i < zs.length → w.cell? (x.add i) = some (.int k (zs.getD i 0))) ∧ ∀ n ∈ zs, (Lit.int k n).wf = true

theorem take_bd (z : List Int) (n : Nat) (hw : ∀ m ∈ z, (Lit.int .u8 m).wf = true) (k : Nat) : 0 ≤ (z.take n).getD k 0 ∧ (z.take n).getD k 0 ≤ 255 := by
  rw [List.getD_eq_getElem?_getD]
  rcases h : (z.take n)[k]? with _ | x
  · simp
  · have hm : x ∈ z := List.mem_of_mem_take (List.mem_of_getElem? h)
    have := bounds_u8 (hw x hm)
    simpa using this
theorem isRow_rd {w : World} {a : Option Addr} {len cap : Nat} {z : List Int} (h : IsRow .u8 w a len cap z) :
    Rd w a (z.take len) ∧ (z.take len).length = len ∧ (a = none → cap = 0) ∧ ∀ k, 0 ≤ (z.take len).getD k 0 ∧ (z.take len).getD k 0 ≤ 255 := by
  rcases h with ⟨rfl, rfl, rfl, rfl⟩ | ⟨x, rfl, hl, hm, hz, hcell, hwz⟩
  · exact ⟨Rd.nil_, rfl, fun _ => rfl, fun k => by simp⟩
  · refine ⟨fun _ => ⟨x, rfl, fun i hi => ?_⟩, by rw [List.length_take]; omega, fun h => (by cases h), take_bd z len hwz⟩
    rw [List.length_take] at hi
    rw [hcell i (by omega), List.getD_eq_getElem?_getD, List.getD_eq_getElem?_getD, List.getElem?_take_of_lt (by omega)]
theorem bel_trans {a b c : World} (h : Below a.heap.size a b) (k : Below b.heap.size b c) : Below a.heap.size a c := h.trans (k.mono h.size)
theorem bel_drewN (a : World) (m : Nat) : Below a.heap.size a (a.drewN m) := ⟨rfl, rfl, rfl, Nat.le_refl _, fun _ _ => rfl⟩

/-! ### The walk: the Go text returns true -/
set_option maxHeartbeats 1000000 in
theorem walk (a0 : Option Addr) (len0 cap0 : Nat) (z0 : List Int) (a1 : Int) (a2 : Int) (w : World) (w0 : IsRow .u8 w a0 len0 cap0 z0) (w1 : (Lit.int .u64 a1).wf = true) (w2 : (Lit.int .i64 a2).wf = true) :
    Calls Try.prog 8 #[.slice a0 len0 cap0, .int .u64 a1, .int .i64 a2] w fun e w' => e = .returned (.bool true) ∧ Below w.heap.size w w' := by
  obtain ⟨hr, hl, hc, hb⟩ := isRow_rd w0
  clear w0
  generalize z0.take len0 = xs at *
  obtain ⟨hx0, hx1⟩ := bounds_u64 w1
  have hn := bounds_i64 w2
  by_cases hbig : 5000 < len0
  · clear hr hl hc hb
    have hbig2 : (5000 : Int) < (len0 : Int) := by omega
    go_enter Try.func8, Try.ntmps8
    go_wp2_with fail
    refine (answers_any _).mono ?_
    rintro e w' ⟨rfl, rfl⟩
    go_wp2
    go_ret
    exact ⟨rfl, Below.refl _ _⟩
  · have hsm : len0 ≤ 5000 := by omega
    clear hbig
    obtain ⟨A1, c1, W1, run1, rd1, bel1⟩ := clone_run w a0 len0 cap0 xs hr hl hc (by omega)
    by_cases hin : 1 ≤ a2 ∧ a2 ≤ 8
    · obtain ⟨n, rfl⟩ := Int.eq_ofNat_of_zero_le (show 0 ≤ a2 by omega)
      have hn1 : 1 ≤ n := by omega
      have hn8 : n ≤ 8 := by omega
      clear hin hn
      have HR := Lib.hid hr; clear hr
      have HL := Lib.hid hl; clear hl
      have HC := Lib.hid hc; clear hc
      have HB := Lib.hid hb; clear hb
      have RD1 := Lib.hid rd1; clear rd1
      go_enter Try.func8, Try.ntmps8
      go_wp2_with (at_builtin; refine wpl_append_run rfl (.tmp 13) (.tmp 14) 31 rfl _ _ _ rfl rfl run1 ?_)
      clear run1
      refine (put_in A1 len0 c1 xs a1 n _ RD1.out HL.out (by omega) hn1 hn8).mono ?_
      rintro e W2 ⟨B, c, rfl, rd2, bel2, hcc⟩
      have RD2 := Lib.hid rd2; clear rd2
      go_wp2_with fail
      refine (answers_any _).mono ?_
      rintro e w' ⟨rfl, rfl⟩
      go_wp2_with fail
      have bel12 := bel_trans bel1 bel2
      refine (refPut_in a0 len0 cap0 xs a1 n _ (HR.out.below bel12) HL.out HC.out (by omega) hn1 hn8).mono ?_
      rintro e W3 ⟨B', c', rfl, rd3, bel3⟩
      have RD3 := Lib.hid rd3; clear rd3
      go_wp2_with fail
      refine (same_any B B' (len0 + n) c c' (xs ++ putB a1 n) _ (RD2.out.below bel3) RD3.out (by rw [List.length_append, putB_length, HL.out]) (by omega)).mono ?_
      rintro e w' ⟨rfl, m, rfl⟩
      have bel4 := bel_trans (bel_trans bel12 bel3) (bel_drewN W3 m)
      obtain ⟨A5, c5, W5, run5, rd5, bel5⟩ := clone_run (W3.drewN m) a0 len0 cap0 xs (HR.out.below bel4) HL.out HC.out (by omega)
      have RD5 := Lib.hid rd5; clear rd5
      clear bel1 bel2 bel12
      go_wp2_with (at_builtin; refine wpl_append_run rfl (.tmp 31) (.tmp 32) 31 rfl _ _ _ rfl rfl run5 ?_)
      clear run5
      refine (get_in A5 len0 c5 xs n _ RD5.out HL.out (by omega) hn1 hn8 HB.out).mono ?_
      rintro e w' ⟨rfl, rfl⟩
      go_wp2_with fail
      have bel6 := bel_trans bel4 bel5
      refine (refGet_in a0 len0 cap0 xs n _ (HR.out.below bel6) HL.out (by omega) hn1 hn8 HB.out).mono ?_
      rintro e w' ⟨rfl, rfl⟩
      have rd7 : Rd W5 B (xs ++ putB a1 n) := RD2.out.below (bel_trans bel3 (bel_trans (bel_drewN W3 m) bel5))
      have hlen : (xs ++ putB a1 n).length = len0 + n := by rw [List.length_append, putB_length, HL.out]
      have rd8 := rd7.drop len0 c (by omega) (by omega)
      have hdrop : (xs ++ putB a1 n).drop len0 = putB a1 n := by rw [← HL.out]; exact List.drop_left
      rw [hdrop, if_neg (by omega)] at rd8
      have RD8 := Lib.hid rd8; clear rd8 rd7 hlen hdrop
      clear bel3 bel4 bel5
      generalize getS xs (min n len0) = gg
      go_wp2_with fail
      refine (get_in _ n (c - len0) (putB a1 n) n _ RD8.out (putB_length a1 n) (by omega) hn1 hn8 (putB_bd a1 n)).mono ?_
      rintro e w' ⟨rfl, rfl⟩
      have fin : getS (putB a1 n) (min n n) = IntKind.u64.wrap (a1 * 2 ^ (64 - 8 * n)) / 2 ^ (64 - 8 * n) := by
        rw [Nat.min_self, getS_putB a1 n n (Nat.le_refl _), shl_shr a1 (64 - 8 * n) (by omega), show 64 - (64 - 8 * n) = 8 * n by omega]
      rw [fin]
      clear fin
      go_wp2
      go_ret
      exact ⟨rfl, bel6⟩
    · have HR := Lib.hid hr; clear hr
      have HL := Lib.hid hl; clear hl
      have HC := Lib.hid hc; clear hc
      have HB := Lib.hid hb; clear hb
      have RD1 := Lib.hid rd1; clear rd1
      have HIN := Lib.hid hin
      have hor : a2 < 1 ∨ 8 < a2 := by omega
      clear hin
      go_enter Try.func8, Try.ntmps8
      go_wp2_with (at_builtin; refine wpl_append_run rfl (.tmp 13) (.tmp 14) 31 rfl _ _ _ rfl rfl run1 ?_)
      clear run1
      refine (put_out A1 len0 c1 xs a1 a2 _ RD1.out HL.out (by omega) HIN.out).mono ?_
      rintro e W2 ⟨B, c, rfl, rd2, bel2⟩
      have RD2 := Lib.hid rd2; clear rd2
      go_wp2_with fail
      refine (answers_any _).mono ?_
      rintro e w' ⟨rfl, rfl⟩
      go_wp2_with fail
      have bel12 := bel_trans bel1 bel2
      refine (refPut_out a0 len0 cap0 xs a1 a2 _ (HR.out.below bel12) HL.out HC.out (by omega) HIN.out).mono ?_
      rintro e W3 ⟨B', c', rfl, rd3, bel3⟩
      have RD3 := Lib.hid rd3; clear rd3
      go_wp2_with fail
      refine (same_any B B' len0 c c' xs _ (RD2.out.below bel3) RD3.out HL.out (by omega)).mono ?_
      rintro e w' ⟨rfl, m, rfl⟩
      have bel4 := bel_trans (bel_trans bel12 bel3) (bel_drewN W3 m)
      obtain ⟨A5, c5, W5, run5, rd5, bel5⟩ := clone_run (W3.drewN m) a0 len0 cap0 xs (HR.out.below bel4) HL.out HC.out (by omega)
      have RD5 := Lib.hid rd5; clear rd5
      clear bel1 bel2 bel12
      go_wp2_with (at_builtin; refine wpl_append_run rfl (.tmp 31) (.tmp 32) 31 rfl _ _ _ rfl rfl run5 ?_)
      clear run5
      refine (get_out A5 len0 c5 a2 _ HIN.out).mono ?_
      rintro e w' ⟨rfl, rfl⟩
      go_wp2_with fail
      have bel6 := bel_trans bel4 bel5
      refine (refGet_out a0 len0 cap0 a2 _ HIN.out).mono ?_
      rintro e w' ⟨rfl, rfl⟩
      clear bel3 bel4 bel5
      rcases hor with h1 | h8
      · go_wp2
        go_ret
        exact ⟨rfl, bel6⟩
      · go_wp2
        go_ret
        exact ⟨rfl, bel6⟩

/-! ### The row's step -/
set_option maxRecDepth 100000 in
theorem lifted (os : Os) (started : os.Started) (H : Type) (enc : TypeId × Value → H) :
    ReturnsInHanded {} Try.checked os 8 .any (Rows.wordBytesSpec.pre6 enc Try.prog Try.f8 Rows.wordBytesRow.domain false) (Rows.wordBytesSpec.post enc Try.prog Try.f8 false true false false) := by
  refine returnsInHanded_of_change (C := Try.checked) own started (by kernel_rfl) Try.func8
    (ChangeSpec.witness6 (enc := enc) (C := Try.checked) false ⟨#[], #[.slice none 0 0, .int .u64 0, .int .i64 0], []⟩ 8 (by kernel_rfl) (by kernel_rfl) (by kernel_rfl) (by kernel_rfl)) ?_
  intro W base args ds gs before hval0 hW hcnd _
  have hval : ∀ (j : Nat) t v, Try.f8.params[j]? = some t → args[j]? = some v → Value.okWide Try.prog W .any base t v := hval0
  have hW' := hW
  obtain ⟨p, q, hA0, hV, rfl, hfz, hnd⟩ := hW
  have hA : DataW.TrodAll enc Try.prog W 0 (fun _ => true) true Try.f8.params.toList args.toList ds p := hA0
  rw [Try.params8] at hA hval
  obtain ⟨v0, vs0, d0, ds0, p0, q0, hargs, rfl, rfl, h0, r0⟩ := trodAll_cons hA
  obtain ⟨v1, vs1, d1, ds1, p1, q1, rfl, rfl, rfl, h1, r1⟩ := trodAll_cons r0
  obtain ⟨v2, vs2, d2, ds2, p2, q2, rfl, rfl, rfl, h2, r2⟩ := trodAll_cons r1
  obtain ⟨rfl, rfl, rfl⟩ := trodAll_nil r2
  obtain rfl : args = #[v0, v1, v2] := by cases args; simp_all
  obtain ⟨rfl, rfl⟩ := trodVars_none hV
  obtain ⟨a0, len0, cap0, rfl⟩ := okWide_slice Try.underlying31 (hval 0 31 v0 rfl rfl)
  have k0 := h0
  have lt0 : ∀ x ∈ p0, x.block < W.heap.size := by obtain ⟨m, hm⟩ := k0; exact DataW.trod_lt m _ _ _ hm
  obtain ⟨z0, w0⟩ : ∃ zs, IsRow .u8 W a0 len0 cap0 zs := by
    obtain ⟨fuel, hf⟩ := h0
    rcases open_ints Try.underlying31 Try.underlying5 (by kernel_rfl) hf with ⟨hcs, _⟩ | ⟨x, l, c, zs, hcs, _, hl, hm, hz, _, hcell, hwz⟩
    · simp [Value.cells] at hcs
      obtain ⟨rfl, rfl, rfl⟩ := hcs
      exact ⟨[], .inl ⟨rfl, rfl, rfl, rfl⟩⟩
    · simp [Value.cells] at hcs
      obtain ⟨rfl, rfl, rfl⟩ := hcs
      exact ⟨zs, .inr ⟨_, rfl, hl, hm, by simpa using hz, hcell, hwz⟩⟩
  obtain ⟨a1, rfl, rfl, rfl, w1⟩ := open_int Try.underlying22 (hval 1 22 v1 rfl rfl) h1
  obtain ⟨a2, rfl, rfl, rfl, w2⟩ := open_int Try.underlying3 (hval 2 3 v2 rfl rfl) h2
  clear hA0 hval0
  refine (walk a0 len0 cap0 z0 a1 a2 W w0 w1 w2).mono fun e W' ⟨he, bel⟩ => ?_
  subst he
  exact ⟨_, rfl, _, _, _, [], _, [], hW', trodAll_mk1 (shut_bool Try.underlying4 _), (trodAll_cons_mk (Below.trod laidOut (by kernel_rfl) (of_decide_eq_true (by kernel_rfl)) k0 bel lt0) (trodAll_cons_mk (shut_int Try.underlying22 w1) (trodAll_cons_mk (shut_int Try.underlying3 w2) trodAll_mk0))), rfl, bel.frame _, fun h => by cases h⟩

theorem over : Rows.wordBytesRow.holds Try.pinned (OpenSpec.ofChange Rows.wordBytesSpec) :=
  OpenClaim.holds_of_wide 8 Try.f8 rfl rfl rfl rfl rfl rfl rfl ⟨rfl, rfl, rfl, rfl, rfl⟩ rfl rfl rfl rfl rfl (by kernel_rfl) Try.func8 (by kernel_rfl)
    (of_decide_eq_true (by kernel_rfl)) (by unfold Func.isWrapper; first | (rw [if_pos (by decide +kernel)]; kernel_rfl) | (rw [if_neg (by decide +kernel)]; exact ⟨rfl, rfl⟩))
    (fun os started H enc _ => lifted os started H enc)

/-- The statement. -/
theorem proved : Rows.WordBytesSaid := over
end Go.Proofs.Ytbehnnnhnpjjdaa.wordBytes

namespace Go.Proofs.Ytbehnnnhnpjjdaa
/-- The statement, proved. -/
theorem wordBytes_holds : Rows.WordBytesSaid := wordBytes.proved
#print axioms wordBytes_holds
end Go.Proofs.Ytbehnnnhnpjjdaa
