/-
  Stamp of a store and of a space; Regions; a Check that only asks; In; Fetch; faults of a width that is none.
-/
import Derived.Test.YtepffglljmekiaaGreatQ31
set_option linter.unusedVariables false
set_option linter.unusedSimpArgs false
namespace Go.Proofs.YtepffglljmekiaaGreat
open Go.RowKit
set_option maxRecDepth 100000
theorem zeroU (w : World) : (zeroValue 26).run Tryz.prog w = .ok (.int .u64 0) w := by kernel_rfl
/-- What a look-up among the stamps finds. -/
theorem SMV.look {S : Nat → Prop} {w : World} {sm : Value} {n : Nat} {c : Int} {st : Nat → Int} (h : SMV S w sm n c st) {p : Nat} (hp : p < 2 ^ 64) :
    ∃ v ok, (Instr.lookup 73 sm (.int .u64 (p : Int)) true).run Tryz.prog w = .ok (.tuple #[.int .u64 v, .bool ok]) w ∧ ((ok = true ∧ v = st p) ∨ (ok = false ∧ c = st p)) := by
  rcases h with ⟨rfl, h1⟩ | ⟨B, D, rfl, _, hown, g, hg1, hg2, hg3⟩
  · exact ⟨0, false, Maps.look_nil true law27 Tryz.underlying73 (zeroU w) (key_of hp), .inr ⟨rfl, (h1 p hp).symm⟩⟩
  · have hz : plainElem (H := Nat) Tryz.prog 26 (.int .u64 0) = some (.lit (.int .u64 0), []) := plainElem_int Tryz.underlying26 (by decide)
    obtain ⟨v, ps, hrun, hv⟩ := hown.look_ok law27 Tryz.underlying73 (zeroU w) hz (key_of hp)
    obtain ⟨a, rfl, e, _⟩ := plainElem_int_inv Tryz.underlying26 hv
    refine ⟨a, _, hrun, ?_⟩
    rw [hg1 p hp]
    rcases hgp : g p with _ | y
    · exact .inr ⟨rfl, by rw [hg3 p hp, hgp]; rfl⟩
    · refine .inl ⟨rfl, ?_⟩
      rw [hg2 p y hp hgp] at e
      injection e with e
      injection e with e
      injection e with _ e
      rw [hg3 p hp, hgp, ← e]; rfl
set_option maxHeartbeats 1000000 in
theorem pstamp_any {Y : Rest} {S : Nat → Prop} {w : World} {sb n k : Nat} {f : Nat → Option Nat} {M st : Nat → Int} (h : StoreAt Y S w sb n f k M st) (p : Nat) (hp : p < 2 ^ 64) :
    Calls Tryz.prog 31 #[.pointer (some ⟨sb, 1, none⟩), .int .u64 (p : Int)] w fun e w' => e = .returned (.int .u64 (st p)) ∧ w = w' := by
  obtain ⟨pm, sm, c, l, h⟩ := h
  obtain ⟨c0, c1, c2, c3⟩ := h.cell
  obtain ⟨v, ok, hlook, hv⟩ := h.stamps.look hp
  clear h
  rcases hv with ⟨rfl, hv⟩ | ⟨rfl, hv⟩
  · have HV := Lib.hid hv; clear hv
    go_enter Tryz.func31, Tryz.ntmps31
    go_wp2
    go_ret
    exact ⟨by rw [← HV.out]; rfl, rfl⟩
  · have HV := Lib.hid hv; clear hv
    go_enter Tryz.func31, Tryz.ntmps31
    go_wp2
    go_ret
    exact ⟨by rw [← HV.out]; rfl, rfl⟩
set_option maxHeartbeats 1000000 in
theorem mstamp_any {T : Nat → Prop} {w : World} {sb n : Nat} {L : List Rg} {M st : Nat → Int} {mo ba en : Int} (h : MS T w sb n L M st mo ba en) (p : Nat) (hp : p < 2 ^ 64) :
    Calls Tryz.prog 7 #[addr0 sb, .int .u64 (p : Int)] w fun e w' => e = .returned (.int .u64 (st p)) ∧ w = w' := by
  obtain ⟨rg, f, k0, h3, _, _⟩ := h.ex
  have cr := pstamp_any h3 p hp
  have CR := Lib.hid cr; clear cr h3 h
  unfold addr0
  go_enter Tryz.func7, Tryz.ntmps7
  go_wp2_with fail
  refine CR.out.mono ?_
  rintro e w1 ⟨rfl, rfl⟩
  go_wp2_with fail
  go_ret
  exact ⟨rfl, rfl⟩
set_option maxHeartbeats 1000000 in
theorem mregions_any {T : Nat → Prop} {w : World} {sb n : Nat} {L : List Rg} {M st : Nat → Int} {mo ba en : Int} (h : MS T w sb n L M st mo ba en) : Calls Tryz.prog 14 #[addr0 sb] w (RowPost w L) := by
  obtain ⟨X, hX⟩ := h.list
  have cp := all_any hX (by have := h.few; omega)
  have CP := Lib.hid cp; clear cp hX h
  unfold addr0 at *
  go_enter Tryz.func14, Tryz.ntmps14
  go_wp2_with fail
  refine CP.out.mono ?_
  rintro e w' ⟨v, rfl, r, k⟩
  have R := Lib.hid r; clear r
  have K := Lib.hid k; clear k
  go_wp2_with fail
  go_ret
  exact ⟨v, rfl, R.out, K.out⟩
/-- Bytes that are answered, or none. -/
def InPost (n : Int) (w : World) (e : Ending) (w' : World) : Prop := ∃ A len cap r xs, e = .returned (.tuple #[.slice A len cap, .int .i64 r]) ∧ Rd w' A xs ∧ xs.length = len ∧ len ≤ cap ∧ len ≤ 4194304 ∧ (len = 0 ∨ (len : Int) = n) ∧ ((A = none ∧ len = 0 ∧ cap = 0) ∨ ∃ b, A = some ⟨b, 0, none⟩ ∧ w.heap.size ≤ b) ∧ (∀ k, 0 ≤ xs.getD k 0 ∧ xs.getD k 0 ≤ 255) ∧ Bl w w'
set_option maxHeartbeats 1000000 in
theorem peek_none {w : World} (sb : Nat) (a : Int) (n : Int) (hn : n < 1 ∨ 4194304 < n) : Calls Tryz.prog 8 #[addr0 sb, .int .u64 a, .int .i64 n] w fun e w' => e = .returned (.slice none 0 0) ∧ w = w' := by
  have cr := fun W => read_none (w := W) (sb := sb) a n hn
  have CR := Lib.hid cr; clear cr hn
  unfold addr0
  go_enter Tryz.func8, Tryz.ntmps8
  go_wp2_with fail
  refine (CR.out _).mono ?_
  rintro e w1 ⟨rfl, rfl⟩
  go_wp2_with fail
  go_ret
  exact ⟨rfl, rfl⟩
set_option maxHeartbeats 1000000 in
theorem min_any {T : Nat → Prop} {w : World} {sb n0 : Nat} {L : List Rg} {M st : Nat → Int} {mo ba en : Int} (h : MS T w sb n0 L M st mo ba en) (a : Nat) (n : Int) (ha : a < 2 ^ 64) :
    Calls Tryz.prog 19 #[addr0 sb, .int .u64 (a : Int), .int .i64 n] w (InPost n w) := by
  have cc := mcheck_any h a n 1 ha
  have CC := Lib.hid cc; clear cc
  have H := Lib.hid h; clear h
  unfold addr0 at *
  go_enter Tryz.func19, Tryz.ntmps19
  go_wp2_with fail
  refine CC.out.mono ?_
  rintro e w1 ⟨r, rfl, hh, k⟩
  have K := Lib.hid k; clear k CC
  by_cases hr : r = 0
  · subst hr
    rcases hh with ⟨h0, _⟩ | ⟨n0, n1, _⟩
    · omega
    · by_cases hz : n < 1
      · have cp := peek_none (w := w1) sb a n (.inl hz)
        unfold addr0 at cp
        have CP := Lib.hid cp; clear cp
        go_wp2_with fail
        refine CP.out.mono ?_
        rintro e w2 ⟨rfl, rfl⟩
        go_wp2_with fail
        go_ret2
        exact ⟨none, 0, 0, 0, [], rfl, Rd.nil_, rfl, Nat.le_refl _, by omega, .inl rfl, .inl ⟨rfl, rfl, rfl⟩, fun k => by simp, K.out⟩
      · obtain ⟨m, rfl⟩ := Int.eq_ofNat_of_zero_le n0
        have cp := mpeek_any (H.out.bl K.out) a m ha (by omega) (by omega)
        unfold addr0 at cp
        have CP := Lib.hid cp; clear cp
        go_wp2_with fail
        refine CP.out.mono ?_
        rintro e w2 ⟨rfl, hb, k2⟩
        have RD := Lib.hid (rd_row hb)
        have K2 := Lib.hid k2
        clear hb k2 CP
        go_wp2_with fail
        go_ret2
        exact ⟨some ⟨w1.heap.size, 0, none⟩, m, m, 0, _, rfl, RD.out, bytesAt_length _ _ _, Nat.le_refl _, by omega, .inr rfl, .inr ⟨_, rfl, K.out.size⟩, bytesAt_bd H.out.by_ a m, K.out.trans K2.out⟩
  · have t5 : (r != 0) = true := by simp [hr]
    have HR := Lib.hid hr; clear hr hh
    go_wp2_with fail
    go_ret2
    exact ⟨none, 0, 0, r, [], rfl, Rd.nil_, rfl, Nat.le_refl _, by omega, .inl rfl, .inl ⟨rfl, rfl, rfl⟩, fun k => by simp, K.out⟩
end Go.Proofs.YtepffglljmekiaaGreat
