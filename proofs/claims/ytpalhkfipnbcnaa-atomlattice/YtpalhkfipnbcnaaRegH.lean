/-
  First, Free, Protect.
-/
import Derived.Test.YtpalhkfipnbcnaaRegG
set_option linter.unusedVariables false
set_option linter.unusedSimpArgs false
namespace Go.Proofs.Ytpalhkfipnbcnaa
open Go.RowKit
set_option maxRecDepth 100000
/-- A place is mapped with all of p. -/
def Can (L : List Rg) (p x : Int) : Prop := ∃ q, In L x q ∧ bits .and .i64 q p = p
def FirstPost (w : World) (L : List Rg) (s t p : Int) (e : Ending) (w' : World) : Prop := ∃ x ok, e = .returned (.tuple #[.int .u64 x, .bool ok]) ∧
  ((ok = true ∧ s ≤ x ∧ x < t ∧ ¬ Can L p x ∧ ∀ y, s ≤ y → y < x → Can L p y) ∨ (ok = false ∧ x = 0 ∧ ∀ y, s ≤ y → y < t → Can L p y)) ∧ Bl w w'
set_option maxHeartbeats 4000000 in
theorem first_any {X : Ctx} {w : World} {b : Nat} {L : List Rg} (h : ListAt X w b L) (hs : So 0 274877906944 L) (s t p : Int) (hl : L.length ≤ 1000) :
    Calls Try.prog 73 #[addr0 b, .int .u64 s, .int .u64 t, .int .i64 p] w (FirstPost w L s t p) := by
  have HH := Lib.hid h; clear h
  have HSO := Lib.hid hs; clear hs
  have HL := Lib.hid hl; clear hl
  unfold addr0
  go_enter Try.func73, Try.ntmps73
  go_wp2_with fail
  go_loopw [1, 10, 11] (fun v1 _ _ wr => ∃ a : Int, v1 = .int .u64 a ∧ s ≤ a ∧ (∀ y, s ≤ y → y < a → Can L p y) ∧ Bl w wr) (fun v1 _ _ _ => (t - intOf v1).toNat)
  case atStart => exact ⟨s, rfl, by omega, fun y h1 h2 => absurd h2 (by omega), Bl.refl _⟩
  case round =>
    obtain ⟨a, rfl, ha, hall, hbl⟩ := hrel
    have HALL := Lib.hid hall; clear hall
    have HBL := Lib.hid hbl; clear hbl
    by_cases hat : a < t
    · go_wp2_with fail
      refine (at_any (HH.out.bl HBL.out) HSO.out a HL.out).mono ?_
      rintro e w1 ⟨r, ok, rfl, hr, k1⟩
      have K1 := Lib.hid (HBL.out.trans k1); clear k1
      unfold rgV
      rcases hr with ⟨rfl, h1, h2, h3⟩ | ⟨rfl, rfl, h1⟩
      · have hmem : In L a r.p := ⟨r, h1, h2, h3, rfl⟩
        by_cases hc : bits .and .i64 r.p p = p
        · have t1 : (bits .and .i64 r.p p == p) = true := by simp [hc]
          have t2 : (bits .and .i64 r.p p != p) = false := by simp [hc]
          have hall2 : ∀ y, s ≤ y → y < r.e → Can L p y := fun y y1 y2 => by
            by_cases hy : y < a
            · exact HALL.out y y1 hy
            · exact ⟨r.p, ⟨r, h1, by omega, y2, rfl⟩, hc⟩
          have HALL2 := Lib.hid hall2; clear hall2 hmem h1 hc
          go_wp2_with fail
          refine ⟨⟨r.e, rfl, by omega, HALL2.out, K1.out.alloc _⟩, ?_⟩
          simp only [intOf]; omega
        · have t1 : (bits .and .i64 r.p p == p) = false := by simp [hc]
          have t2 : (bits .and .i64 r.p p != p) = true := by simp [hc]
          have hno : ¬ Can L p a := fun ⟨q, hq, hb⟩ => hc (by rw [← HSO.out.one hq hmem]; exact hb)
          have hp : FirstPost w L s t p (.returned (.tuple #[.int .u64 a, .bool true])) (w1.alloc (.cells #[.int .u64 r.s, .int .u64 r.e, .int .i64 r.p] 112)) := ⟨a, true, rfl, .inl ⟨rfl, ha, hat, hno, HALL.out⟩, K1.out.alloc _⟩
          have HP := Lib.hid hp; clear hp hno hmem h1 hc
          go_wp2_with fail
          go_ret2
          exact HP.out
      · have hno : ¬ Can L p a := fun ⟨q, hq, hb⟩ => h1 q hq
        have hp : FirstPost w L s t p (.returned (.tuple #[.int .u64 a, .bool true])) (w1.alloc (.cells #[.int .u64 0, .int .u64 0, .int .i64 0] 112)) := ⟨a, true, rfl, .inl ⟨rfl, ha, hat, hno, HALL.out⟩, K1.out.alloc _⟩
        have HP := Lib.hid hp; clear hp hno h1
        go_wp2_with fail
        go_ret2
        exact HP.out
    · have hp : FirstPost w L s t p (.returned (.tuple #[.int .u64 0, .bool false])) wr := ⟨0, false, rfl, .inr ⟨rfl, rfl, fun y y1 y2 => HALL.out y y1 (by omega)⟩, HBL.out⟩
      have HP := Lib.hid hp; clear hp
      go_wp2_with fail
      go_ret2
      exact HP.out
set_option maxHeartbeats 4000000 in
theorem free_any {X : Ctx} {w : World} {b : Nat} {L : List Rg} (h : ListAt X w b L) (hs : So 0 274877906944 L) (s t : Int) (h0 : 0 ≤ s) (hsp : Span s t) (hl : L.length ≤ 1000) (v : Bool) (hv : v = true ↔ FreeIn L s t) :
    Calls Try.prog 65 #[addr0 b, .int .u64 s, .int .u64 t] w (BoolPost w v) := by
  have hmf : ∀ (fn : Fn) (first cap : Array Value) (w : World), (Instr.makeFunc fn first cap).run Try.prog w = .ok (.func fn first cap) w := fun _ _ _ _ => rfl
  have hk : Bl w (w.alloc (.cells #[.int .u64 s] 22)) := Bl.new w _
  have hx : (w.alloc (.cells #[.int .u64 s] 22)).cell? ⟨w.heap.size, 0, none⟩ = some (.int .u64 s) := by rw [cell_of_row _ _ 0 _ 22 (0, 0) (heap_alloc_new w _)]; rfl
  have cs := seek_44 (h.bl hk) hx (fun r W hW => is44_any r w.heap.size s W hW) hl
  have ci := fun W => isSpan_yes s t W h0 hsp
  have hst : s < t := hsp.2.2.1
  have CI := Lib.hid ci; clear ci
  have CS := Lib.hid cs; clear cs
  have HH := Lib.hid (h.bl hk); clear h hsp
  have HK := Lib.hid hk; clear hk
  have HSO := Lib.hid hs; clear hs
  have HV := Lib.hid hv; clear hv
  unfold addr0 asks at *
  go_enter Try.func65, Try.ntmps65
  go_wp2_with fail
  refine (CI.out _).mono ?_
  rintro e w' ⟨rfl, rfl⟩
  go_wp2_with fail
  refine CS.out.mono ?_
  rintro e w1 ⟨k, rfl, h1, h2, h3, h4⟩
  have hL1 := HH.out.bl h4
  have hk1 := HK.out.trans h4
  clear CS h4 HH HK CI hx
  have hin := free_seek HSO.out hst (fun hk r hr => by have := h2 hk r hr; simpa using this) (fun r hr => by have := h3 r hr; simpa using this) h1
  obtain ⟨v1, hb, hr⟩ := hL1
  obtain ⟨A, cap, rfl⟩ := hr.shape
  have hcell : w1.cell? ⟨b, 0, none⟩ = some (.slice A L.length cap) := by rw [cell_of_row w1 b 0 _ _ (0, 0) hb]; simp
  have HK1 := Lib.hid hk1; clear hk1
  have HIN := Lib.hid hin; clear hin
  have HR := Lib.hid hr; clear hr hb h2 h3
  obtain ⟨n, hn⟩ : ∃ n, n = L.length := ⟨_, rfl⟩
  rw [← hn] at hcell h1 HR hl
  have HN := Lib.hid hn; clear hn
  have hnI : (n : Int) ≤ 1000 := by omega
  have hkI : (k : Int) ≤ (n : Int) := by omega
  by_cases hkn : k = n
  · have t1 : ((k : Int) == (n : Int)) = true := by simp [hkn]
    have t2 : (k == n) = true := by simp [hkn]
    have hvt : v = true := HV.out.2 (HIN.out.2 (fun r hr => by
      have h5 := (List.getElem?_eq_some_iff.1 hr).1
      have := HN.out
      omega))
    subst hvt
    clear hkn
    go_wp2_with fail
    go_ret
    exact ⟨rfl, HK1.out⟩
  · have t1 : ((k : Int) == (n : Int)) = false := by simp; omega
    have t2 : (k == n) = false := by simp; omega
    have hlt : k < n := by omega
    have hltL : k < L.length := by have := HN.out; omega
    obtain ⟨r, hr⟩ : ∃ r, L[k]? = some r := ⟨L[k], List.getElem?_eq_getElem hltL⟩
    have hne : L ≠ [] := by intro e; rw [e] at hltL; simp at hltL
    obtain ⟨g, cap', cur, hA, _, hnc, hg, _⟩ := HR.out.form hne
    have hA' : A = some ⟨g, 0, none⟩ := by injection hA
    subst hA'
    obtain ⟨c0, c1, c2⟩ := row_cells HR.out k r hr
    clear hA hnc hg hne hltL hkn
    have hltI : (k : Int) < (n : Int) := by omega
    have hvr : v = decide (t ≤ r.s) := by
      by_cases hd : t ≤ r.s
      · rw [decide_eq_true hd]
        exact HV.out.2 (HIN.out.2 (fun r' hr' => by rw [hr] at hr'; cases hr'; exact hd))
      · rw [decide_eq_false hd]
        cases hvv : v with
        | false => rfl
        | true => exact absurd (HIN.out.1 (HV.out.1 hvv) r hr) hd
    subst hvr
    clear hr HV HIN
    go_wp2_with fail
    go_ret
    exact ⟨rfl, HK1.out⟩
theorem free_no {w : World} (b : Nat) (s t : Int) (h0 : 0 ≤ s) (h1 : s ≤ 18446744073709551615) (h2 : 0 ≤ t) (h3 : t ≤ 18446744073709551615) (hsp : ¬ Span s t) :
    Calls Try.prog 65 #[addr0 b, .int .u64 s, .int .u64 t] w (BoolPost w false) := by
  have ci := fun W => isSpan_no s t W h0 h1 h2 h3 hsp
  have CI := Lib.hid ci; clear ci hsp
  unfold addr0 at *
  go_enter Try.func65, Try.ntmps65
  go_wp2_with fail
  refine (CI.out _).mono ?_
  rintro e w' ⟨rfl, rfl⟩
  go_wp2_with fail
  go_ret
  exact ⟨rfl, Bl.new _ _⟩
/-- All of a span is mapped. -/
def Mapped (L : List Rg) (s t : Int) : Prop := ∀ y, s ≤ y → y < t → ∃ q, In L y q
theorem and_zero (q : Int) : bits .and .i64 q 0 = 0 := by
  have h : bits .and .i64 q 0 = IntKind.i64.wrap ((BitVec.ofInt 64 q &&& 0#64).toNat : Int) := rfl
  rw [h, BitVec.and_zero]; rfl
theorem can_zero {L : List Rg} {y : Int} : Can L 0 y ↔ ∃ q, In L y q := by
  constructor
  · rintro ⟨q, h1, h2⟩; exact ⟨q, h1⟩
  · rintro ⟨q, h1⟩; exact ⟨q, h1, and_zero q⟩
end Go.Proofs.Ytpalhkfipnbcnaa
