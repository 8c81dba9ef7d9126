/-
  At.
-/
import Derived.Test.YtpalhkfipnbcnaaRegF
import Derived.Laws.ResultCell
set_option linter.unusedVariables false
set_option linter.unusedSimpArgs false
namespace Go.Proofs.Ytpalhkfipnbcnaa
open Go.RowKit
set_option maxRecDepth 100000
def rgV (r : Rg) : Value := .agg #[.int .u64 r.s, .int .u64 r.e, .int .i64 r.p]
/-- Two results, of which the first lies in a block. -/
theorem results_row_tmp {P : Program} {fn : Func} {p u : Tmp} {ty : TypeId} (h : fn.results = #[.cell p ty, .tmp u]) (tmps : Array Value) (w : World) (g : Nat) (t : TypeId) (cs : Array Value) (fr : Nat × Nat) (d : TypeDesc)
    (hp : tmps.getD p undef = .pointer (some ⟨g, 0, none⟩)) (hg : w.heap[g]? = some (.cells cs t fr))
    (hu : P.underlying ty = some d) (hd : (match d with | .struct _ | .array _ _ => true | _ => false) = true) (hi : (P.info? ty).map (·.size) = some cs.size) :
    (results fn tmps).run P w = .ok (.tuple #[.agg cs, tmps.getD u undef]) w := by
  rw [results_cell_tmp h, hp]
  simp [asAddr, run_loadVar_row w g t ty cs fr d hg hu hd hi, Result.andThen]
theorem set3 {w : World} {g : Nat} {t : TypeId} {a b c : Value} (x y z : Value) (h : w.heap[g]? = some (.cells #[a, b, c] t (0, 0))) :
    (((w.setCell ⟨g, 0, none⟩ x).setCell ⟨g, 1, none⟩ y).setCell ⟨g, 2, none⟩ z).heap[g]? = some (.cells #[x, y, z] t (0, 0)) := by
  have h1 := heap_setCell_same w g 0 _ t x h
  have h2 := heap_setCell_same _ g 1 _ t y h1
  have h3 := heap_setCell_same _ g 2 _ t z h2
  simpa using h3
def AtPost (w : World) (L : List Rg) (x : Int) (e : Ending) (w' : World) : Prop := ∃ r ok, e = .returned (.tuple #[rgV r, .bool ok]) ∧ ((ok = true ∧ r ∈ L ∧ r.s ≤ x ∧ x < r.e) ∨ (ok = false ∧ r = ⟨0, 0, 0⟩ ∧ ∀ p, ¬ In L x p)) ∧ Bl w w'
set_option maxHeartbeats 4000000 in
theorem at_any {X : Ctx} {w : World} {b : Nat} {L : List Rg} (h : ListAt X w b L) (hs : So 0 274877906944 L) (x : Int) (hl : L.length ≤ 1000) :
    Calls Try.prog 90 #[addr0 b, .int .u64 x] w (AtPost w L x) := by
  have hmf : ∀ (fn : Fn) (first cap : Array Value) (w : World), (Instr.makeFunc fn first cap).run Try.prog w = .ok (.func fn first cap) w := fun _ _ _ _ => rfl
  have hk : Bl w ((w.alloc (.cells #[.int .u64 x] 22)).alloc (.cells #[.int .u64 0, .int .u64 0, .int .i64 0] 112)) := (Bl.new w _).alloc _
  have hx : ((w.alloc (.cells #[.int .u64 x] 22)).alloc (.cells #[.int .u64 0, .int .u64 0, .int .i64 0] 112)).cell? ⟨w.heap.size, 0, none⟩ = some (.int .u64 x) :=
    (Bl.new (w.alloc (.cells #[.int .u64 x] 22)) _).cell' (by rw [cell_of_row _ _ 0 _ 22 (0, 0) (heap_alloc_new w _)]; rfl)
  have hz : ((w.alloc (.cells #[.int .u64 x] 22)).alloc (.cells #[.int .u64 0, .int .u64 0, .int .i64 0] 112)).heap[w.heap.size + 1]? = some (.cells #[.int .u64 0, .int .u64 0, .int .i64 0] 112 (0, 0)) := by
    have := heap_alloc_new (w.alloc (.cells #[.int .u64 x] 22)) (.cells #[.int .u64 0, .int .u64 0, .int .i64 0] 112)
    rwa [show (w.alloc (.cells #[.int .u64 x] 22)).heap.size = w.heap.size + 1 by simp] at this
  have cs := seek_42 (h.bl hk) hx (fun r W hW => is42_any r w.heap.size x W hW) hl
  have CS := Lib.hid cs; clear cs
  have HH := Lib.hid (h.bl hk); clear h
  have HK := Lib.hid hk; clear hk
  have HX := Lib.hid hx; clear hx
  have HZ := Lib.hid hz; clear hz
  have HSO := Lib.hid hs; clear hs
  unfold addr0 asks at *
  go_enter Try.func90, Try.ntmps90
  go_wp2_with fail
  refine CS.out.mono ?_
  rintro e w1 ⟨k, rfl, h1, h2, h3, h4⟩
  have hL1 := HH.out.bl h4
  have hx1 := h4.cell' HX.out
  have hz1 := h4.at_ HZ.out
  have hk1 := HK.out.trans h4
  clear CS h4 HH HX HZ HK
  have hin := fun p => in_seek (p := p) HSO.out (fun hk r hr => by have := h2 hk r hr; simpa using this) (fun r hr => by have := h3 r hr; simpa using this) h1
  obtain ⟨v, hb, hr⟩ := hL1
  obtain ⟨A, cap, rfl⟩ := hr.shape
  have hcell : w1.cell? ⟨b, 0, none⟩ = some (.slice A L.length cap) := by rw [cell_of_row w1 b 0 _ _ (0, 0) hb]; simp
  have z0 : w1.cell? ⟨w.heap.size + 1, 0, none⟩ = some (.int .u64 0) := by rw [cell_of_row w1 _ 0 _ 112 (0, 0) hz1]; rfl
  have z1 : w1.cell? ⟨w.heap.size + 1, 1, none⟩ = some (.int .u64 0) := by rw [cell_of_row w1 _ 1 _ 112 (0, 0) hz1]; rfl
  have z2 : w1.cell? ⟨w.heap.size + 1, 2, none⟩ = some (.int .i64 0) := by rw [cell_of_row w1 _ 2 _ 112 (0, 0) hz1]; rfl
  have fz : ∀ j, w1.frozen? ⟨w.heap.size + 1, j, none⟩ = false := fun j => by simp [World.frozen?, hz1]
  have f0 := fz 0
  have f1 := fz 1
  have f2 := fz 2
  clear fz
  have HZ1 := Lib.hid hz1; clear hz1
  have HK1 := Lib.hid hk1; clear hk1
  have HIN := Lib.hid hin; clear hin
  have HR := Lib.hid hr; clear hr hb
  have H3 := Lib.hid h3; clear h3 h2
  obtain ⟨n, hn⟩ : ∃ n, n = L.length := ⟨_, rfl⟩
  rw [← hn] at hcell h1 HR hl
  have HN := Lib.hid hn; clear hn
  have hnI : (n : Int) ≤ 1000 := by omega
  have hkI : (k : Int) ≤ (n : Int) := by omega
  by_cases hkn : k = n
  · have t1 : ((k : Int) == (n : Int)) = true := by simp [hkn]
    have t2 : (k == n) = true := by simp [hkn]
    clear hkn
    go_wp2_with fail
    go_quiet (fail)
    go_wp2_with fail
    have hnone : ∀ p, ¬ In L x p := fun p hp => by
      obtain ⟨r, hr, _⟩ := (HIN.out p).1 hp
      have h5 := (List.getElem?_eq_some_iff.1 hr).1
      have := HN.out
      simp at t2
      omega
    refine bodyPost_ret (results_row_tmp rfl _ _ (w.heap.size + 1) 112 _ (0, 0) _ rfl (set3 _ _ _ HZ1.out) Try.underlying112 rfl (by kernel_rfl)) rfl ?_
    exact ⟨⟨0, 0, 0⟩, false, rfl, .inr ⟨rfl, rfl, hnone⟩, (((HK1.out.drewN _).set (by simp) _).set (by simp) _).set (by simp) _⟩
  · have t1 : ((k : Int) == (n : Int)) = false := by simp; omega
    have t2 : (k == n) = false := by simp; omega
    have hlt : k < n := by omega
    have hltL : k < L.length := by have := HN.out; omega
    obtain ⟨r, hr⟩ : ∃ r, L[k]? = some r := ⟨L[k], List.getElem?_eq_getElem hltL⟩
    have hne : L ≠ [] := by intro e; rw [e] at hltL; simp at hltL
    obtain ⟨g, cap', cur, hA, _, hnc, hg, _⟩ := HR.out.form hne
    have hA' : A = some ⟨g, 0, none⟩ := by injection hA
    subst hA'
    obtain ⟨c0, c1, c2⟩ := row_cells HR.out k r hr
    clear hA hnc hg hne hltL hkn
    have hxe : x < r.e := by have := H3.out r hr; simpa using this
    have hltI : (k : Int) < (n : Int) := by omega
    have HXE := Lib.hid hxe; clear hxe
    by_cases hsx : x < r.s
    · have hnone : ∀ p, ¬ In L x p := fun p hp => by
        obtain ⟨r', hr', h5, _⟩ := (HIN.out p).1 hp
        rw [hr] at hr'; cases hr'; omega
      have HNO := Lib.hid hnone; clear hnone hr
      go_wp2_with fail
      go_quiet (fail)
      go_wp2_with fail
      refine bodyPost_ret (results_row_tmp rfl _ _ (w.heap.size + 1) 112 _ (0, 0) _ rfl (set3 _ _ _ HZ1.out) Try.underlying112 rfl (by kernel_rfl)) rfl ?_
      exact ⟨⟨0, 0, 0⟩, false, rfl, .inr ⟨rfl, rfl, HNO.out⟩, (((HK1.out.drewN _).set (by simp) _).set (by simp) _).set (by simp) _⟩
    · have HIR := Lib.hid (List.mem_of_getElem? hr); clear hr
      have hsx2 : r.s ≤ x := by omega
      go_wp2_with fail
      go_quiet (fail)
      go_wp2_with fail
      refine bodyPost_ret (results_row_tmp rfl _ _ (w.heap.size + 1) 112 _ (0, 0) _ rfl (set3 _ _ _ HZ1.out) Try.underlying112 rfl (by kernel_rfl)) rfl ?_
      exact ⟨r, true, rfl, .inl ⟨rfl, HIR.out, hsx2, HXE.out⟩, (((HK1.out.drewN _).set (by simp) _).set (by simp) _).set (by simp) _⟩
end Go.Proofs.Ytpalhkfipnbcnaa
