/-
  Room: of the list.
-/
import Derived.Test.YtpalhkfipnbcnaaRoomM
import Derived.Deep.Cut
import Derived.IntWalk
set_option linter.unusedVariables false
set_option linter.unusedSimpArgs false
namespace Go.Proofs.Ytpalhkfipnbcnaa
open Go.RowKit
set_option maxRecDepth 100000
theorem down_any (n : Int) (w : World) (h0 : 0 ≤ n) (h1 : n ≤ 18446744073709551615) : Calls Try.prog 78 #[.int .u64 n] w fun e w' => e = .returned (.int .u64 (n - n % 4096)) ∧ w = w' := by
  have h2 : n % 4096 ≤ n := by omega
  go_enter Try.func78, Try.ntmps78
  go_wp2
  go_ret
  exact ⟨rfl, rfl⟩
/-- A size in whole pages, at least one. -/
def szOf (size : Int) : Int := max ((size + 4095) / 4096 * 4096) 4096
def belOf (below : Int) : Int := min below 274877906944 / 4096 * 4096
theorem szOf_facts (size : Int) (h0 : 0 ≤ size) (h1 : size ≤ 274877906944) : szOf size % 4096 = 0 ∧ 4096 ≤ szOf size ∧ szOf size ≤ 274877911040 := by unfold szOf; omega
theorem belOf_facts (below : Int) (h0 : 0 ≤ below) : belOf below % 4096 = 0 ∧ 0 ≤ belOf below ∧ belOf below ≤ 274877906944 := by unfold belOf; omega
theorem ups_any (n : Int) (w : World) (h0 : 0 ≤ n) (h1 : n ≤ 274877906944) : Calls Try.prog 77 #[.int .u64 n] w fun e w' => e = .returned (.int .u64 ((n + 4095) / 4096 * 4096)) ∧ w = w' := by
  have cd := fun W => down_any (n + 4095) W (by omega) (by omega)
  have he : n + 4095 - (n + 4095) % 4096 = (n + 4095) / 4096 * 4096 := by omega
  rw [he] at cd
  clear he
  have CD := Lib.hid cd; clear cd
  have he2 : n + 4096 - 1 = n + 4095 := by omega
  have HE2 := Lib.hid he2; clear he2
  go_enter Try.func77, Try.ntmps77
  go_wp2_with fail
  (try rw [HE2.out])
  refine (CD.out _).mono ?_
  rintro e w' ⟨rfl, rfl⟩
  go_wp2_with fail
  go_ret
  exact ⟨rfl, rfl⟩
def boxN (w : World) (b : Nat) : Nat := match w.cell? ⟨b, 0, none⟩ with | some (.int _ n) => n.toNat | _ => 0
theorem boxN_of {w : World} {b : Nat} {k : IntKind} {n : Int} (h : w.cell? ⟨b, 0, none⟩ = some (.int k n)) : boxN w b = n.toNat := by unfold boxN; rw [h]
def RoomPost (w : World) (L : List Rg) (sz bel : Int) (e : Ending) (w' : World) : Prop := ∃ x ok, e = .returned (.tuple #[.int .u64 x, .bool ok]) ∧ RoomIs L sz bel x ok ∧ Bl w w'
structure RM (w : World) (L : List Rg) (sz bel : Int) (be : Nat) (en : Int) (wr : World) : Prop where
  box : wr.heap[be]? = some (.cells #[.int .u64 en] 22 (0, 0))
  al : en % 4096 = 0
  pos : 0 ≤ en
  le : en ≤ bel
  no : NoRoom L sz bel en
  bl : Bl w wr
theorem room_far {w : World} {b : Nat} (size below : Int) (h : 274877906944 < size) : Calls Try.prog 66 #[addr0 b, .int .u64 size, .int .u64 below] w fun e w' => e = .returned (.tuple #[.int .u64 0, .bool false]) ∧ Bl w w' := by
  unfold addr0
  go_enter Try.func66, Try.ntmps66
  go_wp2
  go_ret2
  exact ⟨rfl, Bl.refl _⟩
set_option maxHeartbeats 4000000 in
theorem room_any {X : Ctx} {w : World} {b : Nat} {L : List Rg} (h : ListAt X w b L) (hrs : Rs L) (hl : L.length ≤ 256) (size below : Int) (h0 : 0 ≤ size) (h1 : size ≤ 274877906944) (h2 : 0 ≤ below) (h3 : below ≤ 18446744073709551615) :
    Calls Try.prog 66 #[addr0 b, .int .u64 size, .int .u64 below] w (RoomPost w L (szOf size) (belOf below)) := by
  have hmf : ∀ (fn : Fn) (first cap : Array Value) (w : World), (Instr.makeFunc fn first cap).run Try.prog w = .ok (.func fn first cap) w := fun _ _ _ _ => rfl
  obtain ⟨z1, z2, z3⟩ := szOf_facts size h0 h1
  obtain ⟨y1, y2, y3⟩ := belOf_facts below h2
  have cu := fun W => ups_any size W h0 h1
  obtain ⟨u, hu⟩ : ∃ u, u = (size + 4095) / 4096 * 4096 := ⟨_, rfl⟩
  simp only [← hu] at cu
  have mx : ∀ ts t W, (Builtin.max_ ts t #[.int .u64 u, .int .u64 4096]).run Try.prog W = .ok (.int .u64 (szOf size)) W := fun ts t W => by
    rw [max_run]; congr 2; unfold szOf; rw [← hu]; omega
  obtain ⟨mB, hmB⟩ : ∃ mB, mB = min below 274877906944 := ⟨_, rfl⟩
  have mn : ∀ ts t W, (Builtin.min_ ts t #[.int .u64 below, .int .u64 274877906944]).run Try.prog W = .ok (.int .u64 mB) W := fun ts t W => by
    rw [min_run]; congr 2; rw [hmB]; omega
  have cd := fun W => down_any mB W (by omega) (by omega)
  have hbe : mB - mB % 4096 = belOf below := by unfold belOf; rw [← hmB]; omega
  simp only [hbe] at cd
  clear hbe hmB hu
  have CU := Lib.hid cu; clear cu
  have CD := Lib.hid cd; clear cd
  have HH := Lib.hid h; clear h
  have HRS := Lib.hid hrs; clear hrs
  have HL := Lib.hid hl; clear hl
  generalize szOf size = sz at *
  generalize belOf below = bel at *
  have Z1 := Lib.hid z1; clear z1
  have Y1 := Lib.hid y1; clear y1
  unfold addr0
  go_enter Try.func66, Try.ntmps66
  go_wp2_with fail
  refine (CU.out _).mono ?_
  rintro e w' ⟨rfl, rfl⟩
  go_wp2_with fail
  refine (CD.out _).mono ?_
  rintro e w' ⟨rfl, rfl⟩
  clear CU CD mx mn
  go_wp2_with fail
  have hrm : RM w L sz bel w.heap.size bel (w.alloc (.cells #[.int .u64 bel] 22)) := ⟨heap_alloc_new w _, Y1.out, y2, Int.le_refl _, NoRoom.start _ _ _, Bl.new _ _⟩
  have HRM := Lib.hid hrm; clear hrm
  obtain ⟨be, hbe⟩ : ∃ be, be = w.heap.size := ⟨_, rfl⟩
  rw [← hbe] at HRM ⊢
  have HBE := Lib.hid hbe; clear hbe
  generalize w.alloc (.cells #[.int .u64 bel] 22) = W0 at *
  go_loopw [9] (fun _ wr => ∃ en, RM w L sz bel be en wr) (fun _ wr => boxN wr be)
  case atStart => exact ⟨bel, HRM.out⟩
  case round =>
    obtain ⟨en, hrm⟩ := hrel
    clear HRM
    have bc : wr.cell? ⟨be, 0, none⟩ = some (.int .u64 en) := by rw [cell_of_row wr be 0 _ 22 (0, 0) hrm.box]; rfl
    have hN := boxN_of bc
    have e1 := hrm.pos
    have e2 := hrm.le
    have HRM := Lib.hid hrm; clear hrm
    have HNN := Lib.hid hN; clear hN
    by_cases hge : 4096 + sz ≤ en
    · have cs := seek_47 (HH.out.bl HRM.out.bl) bc (fun r W hW => is47_any r be en W hW) (by have := HL.out; omega)
      unfold asks addr0 at cs
      have CS := Lib.hid cs; clear cs
      have hwr : IntKind.u64.wrap (en - sz) = en - sz := IntWalk.u64_in _ (by omega)
      go_wp2_with fail
      refine CS.out.mono ?_
      rintro e w1 ⟨k, rfl, k1, k2, k3, k4⟩
      have hL1 := (HH.out.bl HRM.out.bl).bl k4
      have bc1 := k4.cell' bc
      have hbox1 := k4.at_ HRM.out.box
      have hbl1 := HRM.out.bl.trans k4
      clear CS k4 bc
      have q1 : 0 < k → ∀ r, L[k - 1]? = some r → r.s < en := fun hk r hr => by have := k2 hk r hr; simpa using this
      have q2 : ∀ r, L[k]? = some r → en ≤ r.s := fun r hr => by have := k3 r hr; simpa using this
      obtain ⟨v, hb, hr⟩ := hL1
      obtain ⟨A, cap, rfl⟩ := hr.shape
      have hcell : w1.cell? ⟨b, 0, none⟩ = some (.slice A L.length cap) := by rw [cell_of_row w1 b 0 _ _ (0, 0) hb]; simp
      have Q1 := Lib.hid q1; clear q1 k2
      have Q2 := Lib.hid q2; clear q2 k3
      have K1 := Lib.hid k1; clear k1
      have HR := Lib.hid hr; clear hr hb
      have HBX := Lib.hid hbox1; clear hbox1
      have HBL1 := Lib.hid hbl1; clear hbl1
      obtain ⟨n, hn⟩ : ∃ n, n = L.length := ⟨_, rfl⟩
      rw [← hn] at hcell HR K1
      have hnI : (n : Int) ≤ 256 := by have := HL.out; omega
      have HN := Lib.hid hn; clear hn
      have hkn := K1.out
      have hknI : (k : Int) ≤ (n : Int) := by omega
      clear hkn
      rcases k with _ | j
      · have hfr : FreeIn L (en - sz) en := free_room HRS.out.nm.so (fun h => absurd h (by omega)) Q2.out (by omega) (fun h => absurd h (by omega))
        have hp : RoomPost w L sz bel (.returned (.tuple #[.int .u64 (en - sz), .bool true])) w1 := ⟨_, _, rfl, room_yes HRM.out.no HRM.out.al Z1.out e2 hge hfr, HBL1.out⟩
        have HP : Hid (∀ q, RoomPost w L sz bel (.returned (.tuple #[.int .u64 (en - sz), .bool true])) (w1.drewN q)) := Lib.hid fun q => ⟨_, _, rfl, room_yes HRM.out.no HRM.out.al Z1.out e2 hge hfr, HBL1.out.drewN q⟩
        clear hp hfr
        go_wp2_with fail
        go_quiet (fail)
        go_wp2_with fail
        go_ret2
        exact HP.out _
      · have hjL : j < L.length := by have := HN.out; omega
        obtain ⟨r, hrj⟩ : ∃ r, L[j]? = some r := ⟨L[j], List.getElem?_eq_getElem hjL⟩
        have hne : L ≠ [] := by intro e; rw [e] at hjL; simp at hjL
        obtain ⟨g, cap', cur, hA, _, hnc, hg, _⟩ := HR.out.form hne
        have hA' : A = some ⟨g, 0, none⟩ := by injection hA
        subst hA'
        obtain ⟨c0, c1, c2⟩ := row_cells HR.out j r hrj
        clear hA hnc hg hne
        obtain ⟨r1, r2, r3⟩ := HRS.out.nm.2 r (List.mem_of_getElem? hrj)
        obtain ⟨ra, rb⟩ := HRS.out.al r (List.mem_of_getElem? hrj)
        have rlt : r.s < en := Q1.out (by omega) r hrj
        have RA := Lib.hid ra; clear ra rb
        have hjn : (j : Int) < (n : Int) := by have := HN.out; omega
        have hj0 : (0 : Int) ≤ (j : Int) := by omega
        have hjI : (j : Int) ≤ 256 := by omega
        have wj : IntKind.i64.wrap (j : Int) = (j : Int) := IntWalk.i64_in _ (by omega)
        have tj : ((j : Int) + 1 == 0) = false := by simp; omega
        have HRJ := Lib.hid hrj; clear hrj
        by_cases hfit : r.e ≤ en - sz
        · have hfr : FreeIn L (en - sz) en := free_room HRS.out.nm.so Q1.out Q2.out (by have := HN.out; omega) (fun _ r' hr' => by
            rw [Nat.add_sub_cancel, HRJ.out] at hr'; cases hr'; exact hfit)
          have HP : Hid (∀ q, RoomPost w L sz bel (.returned (.tuple #[.int .u64 (en - sz), .bool true])) (w1.drewN q)) := Lib.hid fun q => ⟨_, _, rfl, room_yes HRM.out.no HRM.out.al Z1.out e2 hge hfr, HBL1.out.drewN q⟩
          clear hfr
          go_wp2_with fail
          go_quiet (fail)
          go_wp2_with fail
          go_ret2
          exact HP.out _
        · have hfit2 : en - sz < r.e := by omega
          have hfz : w1.frozen? ⟨be, 0, none⟩ = false := by simp [World.frozen?, HBX.out]
          have hdn := HRM.out.no.down (by omega) (List.mem_of_getElem? HRJ.out) r2 hfit2
          have HRM2 : Hid (∀ q, RM w L sz bel be r.s ((w1.drewN q).setCell ⟨be, 0, none⟩ (.int .u64 r.s))) := Lib.hid fun q => ⟨heap_setCell_same (w1.drewN q) be 0 _ 22 _ HBX.out, RA.out, r1, by omega, hdn, (HBL1.out.drewN q).set (by rw [HBE.out]; exact Nat.le_refl _) _⟩
          clear hdn
          go_wp2_with fail
          go_quiet (fail)
          go_wp2_with fail
          refine ⟨⟨r.s, HRM2.out _⟩, ?_⟩
          have hb2 : boxN ((w1.drewN nq).setCell ⟨be, 0, none⟩ (.int .u64 r.s)) be = r.s.toNat := boxN_of (k := .u64) (by rw [cell_of_row _ be 0 _ 22 (0, 0) (HRM2.out nq).box]; rfl)
          rw [hb2, HNN.out]
          omega
    · have hp : RoomPost w L sz bel (.returned (.tuple #[.int .u64 0, .bool false])) wr := ⟨_, _, rfl, room_no HRM.out.no (by omega), HRM.out.bl⟩
      have HP := Lib.hid hp; clear hp
      have hlt : en < 4096 + sz := by omega
      go_wp2_with fail
      go_ret2
      exact HP.out
end Go.Proofs.Ytpalhkfipnbcnaa
