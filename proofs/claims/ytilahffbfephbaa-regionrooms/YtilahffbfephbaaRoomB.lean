/-
  Room: of a space.
-/
import Derived.Test.YtilahffbfephbaaRoomA
import Derived.Test.YtilahffbfephbaaRefF
set_option linter.unusedVariables false
set_option linter.unusedSimpArgs false
namespace Go.Proofs.Ytilahffbfephbaa
open Go.RowKit
set_option maxRecDepth 100000
structure RQ (P : List Pg) (sz bel en i : Int) : Prop where
  al : en % 4096 = 0
  pos : 0 ≤ en
  le : en ≤ bel
  no : NoRoom (regs P) sz bel en
  above : ∀ (j : Nat) x, P[j]? = some x → i ≤ (j : Int) → en ≤ x.no * 4096
  last : i = -1 → en < 4096 + sz
theorem pg_below {P : List Pg} (hp : Pgs 100 P) {j m : Nat} {x y : Pg} (h : j < m) (hx : P[j]? = some x) (hy : P[m]? = some y) : x.no < y.no := by
  obtain ⟨h1, rfl⟩ := List.getElem?_eq_some_iff.1 hx
  obtain ⟨h2, rfl⟩ := List.getElem?_eq_some_iff.1 hy
  exact List.pairwise_iff_getElem.1 hp.1 j m h1 h2 h
/-- Free: all pages from i on begin at en or behind it, the one ahead ends at low. -/
theorem RQ.free {P : List Pg} {sz bel en i low : Int} (h : RQ P sz bel en i) (hp : Pgs 100 P) (hlow : ∀ (j : Nat) x, P[j]? = some x → (j : Int) < i → x.no * 4096 + 4096 ≤ low) (hle : low + sz ≤ en) : FreeIn (regs P) (en - sz) en := by
  rintro a q a1 a2 hin
  obtain ⟨x, hx, b1, b2, b3⟩ := (regs_in hp a q).1 hin
  obtain ⟨j, hj, hjx⟩ := List.mem_iff_getElem.1 hx
  have hjx : P[j]? = some x := by rw [List.getElem?_eq_getElem hj, hjx]
  rcases Int.lt_or_le (j : Int) i with h1 | h1
  · have := hlow j x hjx h1; omega
  · have := h.above j x hjx h1; omega
theorem RQ.next {P : List Pg} {sz bel en : Int} {j : Nat} {x : Pg} (h : RQ P sz bel en ((j : Int) + 1)) (hp : Pgs 100 P) (hsz : 0 < sz) (hx : P[j]? = some x) (hno : en < x.no * 4096 + 4096 + sz) (hlt : x.no * 4096 < en) : RQ P sz bel (x.no * 4096) (j : Int) := by
  have hxm := List.mem_of_getElem? hx
  have hx0 := hp.2 x hxm
  refine ⟨by omega, by omega, by have := h.le; omega, fun y y1 y2 y3 => ?_, fun m z hz hm => ?_, fun e => by omega⟩
  · by_cases hy : en < y + sz
    · exact h.no y y1 hy y3
    · intro hf
      exact hf (max y (x.no * 4096)) x.p (by omega) (by omega) ((regs_in hp _ _).2 ⟨x, hxm, by omega, by omega, rfl⟩)
  · rcases Nat.lt_or_ge j m with h1 | h1
    · have := pg_below hp h1 hx hz; omega
    · obtain rfl : m = j := by omega
      rw [hx] at hz; cases hz; omega
theorem RQ.same {P : List Pg} {sz bel en : Int} {j : Nat} {x : Pg} (h : RQ P sz bel en ((j : Int) + 1)) (hx : P[j]? = some x) (hge : en ≤ x.no * 4096) : RQ P sz bel en (j : Int) := by
  refine ⟨h.al, h.pos, h.le, h.no, fun m z hz hm => ?_, fun e => by omega⟩
  rcases Nat.lt_or_ge j m with h1 | h1
  · exact h.above m z hz (by omega)
  · obtain rfl : m = j := by omega
    rw [hx] at hz; cases hz; exact hge
theorem rroom_far {w : World} (b : Nat) (size below : Int) (h : 274877906944 < size) : Calls Try.prog 31 #[addr0 b, .int .u64 size, .int .u64 below] w fun e w' => e = .returned (.tuple #[.int .u64 0, .bool false]) ∧ Bl w w' := by
  unfold addr0
  go_enter Try.func31, Try.ntmps31
  go_wp2
  go_ret2
  exact ⟨rfl, Bl.refl _⟩
set_option maxHeartbeats 8000000 in
theorem rroom_any {w : World} {sb : Nat} {P : List Pg} (h : SpaceAt w sb P) (hp : Pgs 100 P) (size below : Int) (h0 : 0 ≤ size) (h1 : size ≤ 274877906944) (h2 : 0 ≤ below) (h3 : below ≤ 18446744073709551615) :
    Calls Try.prog 31 #[addr0 sb, .int .u64 size, .int .u64 below] w (RoomPost w (regs P) (szOf size) (belOf below)) := by
  obtain ⟨AS, capS, e0, _, hpr⟩ := h.cells
  have cu := fun W => up_any size W h0 h1
  have hn100 := hp.len
  have HP := Lib.hid hp; clear hp
  have HPR := Lib.hid hpr; clear hpr
  obtain ⟨n, hn⟩ : ∃ n, n = P.length := ⟨_, rfl⟩
  rw [← hn] at e0 HPR hn100
  have hnI : (n : Int) ≤ 100 := by omega
  have HN := Lib.hid hn; clear hn h
  unfold addr0
  by_cases hz : size = 0
  · have hsz : szOf size = 4096 := by unfold szOf; rw [hz]; rfl
    have hu : (size + 4095) / 4096 * 4096 = 0 := by rw [hz]; rfl
    rw [hsz]
    simp only [hu] at cu
    clear hsz hu hz
    have CU := Lib.hid cu; clear cu
    have z1 : (4096 : Int) % 4096 = 0 := rfl
    have Z1 := Lib.hid z1; clear z1
    by_cases hb : 274877906944 < below
    · have hbe : belOf below = 274877906944 := by unfold belOf; omega
      rw [hbe]
      have y1 : (274877906944 : Int) % 4096 = 0 := by omega
      have Y1 := Lib.hid y1; clear y1 hbe
      go_enter Try.func31, Try.ntmps31
      go_wp2_with fail
      refine (CU.out _).mono ?_
      rintro e w' ⟨rfl, rfl⟩
      go_upto_region 9 with (fail)
      skip
      have hrq : RQ P 4096 274877906944 274877906944 (n : Int) := ⟨Y1.out, by omega, by omega, NoRoom.start _ _ _, fun j x hx hj => by
        have h5 := (List.getElem?_eq_some_iff.1 hx).1
        have := HN.out
        omega, fun e => by omega⟩
      have HRQ := Lib.hid hrq; clear hrq
      go_wp2_with fail
      go_loop [8, 9, 10] (fun v8 v9 _ => ∃ en i : Int, v8 = .int .u64 en ∧ v9 = .int .i64 i ∧ -1 ≤ i ∧ i ≤ (n : Int) ∧ RQ P 4096 274877906944 en i) (fun _ v9 _ => (intOf v9 + 1).toNat)
      case atStart => exact ⟨274877906944, (n : Int), rfl, rfl, by omega, by omega, HRQ.out⟩
      case round =>
        obtain ⟨en, i, rfl, rfl, i1, i2, hrq⟩ := hrel
        have q1 := hrq.pos
        have q2 := hrq.le
        clear HRQ
        have HRQ := Lib.hid hrq; clear hrq
        by_cases im : i = -1
        · have hi : i < 0 := by omega
          have hp2 : RoomPost w (regs P) 4096 274877906944 (.returned (.tuple #[.int .u64 0, .bool false])) w := ⟨_, _, rfl, room_no HRQ.out.no (HRQ.out.last im), Bl.refl _⟩
          have HPO := Lib.hid hp2; clear hp2 im
          go_wp2_with fail
          go_ret2
          exact HPO.out
        · by_cases iz : i = 0
          · subst iz
            by_cases hfit : 4096 + 4096 ≤ en
            · have hfr := HRQ.out.free (low := 4096) HP.out (fun j x hx hj => by omega) hfit
              have hp2 : RoomPost w (regs P) 4096 274877906944 (.returned (.tuple #[.int .u64 (en - 4096), .bool true])) w := ⟨_, _, rfl, room_yes HRQ.out.no HRQ.out.al Z1.out q2 hfit hfr, Bl.refl _⟩
              have HPO := Lib.hid hp2; clear hp2 hfr
              have f1 : 4096 ≤ en := by omega
              have f2 : 4096 ≤ en - 4096 := by omega
              go_wp2_with fail
              go_ret2
              exact HPO.out
            · have hrq2 : RQ P 4096 274877906944 en (-1) := ⟨HRQ.out.al, q1, q2, HRQ.out.no, fun j x hx hj => HRQ.out.above j x hx (by omega), fun _ => by omega⟩
              have HRQ2 := Lib.hid hrq2; clear hrq2
              by_cases f1 : 4096 ≤ en
              · have f2 : en - 4096 < 4096 := by omega
                go_wp2_with fail
                refine ⟨⟨en, -1, rfl, rfl, by omega, by omega, HRQ2.out⟩, ?_⟩
                simp only [intOf]; omega
              · have f2 : en < 4096 := by omega
                go_wp2_with fail
                refine ⟨⟨en, -1, rfl, rfl, by omega, by omega, HRQ2.out⟩, ?_⟩
                simp only [intOf]; omega
          · obtain ⟨j, hj⟩ : ∃ j : Nat, i = (j : Int) + 1 := ⟨(i - 1).toNat, by omega⟩
            subst hj
            have hjL : j < P.length := by have := HN.out; omega
            obtain ⟨x, hx⟩ : ∃ x, P[j]? = some x := ⟨P[j], List.getElem?_eq_getElem hjL⟩
            have hne : P ≠ [] := by intro e; rw [e] at hjL; simp at hjL
            obtain ⟨g, cap', cur, hA, _, hnc, hg, _⟩ := HPR.out.form hne
            have hA' : AS = some ⟨g, 0, none⟩ := by injection hA
            subst hA'
            obtain ⟨c0, c1, c2⟩ := prow_cells HPR.out j x hx
            clear hA hnc hg hne hjL im iz c1 c2
            have hx0 := HP.out.2 x (List.mem_of_getElem? hx)
            have x1 : 0 ≤ x.no := hx0.1
            have x2 : x.no < 100 := hx0.2
            clear hx0
            have hjn : (j : Int) < (n : Int) := by omega
            have hj0 : (0 : Int) ≤ (j : Int) := by omega
            have HX := Lib.hid hx; clear hx
            by_cases hfit : x.no * 4096 + 4096 + 4096 ≤ en
            · have hfr := HRQ.out.free (low := x.no * 4096 + 4096) HP.out (fun m y hy hm => by
                rcases Nat.lt_or_ge m j with h5 | h5
                · have := pg_below HP.out h5 hy HX.out; omega
                · obtain rfl : m = j := by omega
                  rw [HX.out] at hy; cases hy; exact Int.le_refl _) hfit
              have hp2 : RoomPost w (regs P) 4096 274877906944 (.returned (.tuple #[.int .u64 (en - 4096), .bool true])) w := ⟨_, _, rfl, room_yes HRQ.out.no HRQ.out.al Z1.out q2 (by omega) hfr, Bl.refl _⟩
              have HPO := Lib.hid hp2; clear hp2 hfr
              by_cases x0 : x.no = 0
              · have f0 : (x.no + 1) * 4096 ≤ 4096 := by omega
                have f1 : 4096 ≤ en := by omega
                have f2 : 4096 ≤ en - 4096 := by omega
                have X0 := Lib.hid x0; clear x0
                go_wp2_with fail
                go_ret2
                exact HPO.out
              · have f0 : 4096 < (x.no + 1) * 4096 := by omega
                have f1 : (x.no + 1) * 4096 ≤ en := by omega
                have f2 : 4096 ≤ en - (x.no + 1) * 4096 := by omega
                go_wp2_with fail
                go_ret2
                exact HPO.out
            · have hnf : en < x.no * 4096 + 4096 + 4096 := by omega
              have hrq2 : RQ P 4096 274877906944 (if x.no * 4096 < en then x.no * 4096 else en) (j : Int) := by
                split
                · rename_i h5; exact HRQ.out.next HP.out (by omega) HX.out hnf h5
                · rename_i h5; exact HRQ.out.same HX.out (by omega)
              have HRQ2 := Lib.hid hrq2; clear hrq2 hfit
              by_cases hlt : x.no * 4096 < en
              · rw [if_pos hlt] at HRQ2
                by_cases x0 : x.no = 0
                · have f0 : (x.no + 1) * 4096 ≤ 4096 := by omega
                  have X0 := Lib.hid x0; clear x0
                  by_cases f1 : 4096 ≤ en
                  · have f2 : en - 4096 < 4096 := by omega
                    go_wp2_with fail
                    refine ⟨⟨(x.no * 4096), (j : Int), rfl, by go_num, by omega, by omega, HRQ2.out⟩, ?_⟩
                    (simp only [intOf]) <;> omega
                  · have f2 : en < 4096 := by omega
                    go_wp2_with fail
                    refine ⟨⟨(x.no * 4096), (j : Int), rfl, by go_num, by omega, by omega, HRQ2.out⟩, ?_⟩
                    (simp only [intOf]) <;> omega
                · have f0 : 4096 < (x.no + 1) * 4096 := by omega
                  by_cases f1 : (x.no + 1) * 4096 ≤ en
                  · have f2 : en - (x.no + 1) * 4096 < 4096 := by omega
                    go_wp2_with fail
                    refine ⟨⟨(x.no * 4096), (j : Int), rfl, by go_num, by omega, by omega, HRQ2.out⟩, ?_⟩
                    (simp only [intOf]) <;> omega
                  · have f2 : en < (x.no + 1) * 4096 := by omega
                    go_wp2_with fail
                    refine ⟨⟨(x.no * 4096), (j : Int), rfl, by go_num, by omega, by omega, HRQ2.out⟩, ?_⟩
                    (simp only [intOf]) <;> omega
              · rw [if_neg hlt] at HRQ2
                have hge : en ≤ x.no * 4096 := by omega
                by_cases x0 : x.no = 0
                · have f0 : (x.no + 1) * 4096 ≤ 4096 := by omega
                  have X0 := Lib.hid x0; clear x0
                  have f2 : en < 4096 := by omega
                  go_wp2_with fail
                  refine ⟨⟨en, (j : Int), rfl, by go_num, by omega, by omega, HRQ2.out⟩, ?_⟩
                  (simp only [intOf]) <;> omega
                · have f0 : 4096 < (x.no + 1) * 4096 := by omega
                  have f2 : en < (x.no + 1) * 4096 := by omega
                  go_wp2_with fail
                  refine ⟨⟨en, (j : Int), rfl, by go_num, by omega, by omega, HRQ2.out⟩, ?_⟩
                  (simp only [intOf]) <;> omega
    · have hbe : belOf below = below / 4096 * 4096 := by unfold belOf; omega
      rw [hbe]
      have hb2 : below ≤ 274877906944 := by omega
      have y1 : below / 4096 * 4096 % 4096 = 0 := by omega
      have y2 : 0 ≤ below / 4096 * 4096 := by omega
      have y3 : below / 4096 * 4096 ≤ 274877906944 := by omega
      have Y1 := Lib.hid y1; clear y1 hbe
      go_enter Try.func31, Try.ntmps31
      go_wp2_with fail
      refine (CU.out _).mono ?_
      rintro e w' ⟨rfl, rfl⟩
      go_upto_region 9 with (fail)
      generalize below / 4096 * 4096 = bel at *
      have hrq : RQ P 4096 bel bel (n : Int) := ⟨Y1.out, by omega, by omega, NoRoom.start _ _ _, fun j x hx hj => by
        have h5 := (List.getElem?_eq_some_iff.1 hx).1
        have := HN.out
        omega, fun e => by omega⟩
      have HRQ := Lib.hid hrq; clear hrq
      go_wp2_with fail
      go_loop [8, 9, 10] (fun v8 v9 _ => ∃ en i : Int, v8 = .int .u64 en ∧ v9 = .int .i64 i ∧ -1 ≤ i ∧ i ≤ (n : Int) ∧ RQ P 4096 bel en i) (fun _ v9 _ => (intOf v9 + 1).toNat)
      case atStart => exact ⟨bel, (n : Int), rfl, rfl, by omega, by omega, HRQ.out⟩
      case round =>
        obtain ⟨en, i, rfl, rfl, i1, i2, hrq⟩ := hrel
        have q1 := hrq.pos
        have q2 := hrq.le
        clear HRQ
        have HRQ := Lib.hid hrq; clear hrq
        by_cases im : i = -1
        · have hi : i < 0 := by omega
          have hp2 : RoomPost w (regs P) 4096 bel (.returned (.tuple #[.int .u64 0, .bool false])) w := ⟨_, _, rfl, room_no HRQ.out.no (HRQ.out.last im), Bl.refl _⟩
          have HPO := Lib.hid hp2; clear hp2 im
          go_wp2_with fail
          go_ret2
          exact HPO.out
        · by_cases iz : i = 0
          · subst iz
            by_cases hfit : 4096 + 4096 ≤ en
            · have hfr := HRQ.out.free (low := 4096) HP.out (fun j x hx hj => by omega) hfit
              have hp2 : RoomPost w (regs P) 4096 bel (.returned (.tuple #[.int .u64 (en - 4096), .bool true])) w := ⟨_, _, rfl, room_yes HRQ.out.no HRQ.out.al Z1.out q2 hfit hfr, Bl.refl _⟩
              have HPO := Lib.hid hp2; clear hp2 hfr
              have f1 : 4096 ≤ en := by omega
              have f2 : 4096 ≤ en - 4096 := by omega
              go_wp2_with fail
              go_ret2
              exact HPO.out
            · have hrq2 : RQ P 4096 bel en (-1) := ⟨HRQ.out.al, q1, q2, HRQ.out.no, fun j x hx hj => HRQ.out.above j x hx (by omega), fun _ => by omega⟩
              have HRQ2 := Lib.hid hrq2; clear hrq2
              by_cases f1 : 4096 ≤ en
              · have f2 : en - 4096 < 4096 := by omega
                go_wp2_with fail
                refine ⟨⟨en, -1, rfl, rfl, by omega, by omega, HRQ2.out⟩, ?_⟩
                simp only [intOf]; omega
              · have f2 : en < 4096 := by omega
                go_wp2_with fail
                refine ⟨⟨en, -1, rfl, rfl, by omega, by omega, HRQ2.out⟩, ?_⟩
                simp only [intOf]; omega
          · obtain ⟨j, hj⟩ : ∃ j : Nat, i = (j : Int) + 1 := ⟨(i - 1).toNat, by omega⟩
            subst hj
            have hjL : j < P.length := by have := HN.out; omega
            obtain ⟨x, hx⟩ : ∃ x, P[j]? = some x := ⟨P[j], List.getElem?_eq_getElem hjL⟩
            have hne : P ≠ [] := by intro e; rw [e] at hjL; simp at hjL
            obtain ⟨g, cap', cur, hA, _, hnc, hg, _⟩ := HPR.out.form hne
            have hA' : AS = some ⟨g, 0, none⟩ := by injection hA
            subst hA'
            obtain ⟨c0, c1, c2⟩ := prow_cells HPR.out j x hx
            clear hA hnc hg hne hjL im iz c1 c2
            have hx0 := HP.out.2 x (List.mem_of_getElem? hx)
            have x1 : 0 ≤ x.no := hx0.1
            have x2 : x.no < 100 := hx0.2
            clear hx0
            have hjn : (j : Int) < (n : Int) := by omega
            have hj0 : (0 : Int) ≤ (j : Int) := by omega
            have HX := Lib.hid hx; clear hx
            by_cases hfit : x.no * 4096 + 4096 + 4096 ≤ en
            · have hfr := HRQ.out.free (low := x.no * 4096 + 4096) HP.out (fun m y hy hm => by
                rcases Nat.lt_or_ge m j with h5 | h5
                · have := pg_below HP.out h5 hy HX.out; omega
                · obtain rfl : m = j := by omega
                  rw [HX.out] at hy; cases hy; exact Int.le_refl _) hfit
              have hp2 : RoomPost w (regs P) 4096 bel (.returned (.tuple #[.int .u64 (en - 4096), .bool true])) w := ⟨_, _, rfl, room_yes HRQ.out.no HRQ.out.al Z1.out q2 (by omega) hfr, Bl.refl _⟩
              have HPO := Lib.hid hp2; clear hp2 hfr
              by_cases x0 : x.no = 0
              · have f0 : (x.no + 1) * 4096 ≤ 4096 := by omega
                have f1 : 4096 ≤ en := by omega
                have f2 : 4096 ≤ en - 4096 := by omega
                have X0 := Lib.hid x0; clear x0
                go_wp2_with fail
                go_ret2
                exact HPO.out
              · have f0 : 4096 < (x.no + 1) * 4096 := by omega
                have f1 : (x.no + 1) * 4096 ≤ en := by omega
                have f2 : 4096 ≤ en - (x.no + 1) * 4096 := by omega
                go_wp2_with fail
                go_ret2
                exact HPO.out
            · have hnf : en < x.no * 4096 + 4096 + 4096 := by omega
              have hrq2 : RQ P 4096 bel (if x.no * 4096 < en then x.no * 4096 else en) (j : Int) := by
                split
                · rename_i h5; exact HRQ.out.next HP.out (by omega) HX.out hnf h5
                · rename_i h5; exact HRQ.out.same HX.out (by omega)
              have HRQ2 := Lib.hid hrq2; clear hrq2 hfit
              by_cases hlt : x.no * 4096 < en
              · rw [if_pos hlt] at HRQ2
                by_cases x0 : x.no = 0
                · have f0 : (x.no + 1) * 4096 ≤ 4096 := by omega
                  have X0 := Lib.hid x0; clear x0
                  by_cases f1 : 4096 ≤ en
                  · have f2 : en - 4096 < 4096 := by omega
                    go_wp2_with fail
                    refine ⟨⟨(x.no * 4096), (j : Int), rfl, by go_num, by omega, by omega, HRQ2.out⟩, ?_⟩
                    (simp only [intOf]) <;> omega
                  · have f2 : en < 4096 := by omega
                    go_wp2_with fail
                    refine ⟨⟨(x.no * 4096), (j : Int), rfl, by go_num, by omega, by omega, HRQ2.out⟩, ?_⟩
                    (simp only [intOf]) <;> omega
                · have f0 : 4096 < (x.no + 1) * 4096 := by omega
                  by_cases f1 : (x.no + 1) * 4096 ≤ en
                  · have f2 : en - (x.no + 1) * 4096 < 4096 := by omega
                    go_wp2_with fail
                    refine ⟨⟨(x.no * 4096), (j : Int), rfl, by go_num, by omega, by omega, HRQ2.out⟩, ?_⟩
                    (simp only [intOf]) <;> omega
                  · have f2 : en < (x.no + 1) * 4096 := by omega
                    go_wp2_with fail
                    refine ⟨⟨(x.no * 4096), (j : Int), rfl, by go_num, by omega, by omega, HRQ2.out⟩, ?_⟩
                    (simp only [intOf]) <;> omega
              · rw [if_neg hlt] at HRQ2
                have hge : en ≤ x.no * 4096 := by omega
                by_cases x0 : x.no = 0
                · have f0 : (x.no + 1) * 4096 ≤ 4096 := by omega
                  have X0 := Lib.hid x0; clear x0
                  have f2 : en < 4096 := by omega
                  go_wp2_with fail
                  refine ⟨⟨en, (j : Int), rfl, by go_num, by omega, by omega, HRQ2.out⟩, ?_⟩
                  (simp only [intOf]) <;> omega
                · have f0 : 4096 < (x.no + 1) * 4096 := by omega
                  have f2 : en < (x.no + 1) * 4096 := by omega
                  go_wp2_with fail
                  refine ⟨⟨en, (j : Int), rfl, by go_num, by omega, by omega, HRQ2.out⟩, ?_⟩
                  (simp only [intOf]) <;> omega
  · have hsz : szOf size = (size + 4095) / 4096 * 4096 := by unfold szOf; omega
    obtain ⟨u, hu⟩ : ∃ u, u = (size + 4095) / 4096 * 4096 := ⟨_, rfl⟩
    rw [hsz]
    rw [← hu]
    simp only [← hu] at cu
    have u1 : 4096 ≤ u := by omega
    have u2 : u ≤ 274877906944 := by omega
    have z1 : u % 4096 = 0 := by omega
    have tu : (u == 0) = false := by simp; omega
    have Z1 := Lib.hid z1; clear z1 hsz hu hz
    have CU := Lib.hid cu; clear cu
    by_cases hb : 274877906944 < below
    · have hbe : belOf below = 274877906944 := by unfold belOf; omega
      rw [hbe]
      have y1 : (274877906944 : Int) % 4096 = 0 := by omega
      have Y1 := Lib.hid y1; clear y1 hbe
      go_enter Try.func31, Try.ntmps31
      go_wp2_with fail
      refine (CU.out _).mono ?_
      rintro e w' ⟨rfl, rfl⟩
      go_upto_region 9 with (fail)
      skip
      have hrq : RQ P u 274877906944 274877906944 (n : Int) := ⟨Y1.out, by omega, by omega, NoRoom.start _ _ _, fun j x hx hj => by
        have h5 := (List.getElem?_eq_some_iff.1 hx).1
        have := HN.out
        omega, fun e => by omega⟩
      have HRQ := Lib.hid hrq; clear hrq
      go_wp2_with fail
      go_loop [8, 9, 10] (fun v8 v9 _ => ∃ en i : Int, v8 = .int .u64 en ∧ v9 = .int .i64 i ∧ -1 ≤ i ∧ i ≤ (n : Int) ∧ RQ P u 274877906944 en i) (fun _ v9 _ => (intOf v9 + 1).toNat)
      case atStart => exact ⟨274877906944, (n : Int), rfl, rfl, by omega, by omega, HRQ.out⟩
      case round =>
        obtain ⟨en, i, rfl, rfl, i1, i2, hrq⟩ := hrel
        have q1 := hrq.pos
        have q2 := hrq.le
        clear HRQ
        have HRQ := Lib.hid hrq; clear hrq
        by_cases im : i = -1
        · have hi : i < 0 := by omega
          have hp2 : RoomPost w (regs P) u 274877906944 (.returned (.tuple #[.int .u64 0, .bool false])) w := ⟨_, _, rfl, room_no HRQ.out.no (HRQ.out.last im), Bl.refl _⟩
          have HPO := Lib.hid hp2; clear hp2 im
          go_wp2_with fail
          go_ret2
          exact HPO.out
        · by_cases iz : i = 0
          · subst iz
            by_cases hfit : 4096 + u ≤ en
            · have hfr := HRQ.out.free (low := 4096) HP.out (fun j x hx hj => by omega) hfit
              have hp2 : RoomPost w (regs P) u 274877906944 (.returned (.tuple #[.int .u64 (en - u), .bool true])) w := ⟨_, _, rfl, room_yes HRQ.out.no HRQ.out.al Z1.out q2 hfit hfr, Bl.refl _⟩
              have HPO := Lib.hid hp2; clear hp2 hfr
              have f1 : 4096 ≤ en := by omega
              have f2 : u ≤ en - 4096 := by omega
              go_wp2_with fail
              go_ret2
              exact HPO.out
            · have hrq2 : RQ P u 274877906944 en (-1) := ⟨HRQ.out.al, q1, q2, HRQ.out.no, fun j x hx hj => HRQ.out.above j x hx (by omega), fun _ => by omega⟩
              have HRQ2 := Lib.hid hrq2; clear hrq2
              by_cases f1 : 4096 ≤ en
              · have f2 : en - 4096 < u := by omega
                go_wp2_with fail
                refine ⟨⟨en, -1, rfl, rfl, by omega, by omega, HRQ2.out⟩, ?_⟩
                simp only [intOf]; omega
              · have f2 : en < 4096 := by omega
                go_wp2_with fail
                refine ⟨⟨en, -1, rfl, rfl, by omega, by omega, HRQ2.out⟩, ?_⟩
                simp only [intOf]; omega
          · obtain ⟨j, hj⟩ : ∃ j : Nat, i = (j : Int) + 1 := ⟨(i - 1).toNat, by omega⟩
            subst hj
            have hjL : j < P.length := by have := HN.out; omega
            obtain ⟨x, hx⟩ : ∃ x, P[j]? = some x := ⟨P[j], List.getElem?_eq_getElem hjL⟩
            have hne : P ≠ [] := by intro e; rw [e] at hjL; simp at hjL
            obtain ⟨g, cap', cur, hA, _, hnc, hg, _⟩ := HPR.out.form hne
            have hA' : AS = some ⟨g, 0, none⟩ := by injection hA
            subst hA'
            obtain ⟨c0, c1, c2⟩ := prow_cells HPR.out j x hx
            clear hA hnc hg hne hjL im iz c1 c2
            have hx0 := HP.out.2 x (List.mem_of_getElem? hx)
            have x1 : 0 ≤ x.no := hx0.1
            have x2 : x.no < 100 := hx0.2
            clear hx0
            have hjn : (j : Int) < (n : Int) := by omega
            have hj0 : (0 : Int) ≤ (j : Int) := by omega
            have HX := Lib.hid hx; clear hx
            by_cases hfit : x.no * 4096 + 4096 + u ≤ en
            · have hfr := HRQ.out.free (low := x.no * 4096 + 4096) HP.out (fun m y hy hm => by
                rcases Nat.lt_or_ge m j with h5 | h5
                · have := pg_below HP.out h5 hy HX.out; omega
                · obtain rfl : m = j := by omega
                  rw [HX.out] at hy; cases hy; exact Int.le_refl _) hfit
              have hp2 : RoomPost w (regs P) u 274877906944 (.returned (.tuple #[.int .u64 (en - u), .bool true])) w := ⟨_, _, rfl, room_yes HRQ.out.no HRQ.out.al Z1.out q2 (by omega) hfr, Bl.refl _⟩
              have HPO := Lib.hid hp2; clear hp2 hfr
              by_cases x0 : x.no = 0
              · have f0 : (x.no + 1) * 4096 ≤ 4096 := by omega
                have f1 : 4096 ≤ en := by omega
                have f2 : u ≤ en - 4096 := by omega
                have X0 := Lib.hid x0; clear x0
                go_wp2_with fail
                go_ret2
                exact HPO.out
              · have f0 : 4096 < (x.no + 1) * 4096 := by omega
                have f1 : (x.no + 1) * 4096 ≤ en := by omega
                have f2 : u ≤ en - (x.no + 1) * 4096 := by omega
                go_wp2_with fail
                go_ret2
                exact HPO.out
            · have hnf : en < x.no * 4096 + 4096 + u := by omega
              have hrq2 : RQ P u 274877906944 (if x.no * 4096 < en then x.no * 4096 else en) (j : Int) := by
                split
                · rename_i h5; exact HRQ.out.next HP.out (by omega) HX.out hnf h5
                · rename_i h5; exact HRQ.out.same HX.out (by omega)
              have HRQ2 := Lib.hid hrq2; clear hrq2 hfit
              by_cases hlt : x.no * 4096 < en
              · rw [if_pos hlt] at HRQ2
                by_cases x0 : x.no = 0
                · have f0 : (x.no + 1) * 4096 ≤ 4096 := by omega
                  have X0 := Lib.hid x0; clear x0
                  by_cases f1 : 4096 ≤ en
                  · have f2 : en - 4096 < u := by omega
                    go_wp2_with fail
                    refine ⟨⟨(x.no * 4096), (j : Int), rfl, by go_num, by omega, by omega, HRQ2.out⟩, ?_⟩
                    (simp only [intOf]) <;> omega
                  · have f2 : en < 4096 := by omega
                    go_wp2_with fail
                    refine ⟨⟨(x.no * 4096), (j : Int), rfl, by go_num, by omega, by omega, HRQ2.out⟩, ?_⟩
                    (simp only [intOf]) <;> omega
                · have f0 : 4096 < (x.no + 1) * 4096 := by omega
                  by_cases f1 : (x.no + 1) * 4096 ≤ en
                  · have f2 : en - (x.no + 1) * 4096 < u := by omega
                    go_wp2_with fail
                    refine ⟨⟨(x.no * 4096), (j : Int), rfl, by go_num, by omega, by omega, HRQ2.out⟩, ?_⟩
                    (simp only [intOf]) <;> omega
                  · have f2 : en < (x.no + 1) * 4096 := by omega
                    go_wp2_with fail
                    refine ⟨⟨(x.no * 4096), (j : Int), rfl, by go_num, by omega, by omega, HRQ2.out⟩, ?_⟩
                    (simp only [intOf]) <;> omega
              · rw [if_neg hlt] at HRQ2
                have hge : en ≤ x.no * 4096 := by omega
                by_cases x0 : x.no = 0
                · have f0 : (x.no + 1) * 4096 ≤ 4096 := by omega
                  have X0 := Lib.hid x0; clear x0
                  have f2 : en < 4096 := by omega
                  go_wp2_with fail
                  refine ⟨⟨en, (j : Int), rfl, by go_num, by omega, by omega, HRQ2.out⟩, ?_⟩
                  (simp only [intOf]) <;> omega
                · have f0 : 4096 < (x.no + 1) * 4096 := by omega
                  have f2 : en < (x.no + 1) * 4096 := by omega
                  go_wp2_with fail
                  refine ⟨⟨en, (j : Int), rfl, by go_num, by omega, by omega, HRQ2.out⟩, ?_⟩
                  (simp only [intOf]) <;> omega
    · have hbe : belOf below = below / 4096 * 4096 := by unfold belOf; omega
      rw [hbe]
      have hb2 : below ≤ 274877906944 := by omega
      have y1 : below / 4096 * 4096 % 4096 = 0 := by omega
      have y2 : 0 ≤ below / 4096 * 4096 := by omega
      have y3 : below / 4096 * 4096 ≤ 274877906944 := by omega
      have Y1 := Lib.hid y1; clear y1 hbe
      go_enter Try.func31, Try.ntmps31
      go_wp2_with fail
      refine (CU.out _).mono ?_
      rintro e w' ⟨rfl, rfl⟩
      go_upto_region 9 with (fail)
      generalize below / 4096 * 4096 = bel at *
      have hrq : RQ P u bel bel (n : Int) := ⟨Y1.out, by omega, by omega, NoRoom.start _ _ _, fun j x hx hj => by
        have h5 := (List.getElem?_eq_some_iff.1 hx).1
        have := HN.out
        omega, fun e => by omega⟩
      have HRQ := Lib.hid hrq; clear hrq
      go_wp2_with fail
      go_loop [8, 9, 10] (fun v8 v9 _ => ∃ en i : Int, v8 = .int .u64 en ∧ v9 = .int .i64 i ∧ -1 ≤ i ∧ i ≤ (n : Int) ∧ RQ P u bel en i) (fun _ v9 _ => (intOf v9 + 1).toNat)
      case atStart => exact ⟨bel, (n : Int), rfl, rfl, by omega, by omega, HRQ.out⟩
      case round =>
        obtain ⟨en, i, rfl, rfl, i1, i2, hrq⟩ := hrel
        have q1 := hrq.pos
        have q2 := hrq.le
        clear HRQ
        have HRQ := Lib.hid hrq; clear hrq
        by_cases im : i = -1
        · have hi : i < 0 := by omega
          have hp2 : RoomPost w (regs P) u bel (.returned (.tuple #[.int .u64 0, .bool false])) w := ⟨_, _, rfl, room_no HRQ.out.no (HRQ.out.last im), Bl.refl _⟩
          have HPO := Lib.hid hp2; clear hp2 im
          go_wp2_with fail
          go_ret2
          exact HPO.out
        · by_cases iz : i = 0
          · subst iz
            by_cases hfit : 4096 + u ≤ en
            · have hfr := HRQ.out.free (low := 4096) HP.out (fun j x hx hj => by omega) hfit
              have hp2 : RoomPost w (regs P) u bel (.returned (.tuple #[.int .u64 (en - u), .bool true])) w := ⟨_, _, rfl, room_yes HRQ.out.no HRQ.out.al Z1.out q2 hfit hfr, Bl.refl _⟩
              have HPO := Lib.hid hp2; clear hp2 hfr
              have f1 : 4096 ≤ en := by omega
              have f2 : u ≤ en - 4096 := by omega
              go_wp2_with fail
              go_ret2
              exact HPO.out
            · have hrq2 : RQ P u bel en (-1) := ⟨HRQ.out.al, q1, q2, HRQ.out.no, fun j x hx hj => HRQ.out.above j x hx (by omega), fun _ => by omega⟩
              have HRQ2 := Lib.hid hrq2; clear hrq2
              by_cases f1 : 4096 ≤ en
              · have f2 : en - 4096 < u := by omega
                go_wp2_with fail
                refine ⟨⟨en, -1, rfl, rfl, by omega, by omega, HRQ2.out⟩, ?_⟩
                simp only [intOf]; omega
              · have f2 : en < 4096 := by omega
                go_wp2_with fail
                refine ⟨⟨en, -1, rfl, rfl, by omega, by omega, HRQ2.out⟩, ?_⟩
                simp only [intOf]; omega
          · obtain ⟨j, hj⟩ : ∃ j : Nat, i = (j : Int) + 1 := ⟨(i - 1).toNat, by omega⟩
            subst hj
            have hjL : j < P.length := by have := HN.out; omega
            obtain ⟨x, hx⟩ : ∃ x, P[j]? = some x := ⟨P[j], List.getElem?_eq_getElem hjL⟩
            have hne : P ≠ [] := by intro e; rw [e] at hjL; simp at hjL
            obtain ⟨g, cap', cur, hA, _, hnc, hg, _⟩ := HPR.out.form hne
            have hA' : AS = some ⟨g, 0, none⟩ := by injection hA
            subst hA'
            obtain ⟨c0, c1, c2⟩ := prow_cells HPR.out j x hx
            clear hA hnc hg hne hjL im iz c1 c2
            have hx0 := HP.out.2 x (List.mem_of_getElem? hx)
            have x1 : 0 ≤ x.no := hx0.1
            have x2 : x.no < 100 := hx0.2
            clear hx0
            have hjn : (j : Int) < (n : Int) := by omega
            have hj0 : (0 : Int) ≤ (j : Int) := by omega
            have HX := Lib.hid hx; clear hx
            by_cases hfit : x.no * 4096 + 4096 + u ≤ en
            · have hfr := HRQ.out.free (low := x.no * 4096 + 4096) HP.out (fun m y hy hm => by
                rcases Nat.lt_or_ge m j with h5 | h5
                · have := pg_below HP.out h5 hy HX.out; omega
                · obtain rfl : m = j := by omega
                  rw [HX.out] at hy; cases hy; exact Int.le_refl _) hfit
              have hp2 : RoomPost w (regs P) u bel (.returned (.tuple #[.int .u64 (en - u), .bool true])) w := ⟨_, _, rfl, room_yes HRQ.out.no HRQ.out.al Z1.out q2 (by omega) hfr, Bl.refl _⟩
              have HPO := Lib.hid hp2; clear hp2 hfr
              by_cases x0 : x.no = 0
              · have f0 : (x.no + 1) * 4096 ≤ 4096 := by omega
                have f1 : 4096 ≤ en := by omega
                have f2 : u ≤ en - 4096 := by omega
                have X0 := Lib.hid x0; clear x0
                go_wp2_with fail
                go_ret2
                exact HPO.out
              · have f0 : 4096 < (x.no + 1) * 4096 := by omega
                have f1 : (x.no + 1) * 4096 ≤ en := by omega
                have f2 : u ≤ en - (x.no + 1) * 4096 := by omega
                go_wp2_with fail
                go_ret2
                exact HPO.out
            · have hnf : en < x.no * 4096 + 4096 + u := by omega
              have hrq2 : RQ P u bel (if x.no * 4096 < en then x.no * 4096 else en) (j : Int) := by
                split
                · rename_i h5; exact HRQ.out.next HP.out (by omega) HX.out hnf h5
                · rename_i h5; exact HRQ.out.same HX.out (by omega)
              have HRQ2 := Lib.hid hrq2; clear hrq2 hfit
              by_cases hlt : x.no * 4096 < en
              · rw [if_pos hlt] at HRQ2
                by_cases x0 : x.no = 0
                · have f0 : (x.no + 1) * 4096 ≤ 4096 := by omega
                  have X0 := Lib.hid x0; clear x0
                  by_cases f1 : 4096 ≤ en
                  · have f2 : en - 4096 < u := by omega
                    go_wp2_with fail
                    refine ⟨⟨(x.no * 4096), (j : Int), rfl, by go_num, by omega, by omega, HRQ2.out⟩, ?_⟩
                    (simp only [intOf]) <;> omega
                  · have f2 : en < 4096 := by omega
                    go_wp2_with fail
                    refine ⟨⟨(x.no * 4096), (j : Int), rfl, by go_num, by omega, by omega, HRQ2.out⟩, ?_⟩
                    (simp only [intOf]) <;> omega
                · have f0 : 4096 < (x.no + 1) * 4096 := by omega
                  by_cases f1 : (x.no + 1) * 4096 ≤ en
                  · have f2 : en - (x.no + 1) * 4096 < u := by omega
                    go_wp2_with fail
                    refine ⟨⟨(x.no * 4096), (j : Int), rfl, by go_num, by omega, by omega, HRQ2.out⟩, ?_⟩
                    (simp only [intOf]) <;> omega
                  · have f2 : en < (x.no + 1) * 4096 := by omega
                    go_wp2_with fail
                    refine ⟨⟨(x.no * 4096), (j : Int), rfl, by go_num, by omega, by omega, HRQ2.out⟩, ?_⟩
                    (simp only [intOf]) <;> omega
              · rw [if_neg hlt] at HRQ2
                have hge : en ≤ x.no * 4096 := by omega
                by_cases x0 : x.no = 0
                · have f0 : (x.no + 1) * 4096 ≤ 4096 := by omega
                  have X0 := Lib.hid x0; clear x0
                  have f2 : en < 4096 := by omega
                  go_wp2_with fail
                  refine ⟨⟨en, (j : Int), rfl, by go_num, by omega, by omega, HRQ2.out⟩, ?_⟩
                  (simp only [intOf]) <;> omega
                · have f0 : 4096 < (x.no + 1) * 4096 := by omega
                  have f2 : en < (x.no + 1) * 4096 := by omega
                  go_wp2_with fail
                  refine ⟨⟨en, (j : Int), rfl, by go_num, by omega, by omega, HRQ2.out⟩, ?_⟩
                  (simp only [intOf]) <;> omega
end Go.Proofs.Ytilahffbfephbaa
