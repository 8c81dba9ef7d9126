/-
  The walk of MemRooms.
-/
import Derived.Test.YteeheojjmdlmgaaInts
set_option linter.unusedVariables false
set_option linter.unusedSimpArgs false
namespace Go.Proofs.Yteeheojjmdlmgaa
open Go.RowKit
set_option maxRecDepth 100000
/-- All places from low up to the top of mappings are mapped, and no others. -/
structure RI (L : List Rg) (low used : Int) : Prop where
  rs : Rs L
  tot_ : tot L = used * 4096
  low_ : low = 274877833216 - used * 4096
  u0 : 0 ≤ used
  u1 : used ≤ 200
  pl : ∀ x, (∃ q, In L x q) ↔ low ≤ x ∧ x < 274877833216
theorem RI.nil : RI [] 274877833216 0 := ⟨Rs.nil, rfl, by omega, by omega, by omega, fun x => ⟨fun ⟨q, h⟩ => absurd h (In_nil x q), fun h => by omega⟩⟩
theorem RI.room {L : List Rg} {low used sz x : Int} {ok : Bool} (h : RI L low used) (hz : sz % 4096 = 0) (h0 : 4096 ≤ sz) (h1 : sz ≤ 65536) (hr : RoomIs L sz 274877833216 x ok) : ok = true ∧ x = low - sz := by
  have hl := h.low_
  have u0 := h.u0
  have u1 := h.u1
  have hr2 : RoomIs L sz 274877833216 (low - sz) true := by
    refine .inl ⟨rfl, by omega, by omega, by omega, fun y p y1 y2 hin => ?_, fun y y1 y2 y3 hf => ?_⟩
    · have := (h.pl y).1 ⟨p, hin⟩
      omega
    · obtain ⟨q, hq⟩ := (h.pl (max y low)).2 (by omega)
      exact hf _ q (by omega) (by omega) hq
  obtain ⟨e1, e2⟩ := room_unique hr hr2
  exact ⟨e2, e1⟩
theorem RI.free {L : List Rg} {low used sz : Int} (h : RI L low used) : FreeIn L (low - sz) low := fun y p y1 y2 hin => by
  have := (h.pl y).1 ⟨p, hin⟩
  omega
theorem RI.tot_next {L : List Rg} {low used sz p : Int} (h : RI L low used) (h0 : 4096 ≤ sz) (h1 : sz ≤ 65536) : tot (layL L (low - sz) low [⟨low - sz, low, p⟩]) = used * 4096 + sz := by
  have hl := h.low_
  have u0 := h.u0
  have u1 := h.u1
  rw [tot_layL h.rs.nm.so (by omega) (by omega) (by omega), tot_within_free h.free, h.tot_]
  simp only [tot]
  omega
theorem RI.next {L : List Rg} {low used pg p : Int} (h : RI L low used) (h0 : 1 ≤ pg) (h1 : pg ≤ 16) (hu : used + pg ≤ 200) : RI (layL L (low - pg * 4096) low [⟨low - pg * 4096, low, p⟩]) (low - pg * 4096) (used + pg) := by
  have hl := h.low_
  have u0 := h.u0
  have u1 := h.u1
  have hs : Span (low - pg * 4096) low := ⟨by omega, by omega, by omega, by omega⟩
  refine ⟨h.rs.lay (by omega) hs, by rw [h.tot_next (by omega) (by omega)]; omega, by omega, by omega, hu, fun x => ⟨fun ⟨q, hq⟩ => ?_, fun hx => ?_⟩⟩
  · rw [lay_in h.rs (by omega) hs] at hq
    rcases hq with hq | ⟨_, hq⟩
    · omega
    · have := (h.pl x).1 ⟨q, hq⟩
      omega
  · by_cases hx2 : x < low
    · exact ⟨p, (lay_in h.rs (by omega) hs x p).2 (.inl ⟨by omega, hx2, rfl⟩)⟩
    · obtain ⟨q, hq⟩ := (h.pl x).2 (by omega)
      exact ⟨q, (lay_in h.rs (by omega) hs x q).2 (.inr ⟨.inr (by omega), hq⟩)⟩
theorem RI.few {L : List Rg} {low used : Int} (h : RI L low used) : L.length ≤ 256 := by
  have := len_tot h.rs.nm.so h.rs.al
  have h1 := h.tot_
  have h2 := h.u1
  omega
/-- What a Map that is not told where answers here. -/
def RoomsPost (T : Nat → Prop) (w : World) (sb n : Nat) (M st : Nat → Int) (L : List Rg) (low used pg : Int) (e : Ending) (w' : World) : Prop :=
  (used + pg ≤ 200 ∧ e = .returned (.tuple #[.int .u64 (low - pg * 4096), .int .i64 0]) ∧ ∃ L' M' st', RI L' (low - pg * 4096) (used + pg) ∧ MS T w' sb (n + 8192) L' M' st' 200 0 0 ∧ Fr T w w') ∨
  (200 < used + pg ∧ e = .returned (.tuple #[.int .u64 0, .int .i64 12]) ∧ Bl w w')
theorem rooms_map {T : Nat → Prop} {w : World} {sb n : Nat} {L : List Rg} {M st : Nat → Int} {low used : Int} (hi : RI L low used) (h : MS T w sb n L M st 200 0 0) (size p pg : Int) (h1 : 1 ≤ size) (h2 : size ≤ 65535) (hp : 1 ≤ p ∧ p ≤ 3) (hpg : (size + 4095) / 4096 = pg) (hn : n < 80000000) (hT : ∀ b, w.heap.size ≤ b → T b) :
    Calls Try.prog 9 #[addr0 sb, .int .u64 0, .int .u64 size, .int .i64 p, .bool false] w (RoomsPost T w sb n M st L low used pg) := by
  have c := mmap_free h 0 size p (by omega) (by omega) ⟨by omega, by omega, by omega, by omega, by omega⟩ hn hT
  rw [hpg] at c
  have hl := hi.low_
  have u0 := hi.u0
  have u1 := hi.u1
  refine c.mono ?_
  rintro e w' ⟨x, ok, hf, hh⟩
  have hr : RoomIs L (pg * 4096) 274877833216 x ok := by
    rcases hf with ⟨_, _, h3, _⟩ | ⟨_, h3⟩
    · exact absurd rfl h3
    · exact h3
  obtain ⟨rfl, rfl⟩ := hi.room (by omega) (by omega) (by omega) hr
  rcases hh with ⟨h3, _⟩ | ⟨_, c, b, hc, hb, r, rfl, hlay⟩
  · cases h3
  · have hb2 : (b : Int) = low := by omega
    have ht := hi.tot_next (sz := pg * 4096) (p := p) (by omega) (by omega)
    unfold LayAny at hlay
    rw [hb2, ← hc] at hlay
    have hs : Span (low - pg * 4096) low := ⟨by omega, by omega, by omega, by omega⟩
    by_cases hu : used + pg ≤ 200
    · have hn := hi.next (p := p) (show 1 ≤ pg by omega) (by omega) hu
      rcases hlay with ⟨rfl, _, _, _, _, _, st', h7, h8, h9⟩ | ⟨_, hx, _⟩ | ⟨_, _, hx, _⟩
      · exact .inl ⟨hu, by rw [if_pos rfl, ← hc], _, _, st', hn, h7, h9⟩
      · exact absurd ⟨hs, by omega, by omega⟩ hx
      · rcases hx with hx | hx
        · have := hn.few; omega
        · rw [ht] at hx; omega
    · rcases hlay with ⟨rfl, _, _, _, _, hx, _⟩ | ⟨_, hx, _⟩ | ⟨rfl, _, _, hk⟩
      · rw [ht] at hx; omega
      · exact absurd ⟨hs, by omega, by omega⟩ hx
      · exact .inr ⟨by omega, rfl, hk⟩
theorem refUp_any (n : Int) (w : World) (h0 : 0 ≤ n) (h1 : n ≤ 274877906944) : Calls Try.prog 19 #[.int .u64 n] w fun e w' => e = .returned (.int .u64 ((n + 4095) / 4096 * 4096)) ∧ w = w' := by
  go_enter Try.func19, Try.ntmps19
  go_wp2
  go_ret
  exact ⟨rfl, rfl⟩
set_option maxHeartbeats 4000000 in
theorem rooms_walk (a0 : Option Addr) (len0 cap0 : Nat) (w : World) (hz : Nums .u16 w a0 len0) (hlen : len0 ≤ 9223372036854775807) :
    Calls Try.prog 6 #[.slice a0 len0 cap0] w (BoolPost w true) := by
  have cn := mnew_any (from_ w.heap.size) 200 w (Nat.le_refl _) (by omega) (by omega)
  have CN := Lib.hid cn; clear cn
  have HZ := Lib.hid hz; clear hz
  have hlenI : (len0 : Int) ≤ 9223372036854775807 := by omega
  go_enter Try.func6, Try.ntmps6
  go_wp2_with fail
  refine CN.out.mono ?_
  rintro e w1 ⟨rfl, h1, k1, hs1⟩
  have H1 := Lib.hid h1; clear h1
  have K1 := Lib.hid k1; clear k1 CN
  unfold addr0 at *
  go_wp2_with fail
  refine (manswers_any _).mono ?_
  rintro e w2 ⟨rfl, k2⟩
  have H2 := Lib.hid (H1.out.bl k2)
  have K2 := Lib.hid (K1.out.trans k2); clear k2 H1 K1 hs1
  go_wp2_with fail
  go_loopw [4, 5, 6, 7, 8, 9, 10] (fun u l i _ _ _ _ wr => ∃ (k : Nat) (used low : Int) (L : List Rg) (M st : Nat → Int), k ≤ 30 ∧ i = .int .i64 k ∧ u = .int .i64 used ∧ l = .int .u64 low ∧ RI L low used ∧ MS (from_ w.heap.size) wr w.heap.size (k * 8192) L M st 200 0 0 ∧ Bl w wr) (fun _ _ i _ _ _ _ _ => 31 - (intOf i).toNat)
  case atStart => exact ⟨0, 0, _, [], _, _, by omega, rfl, rfl, rfl, RI.nil, H2.out, K2.out⟩
  case round =>
    obtain ⟨k, used, low, L, M, st, hk, rfl, rfl, rfl, hri, hm, hbl⟩ := hrel
    clear H2 K2
    have HM := Lib.hid hm; clear hm
    have HBL := Lib.hid hbl; clear hbl
    have hlow := hri.low_
    have hu0 := hri.u0
    have hu1 := hri.u1
    have HRI := Lib.hid hri; clear hri
    have HLOW := Lib.hid hlow; clear hlow
    have hl0 : 0 ≤ low := by have := HLOW.out; omega
    have hl1 : low ≤ 274877833216 := by have := HLOW.out; omega
    have hkI : (k : Int) ≤ 30 := by omega
    by_cases hgo : k < len0 ∧ k < 30
    · obtain ⟨g1, g2⟩ := hgo
      obtain ⟨bb, off, ha, hcs⟩ := (HZ.out.bl HBL.out) (by omega)
      subst ha
      obtain ⟨c, hc, cw⟩ := hcs k g1
      obtain ⟨c0, c1⟩ := u16_in cw
      clear hcs cw
      have g1I : (k : Int) < (len0 : Int) := by omega
      have g2I : (k : Int) < 30 := by omega
      obtain ⟨pp, hpp⟩ : ∃ pp, pp = 1 + (k : Int) % 3 := ⟨_, rfl⟩
      by_cases hc0 : c = 0
      · subst hc0
        go_wp2_with fail
        rw [← hpp]
        have cm := mmap_bad (w := wr) w.heap.size 0 0 pp false (by omega) (by omega) (by omega)
        unfold addr0 at cm
        refine cm.mono ?_
        rintro e w' ⟨rfl, rfl⟩
        have cu := refUp_any 0 wr (by omega) (by omega)
        have CU := Lib.hid cu; clear cu cm
        go_wp2_with fail
        refine CU.out.mono ?_
        rintro e w' ⟨rfl, rfl⟩
        go_wp2_with fail
        exact ⟨⟨k + 1, used, low, L, M, st, by omega, by go_num, rfl, rfl, HRI.out, HM.out.mono (by omega), HBL.out⟩, by simp only [intOf]; omega⟩
      · obtain ⟨pg, hpg⟩ : ∃ pg, pg = (c + 4095) / 4096 := ⟨_, rfl⟩
        have q1 : 1 ≤ pg := by omega
        have q2 : pg ≤ 16 := by omega
        obtain ⟨up, hup⟩ : ∃ up, up = pg * 4096 := ⟨_, rfl⟩
        have q3 : up / 4096 = pg := by omega
        have cu := fun W => refUp_any c W (by omega) (by omega)
        rw [← hpg, ← hup] at cu
        have CU := Lib.hid cu; clear cu
        have cm := rooms_map HRI.out HM.out c pp pg (by omega) (by omega) (by omega) hpg.symm (by omega) (fun b hb => Nat.le_trans HBL.out.size hb)
        unfold RoomsPost addr0 at cm
        rw [← hup] at cm
        obtain ⟨lo2, hlo2⟩ : ∃ lo2, lo2 = low - up := ⟨_, rfl⟩
        rw [← hlo2] at cm
        have CM := Lib.hid cm; clear cm
        have t1 : (c == 0) = false := by simp [hc0]
        have t2 : (lo2 + up != low) = false := by simp; omega
        have q4 : 0 ≤ lo2 := by have := HLOW.out; omega
        have q5 : lo2 + up ≤ 274877833216 := by omega
        have q6 : 4096 ≤ up := by omega
        have q7 : up ≤ 65536 := by omega
        have HPP := Lib.hid hpp
        have HUP := Lib.hid hup
        clear hpg hup hlo2 hc0
        go_wp2_with fail
        rw [← HPP.out]
        refine CM.out.mono ?_
        rintro e w3 (⟨hu, rfl, L', M', st', ri3, m3, f3⟩ | ⟨hu, rfl, k3⟩)
        · have M3 := Lib.hid m3
          have R3 := Lib.hid ri3
          have K3 := Lib.hid (Fr.from_bl HBL.out f3)
          clear m3 ri3 f3 CM HM HBL HRI
          go_wp2_with fail
          refine (CU.out _).mono ?_
          rintro e w' ⟨rfl, rfl⟩
          go_wp2_with fail
          refine (CU.out _).mono ?_
          rintro e w' ⟨rfl, rfl⟩
          go_wp2_with fail
          exact ⟨⟨k + 1, used + pg, lo2, L', M', st', by omega, by go_num, rfl, rfl, R3.out, M3.out.mono (by omega), K3.out⟩, by simp only [intOf]; omega⟩
        · have M3 := Lib.hid (HM.out.bl k3)
          have K3 := Lib.hid (HBL.out.trans k3)
          clear k3 CM HM HBL
          go_wp2_with fail
          refine (CU.out _).mono ?_
          rintro e w' ⟨rfl, rfl⟩
          go_wp2_with fail
          exact ⟨⟨k + 1, used, low, L, M, st, by omega, by go_num, rfl, rfl, HRI.out, M3.out.mono (by omega), K3.out⟩, by simp only [intOf]; omega⟩
    · have cp := mpages_any HM.out
      rw [HRI.out.tot_, show used * 4096 / 4096 = used by omega] at cp
      unfold addr0 at cp
      have CP := Lib.hid cp; clear cp
      by_cases g1 : k < len0
      · have g2 : k = 30 := by omega
        subst g2
        have g1I : (30 : Int) < (len0 : Int) := by omega
        clear hgo
        go_wp2_with fail
        refine CP.out.mono ?_
        rintro e w3 ⟨rfl, k3⟩
        have K3 := Lib.hid (HBL.out.trans k3); clear k3
        go_wp2_with fail
        go_ret
        exact ⟨by simp, K3.out⟩
      · have g1I : (len0 : Int) ≤ (k : Int) := by omega
        clear hgo
        go_wp2_with fail
        refine CP.out.mono ?_
        rintro e w3 ⟨rfl, k3⟩
        have K3 := Lib.hid (HBL.out.trans k3); clear k3
        go_wp2_with fail
        go_ret
        exact ⟨by simp, K3.out⟩
end Go.Proofs.Yteeheojjmdlmgaa
