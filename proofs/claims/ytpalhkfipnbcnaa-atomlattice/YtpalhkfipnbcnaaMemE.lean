/-
  find, Map.
-/
import Derived.Test.YtpalhkfipnbcnaaMemD
set_option linter.unusedVariables false
set_option linter.unusedSimpArgs false
namespace Go.Proofs.Ytpalhkfipnbcnaa
open Go.RowKit
set_option maxRecDepth 100000
/-- What lay does, and when. -/
def LayAny (T : Nat → Prop) (w : World) (sb n : Nat) (L : List Rg) (M st : Nat → Int) (mo ba en : Int) (a b : Nat) (p : Int) (r : Int) (w' : World) : Prop :=
  (r = 0 ∧ Span (a : Int) (b : Int) ∧ 0 ≤ p ∧ p ≤ 7 ∧ (layL L a b [⟨a, b, p⟩]).length ≤ 256 ∧ tot (layL L a b [⟨a, b, p⟩]) ≤ mo * 4096 ∧ ClearPost T w sb n (layL L a b [⟨a, b, p⟩]) M st mo ba en a b w') ∨
  (r = 22 ∧ ¬ (Span (a : Int) (b : Int) ∧ 0 ≤ p ∧ p ≤ 7) ∧ Bl w w') ∨
  (r = 12 ∧ Span (a : Int) (b : Int) ∧ (256 < (layL L a b [⟨a, b, p⟩]).length ∨ mo * 4096 < tot (layL L a b [⟨a, b, p⟩])) ∧ Bl w w')
theorem mlay_any {T : Nat → Prop} {w : World} {sb n : Nat} {L : List Rg} {M st : Nat → Int} {mo ba en : Int} (h : MS T w sb n L M st mo ba en) (a b : Nat) (p : Int) (ha : a < 2 ^ 64) (hb : b < 2 ^ 64) (hn : n < 80000000) (hT : ∀ b, w.heap.size ≤ b → T b) :
    Calls Try.prog 49 #[addr0 sb, .int .u64 (a : Int), .int .u64 (b : Int), .int .i64 p] w fun e w' => ∃ r, e = .returned (.int .i64 r) ∧ LayAny T w sb n L M st mo ba en a b p r w' := by
  by_cases hs : Span (a : Int) (b : Int) ∧ 0 ≤ p ∧ p ≤ 7
  · obtain ⟨hs, hp0, hp1⟩ := hs
    rcases Nat.lt_or_ge 256 (layL L a b [⟨a, b, p⟩]).length with hc | hc
    · refine (mlay_many h a b p hs hp0 hp1 hc).mono ?_
      rintro e w' ⟨rfl, k⟩
      exact ⟨12, rfl, .inr (.inr ⟨rfl, hs, .inl hc, k⟩)⟩
    · rcases Int.lt_or_le (mo * 4096) (tot (layL L a b [⟨a, b, p⟩])) with ht | ht
      · refine (mlay_full h a b p hs hp0 hp1 hc ht).mono ?_
        rintro e w' ⟨rfl, k⟩
        exact ⟨12, rfl, .inr (.inr ⟨rfl, hs, .inr ht, k⟩)⟩
      · refine (mlay_ok h a b p hs hp0 hp1 hc ht hn hT).mono ?_
        rintro e w' ⟨rfl, k⟩
        exact ⟨0, rfl, .inl ⟨rfl, hs, hp0, hp1, hc, ht, k⟩⟩
  · refine (mlay_no h a b p (by omega) (by omega) (by omega) (by omega) hs).mono ?_
    rintro e w' ⟨rfl, k⟩
    exact ⟨22, rfl, .inr (.inl ⟨rfl, hs, k⟩)⟩
/-- Where a span may be: at a wish, or in a room. -/
def Found (L : List Rg) (a sz x : Int) (ok : Bool) : Prop := (ok = true ∧ x = a ∧ a ≠ 0 ∧ Span a (a + sz) ∧ FreeIn L a (a + sz)) ∨ ((a = 0 ∨ ¬ (Span a (a + sz) ∧ FreeIn L a (a + sz))) ∧ RoomIs L sz 274877833216 x ok)
set_option maxHeartbeats 1000000 in
theorem find_any {T : Nat → Prop} {w : World} {sb n : Nat} {L : List Rg} {M st : Nat → Int} {mo ba en : Int} (h : MS T w sb n L M st mo ba en) (a sz : Int) (h0 : 0 ≤ a) (h1 : a ≤ 18446744073709551615) (hz : sz % 4096 = 0) (hz0 : 4096 ≤ sz) (hz1 : sz ≤ 274877906944) (ha : a % 4096 = 0) :
    Calls Try.prog 48 #[addr0 sb, .int .u64 a, .int .u64 sz] w fun e w' => ∃ x ok, e = .returned (.tuple #[.int .u64 x, .bool ok]) ∧ Found L a sz x ok ∧ Bl w w' := by
  obtain ⟨X, hX⟩ := h.list
  have cr := fun W (hW : Bl w W) => room_any (hX.bl hW) h.rs h.few sz 274877833216 (by omega) hz1 (by omega) (by omega)
  rw [show szOf sz = sz by unfold szOf; omega, show belOf 274877833216 = 274877833216 by decide] at cr
  have CR := Lib.hid cr; clear cr
  by_cases hz2 : a = 0
  · subst hz2
    clear hX h
    unfold addr0 at *
    go_enter Try.func48, Try.ntmps48
    go_wp2_with fail
    refine (CR.out _ (Bl.refl _)).mono ?_
    rintro e w' ⟨x, ok, rfl, hr, k⟩
    have HR := Lib.hid hr; clear hr
    have K := Lib.hid k; clear k
    go_wp2_with fail
    go_ret2
    exact ⟨x, ok, rfl, .inr ⟨.inl rfl, HR.out⟩, K.out⟩
  · have hne : (a != 0) = true := by simp [hz2]
    have hw := wrap_in (a + sz)
    have cf : ∃ v : Bool, Calls Try.prog 65 #[addr0 sb, .int .u64 a, .int .u64 (IntKind.u64.wrap (a + sz))] w (BoolPost w v) ∧ (v = true ↔ Span a (a + sz) ∧ FreeIn L a (a + sz)) := by
      by_cases hs : Span a (a + sz)
      · have e : IntKind.u64.wrap (a + sz) = a + sz := IntWalk.u64_in _ (by have := hs.2.2.2; omega)
        rw [e]
        by_cases hf : FreeIn L a (a + sz)
        · exact ⟨true, free_any hX h.so a (a + sz) h0 hs (by have := h.few; omega) true ⟨fun _ => hf, fun _ => rfl⟩, ⟨fun _ => ⟨hs, hf⟩, fun _ => rfl⟩⟩
        · exact ⟨false, free_any hX h.so a (a + sz) h0 hs (by have := h.few; omega) false ⟨fun e => (by cases e), fun e => absurd e hf⟩, ⟨fun e => (by cases e), fun e => absurd e.2 hf⟩⟩
      · refine ⟨false, free_no sb a _ h0 h1 hw.1 hw.2 (fun e => hs ?_), ⟨fun e => (by cases e), fun e => absurd e.1 hs⟩⟩
        obtain ⟨e1, e2, e3, e4⟩ := e
        rw [IntKind.wrap_u64] at e2 e3 e4
        refine ⟨e1, by omega, by omega, by omega⟩
    obtain ⟨v, cf, hv⟩ := cf
    have CF := Lib.hid cf; clear cf hX h hz2
    have HV := Lib.hid hv; clear hv
    unfold addr0 at *
    clear hw
    go_enter Try.func48, Try.ntmps48
    go_wp2_with fail
    refine CF.out.mono ?_
    rintro e w1 ⟨rfl, k1⟩
    have K1 := Lib.hid k1; clear k1 CF
    rcases v with _ | _
    · go_wp2_with fail
      refine (CR.out _ K1.out).mono ?_
      rintro e w' ⟨x, ok, rfl, hr, k⟩
      have HR := Lib.hid hr; clear hr
      have K := Lib.hid (K1.out.trans k); clear k
      go_wp2_with fail
      go_ret2
      exact ⟨x, ok, rfl, .inr ⟨.inr (fun e => by have h9 := HV.out.2 e; first | cases h9 | exact h9.elim), HR.out⟩, K.out⟩
    · go_wp2_with fail
      go_ret2
      exact ⟨a, true, rfl, .inl ⟨rfl, rfl, by simpa using hne, HV.out.1 (by first | rfl | trivial)⟩, K1.out⟩
/-! ### Map -/
theorem mmap_bad {w : World} (sb : Nat) (a size p : Int) (fx : Bool) (h0 : 0 ≤ a) (h1 : 0 ≤ size) (h : ¬ (a % 4096 = 0 ∧ size ≠ 0 ∧ size ≤ 274877906944 ∧ 0 ≤ p ∧ p ≤ 7)) :
    Calls Try.prog 29 #[addr0 sb, .int .u64 a, .int .u64 size, .int .i64 p, .bool fx] w fun e w' => e = .returned (.tuple #[.int .u64 0, .int .i64 22]) ∧ w = w' := by
  unfold addr0
  by_cases a1 : a % 4096 = 0
  · have t1 : (a % 4096 != 0) = false := by simp [a1]
    by_cases a2 : size = 0
    · subst a2
      clear h a1
      go_enter Try.func29, Try.ntmps29
      go_wp2
      go_ret2
      exact ⟨rfl, rfl⟩
    · have t2 : (size == 0) = false := by simp [a2]
      by_cases a3 : size ≤ 274877906944
      · have t3 : decide (274877906944 < size) = false := by simp; omega
        have cp := fun W => misProt_no p W (fun e => h ⟨a1, a2, a3, e⟩)
        have CP := Lib.hid cp; clear cp h a1 a2
        go_enter Try.func29, Try.ntmps29
        go_wp2_with fail
        refine (CP.out _).mono ?_
        rintro e w' ⟨rfl, rfl⟩
        go_wp2_with fail
        go_ret2
        exact ⟨rfl, rfl⟩
      · have t3 : decide (274877906944 < size) = true := by simp; omega
        have t4 : 274877906944 < size := by omega
        clear h a1 a2 a3
        go_enter Try.func29, Try.ntmps29
        go_wp2
        go_ret2
        exact ⟨rfl, rfl⟩
  · have t1 : (a % 4096 != 0) = true := by simp [a1]
    clear h a1
    go_enter Try.func29, Try.ntmps29
    go_wp2
    go_ret2
    exact ⟨rfl, rfl⟩
/-- What a Map at a place answers. -/
def MapPost (T : Nat → Prop) (w : World) (sb n : Nat) (L : List Rg) (M st : Nat → Int) (mo ba en : Int) (a b : Nat) (p : Int) (e : Ending) (w' : World) : Prop :=
  ∃ r, e = .returned (.tuple #[.int .u64 (if r = 0 then (a : Int) else 0), .int .i64 r]) ∧ LayAny T w sb n L M st mo ba en a b p r w'
theorem LayAny.back {T : Nat → Prop} {w w1 w' : World} {sb n : Nat} {L : List Rg} {M st : Nat → Int} {mo ba en : Int} {a b : Nat} {p r : Int} (k : Bl w w1) (h : LayAny T w1 sb n L M st mo ba en a b p r w') : LayAny T w sb n L M st mo ba en a b p r w' := by
  rcases h with ⟨h1, h2, h3, h4, h5, h6, st', h7, h8, h9⟩ | ⟨h1, h2, h3⟩ | ⟨h1, h2, h3, h4⟩
  · exact .inl ⟨h1, h2, h3, h4, h5, h6, st', h7, h8, (Fr.of_bl k).trans h9⟩
  · exact .inr (.inl ⟨h1, h2, k.trans h3⟩)
  · exact .inr (.inr ⟨h1, h2, h3, k.trans h4⟩)
set_option maxHeartbeats 2000000 in
theorem mmap_fixed {T : Nat → Prop} {w : World} {sb n : Nat} {L : List Rg} {M st : Nat → Int} {mo ba en : Int} (h : MS T w sb n L M st mo ba en) (a : Nat) (size p : Int) (ha : a < 2 ^ 64) (h1 : 0 ≤ size) (hv : (a : Int) % 4096 = 0 ∧ size ≠ 0 ∧ size ≤ 274877906944 ∧ 0 ≤ p ∧ p ≤ 7) (hn : n < 80000000) (hT : ∀ b, w.heap.size ≤ b → T b) (b : Nat) (hb : (b : Int) = IntKind.u64.wrap (a + (size + 4095) / 4096 * 4096)) :
    Calls Try.prog 29 #[addr0 sb, .int .u64 (a : Int), .int .u64 size, .int .i64 p, .bool true] w (MapPost T w sb n L M st mo ba en a b p) := by
  obtain ⟨a1, a2, a3, a4, a5⟩ := hv
  have t1 : ((a : Int) % 4096 != 0) = false := by simp [a1]
  have t2 : (size == 0) = false := by simp [a2]
  have t3 : decide (274877906944 < size) = false := by simp; omega
  have cp := fun W => misProt_yes p W a4 a5
  have cu := fun W => mup_any size W
  rw [upW_in h1 a3] at cu
  have cl := mlay_any h a b p ha (by have := wrap_in (a + (size + 4095) / 4096 * 4096); omega) hn hT
  generalize (size + 4095) / 4096 * 4096 = sz at *
  rw [hb] at cl
  have CP := Lib.hid cp; clear cp
  have CU := Lib.hid cu; clear cu
  have CL := Lib.hid cl; clear cl a1 a2 h hb
  unfold addr0 at *
  have hx0 : (0 : Int) ≤ (a : Int) := by omega
  have hx1 : (a : Int) ≤ 18446744073709551615 := by omega
  go_enter Try.func29, Try.ntmps29
  go_wp2_with fail
  refine (CP.out _).mono ?_
  rintro e w' ⟨rfl, rfl⟩
  go_wp2_with fail
  refine (CU.out _).mono ?_
  rintro e w' ⟨rfl, rfl⟩
  go_wp2_with fail
  refine CL.out.mono ?_
  rintro e w' ⟨r, rfl, hl⟩
  have HL := Lib.hid hl; clear hl
  by_cases hr : r = 0
  · subst hr
    go_wp2_with fail
    go_ret2
    exact ⟨0, by rw [if_pos rfl]; rfl, HL.out⟩
  · have t5 : (r != 0) = true := by simp [hr]
    have HR := Lib.hid hr; clear hr
    go_wp2_with fail
    go_ret2
    exact ⟨r, by rw [if_neg HR.out]; rfl, HL.out⟩
set_option maxHeartbeats 2000000 in
theorem mmap_free {T : Nat → Prop} {w : World} {sb n : Nat} {L : List Rg} {M st : Nat → Int} {mo ba en : Int} (h : MS T w sb n L M st mo ba en) (a : Nat) (size p : Int) (ha : a < 2 ^ 64) (h1 : 0 ≤ size) (hv : (a : Int) % 4096 = 0 ∧ size ≠ 0 ∧ size ≤ 274877906944 ∧ 0 ≤ p ∧ p ≤ 7) (hn : n < 80000000) (hT : ∀ b, w.heap.size ≤ b → T b) :
    Calls Try.prog 29 #[addr0 sb, .int .u64 (a : Int), .int .u64 size, .int .i64 p, .bool false] w fun e w' => ∃ x ok, Found L a ((size + 4095) / 4096 * 4096) x ok ∧
      ((ok = false ∧ e = .returned (.tuple #[.int .u64 0, .int .i64 12]) ∧ Bl w w') ∨ (ok = true ∧ ∃ c b : Nat, x = c ∧ (b : Int) = c + (size + 4095) / 4096 * 4096 ∧ MapPost T w sb n L M st mo ba en c b p e w')) := by
  obtain ⟨a1, a2, a3, a4, a5⟩ := hv
  have t1 : ((a : Int) % 4096 != 0) = false := by simp [a1]
  have t2 : (size == 0) = false := by simp [a2]
  have t3 : decide (274877906944 < size) = false := by simp; omega
  have cp := fun W => misProt_yes p W a4 a5
  have cu := fun W => mup_any size W
  rw [upW_in h1 a3] at cu
  obtain ⟨sz, hsz⟩ : ∃ sz, sz = (size + 4095) / 4096 * 4096 := ⟨_, rfl⟩
  have z1 : sz % 4096 = 0 := by omega
  have z2 : 4096 ≤ sz := by omega
  have z3 : sz ≤ 274877906944 := by omega
  rw [← hsz] at cu ⊢
  have cf := find_any h a sz (by omega) (by omega) z1 z2 z3 a1
  have CP := Lib.hid cp; clear cp
  have CU := Lib.hid cu; clear cu
  have CF := Lib.hid cf; clear cf a2 hsz
  have Z1 := Lib.hid z1; clear z1
  have A1 := Lib.hid a1; clear a1
  have H := Lib.hid h; clear h
  have HT := Lib.hid hT; clear hT
  unfold addr0 at *
  have hx0 : (0 : Int) ≤ (a : Int) := by omega
  have hx1 : (a : Int) ≤ 18446744073709551615 := by omega
  go_enter Try.func29, Try.ntmps29
  go_wp2_with fail
  refine (CP.out _).mono ?_
  rintro e w' ⟨rfl, rfl⟩
  go_wp2_with fail
  refine (CU.out _).mono ?_
  rintro e w' ⟨rfl, rfl⟩
  go_wp2_with fail
  refine CF.out.mono ?_
  rintro e w1 ⟨x, ok, rfl, hf, k1⟩
  have HF := Lib.hid hf
  have K1 := Lib.hid k1; clear k1 CF CU CP
  rcases ok with _ | _
  · clear hf
    go_wp2_with fail
    go_ret2
    exact ⟨x, false, HF.out, .inl ⟨rfl, rfl, K1.out⟩⟩
  · obtain ⟨c, hc⟩ : ∃ c : Nat, x = (c : Int) := by
      refine ⟨x.toNat, ?_⟩
      rcases hf with ⟨_, h2, _⟩ | ⟨_, h2⟩
      · omega
      · rcases h2 with ⟨_, _, h3, _⟩ | ⟨h3, _⟩
        · omega
        · cases h3
    have hxs : x + sz ≤ 274877906944 := by
      rcases hf with ⟨_, h2, _, h3, _⟩ | ⟨_, h2⟩
      · rw [h2]; exact h3.2.2.2
      · rcases h2 with ⟨_, _, _, h3, _⟩ | ⟨h3, _⟩
        · omega
        · cases h3
    subst hc
    obtain ⟨b, hb⟩ : ∃ b : Nat, (b : Int) = c + sz := ⟨((c : Int) + sz).toNat, by omega⟩
    have cl := mlay_any (H.out.bl K1.out) c b p (by omega) (by omega) hn (fun b hb => HT.out b (Nat.le_trans K1.out.size hb))
    unfold addr0 at cl
    rw [hb] at cl
    have CL := Lib.hid cl; clear cl hf
    have HB := Lib.hid hb; clear hb
    go_wp2_with fail
    refine CL.out.mono ?_
    rintro e w' ⟨r, rfl, hl⟩
    have HL := Lib.hid (LayAny.back K1.out hl); clear hl CL
    by_cases hr : r = 0
    · subst hr
      go_wp2_with fail
      go_ret2
      exact ⟨c, true, HF.out, .inr ⟨rfl, c, b, rfl, HB.out, 0, by rw [if_pos rfl]; rfl, HL.out⟩⟩
    · have t5 : (r != 0) = true := by simp [hr]
      have HR := Lib.hid hr; clear hr
      go_wp2_with fail
      go_ret2
      exact ⟨c, true, HF.out, .inr ⟨rfl, c, b, rfl, HB.out, r, by rw [if_neg HR.out]; rfl, HL.out⟩⟩
end Go.Proofs.Ytpalhkfipnbcnaa
