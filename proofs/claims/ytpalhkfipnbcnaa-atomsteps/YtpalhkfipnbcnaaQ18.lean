/-
  A space of the reference: New, Lay, as a whole.
  find, Map.
  Pages of a space; what a program that does nothing does not answer.
  Touch of a store.
  Put of a space: bytes are laid, whatever may be done there, but for what is not mapped.
  Peek, Protect, Unmap, Check, Out of a space.
  The heap of a space: SetBrk, resize, Brk.
  Slices of numbers that came in.
  The walk of MemRooms.
-/
import Derived.Test.YtpalhkfipnbcnaaQ17
import Derived.Test.YtpalhkfipnbcnaaQ11
import Derived.Test.YtpalhkfipnbcnaaQ12
import Derived.Test.YtpalhkfipnbcnaaQ15
set_option linter.unusedVariables false
set_option linter.unusedSimpArgs false
namespace Go.Proofs.Ytpalhkfipnbcnaa
open Go.RowKit
set_option maxRecDepth 100000
theorem rnewm_any (m : Int) (h0 : 0 ≤ m) (h1 : m ≤ 4096) (w : World) : Calls Try.prog 28 #[.int .i64 m] w fun e w' => e = .returned (addr0 w.heap.size) ∧ RP (only w.heap.size) w' w.heap.size [] (fun _ => 0) m 0 0 ∧ Bl w w' ∧ w.heap.size < w'.heap.size := by
  go_enter Try.func28, Try.ntmps28
  go_wp2
  go_ret
  exact ⟨rfl, ⟨⟨_, heap_alloc_new w _, RowG.nil, fun g hg => (by cases hg)⟩, rfl, Pgs.nil _, fun x hx => (by cases hx), by simpa using h0, ⟨h0, h1⟩, fun _ => (by omega), fun x hx => (by cases hx), List.Pairwise.nil, fun _ _ => rfl⟩, Bl.new _ _, by simp⟩
section
variable {S : Nat → Prop} {mo b0 b1 : Int} {w w' : World} {rb : Nat} {P P' : List Pg} {M : Nat → Int}
theorem pageOf_wiped_out {M : Nat → Int} {s t p : Nat} (h : p * 4096 + 4096 ≤ s ∨ t ≤ p * 4096) : pageOf (wiped M s t) p = pageOf M p := pageOf_other _ _ _ fun o ho => by
  simp only [wiped]; rw [if_neg (by omega)]
theorem pageOf_wiped_in {M : Nat → Int} {s t p : Nat} (h : s ≤ p * 4096) (h2 : p * 4096 + 4096 ≤ t) : pageOf (wiped M s t) p = List.replicate 4096 0 := pageOf_zero _ _ fun o ho => by
  simp only [wiped]; rw [if_pos (by omega)]
/-- What a Lay that went well leaves of a space. -/
theorem RP.laid (h : RP S w rb P M mo b0 b1) (hS : ∀ b, w.heap.size ≤ b → S b) {s t : Nat} {p : Int} (hp : 0 ≤ p ∧ p ≤ 7) (hs : s % 4096 = 0) (ht : t % 4096 = 0) (hst : s < t)
    (hsp : SpaceFrom w.heap.size mo b0 b1 w' rb P') (hpg : Pgs 67108864 P') (hset : SetAs P P' s t p) (hl : LaidP w w' P P' s t p) (hf : Fr (only rb) w w') (hlen : (P'.length : Int) ≤ mo) : RP S w' rb P' (wiped M s t) mo b0 b1 := by
  obtain ⟨v, h1, h2⟩ := hsp
  obtain ⟨k, N, hP', hN, hZ⟩ := hl
  have hold : ∀ x, x ∈ outP P s t → S x.b ∧ x.b < w.heap.size ∧ w'.heap[x.b]? = some (byteRow (wiped M s t) x.no) := fun x hx => by
    obtain ⟨hx1, hx2⟩ := outP_mem.1 hx
    obtain ⟨h4, h5⟩ := h.pages x hx1
    have h6 := h.pgs.2 x hx1
    refine ⟨h4, lt_at h5, ?_⟩
    rw [hf.at_ h5 (fun e => by
      obtain ⟨v0, h7, _⟩ := h.sp
      rw [show x.b = rb from e, h7] at h5
      exact absurd (cells_ty h5) (by decide))]
    unfold byteRow
    rw [pageOf_wiped_out (by omega)]
  have hnew : ∀ x, x ∈ N → w.heap.size ≤ x.b ∧ w'.heap[x.b]? = some (byteRow (wiped M s t) x.no) := fun x hx => by
    obtain ⟨h4, h5⟩ := hZ.z x hx
    obtain ⟨h6, h7, h8⟩ := hN.mem hx
    refine ⟨h4, ?_⟩
    rw [h5]
    unfold byteRow zero4
    rw [pageOf_wiped_in (by omega) (by omega)]
  have hmem : ∀ x, x ∈ P' → x ∈ outP P s t ∨ x ∈ N := fun x hx => by
    rw [hP'] at hx
    rcases List.mem_append.1 hx with hx | hx
    · rcases List.mem_append.1 hx with hx | hx
      · exact .inl (List.mem_of_mem_take hx)
      · exact .inr hx
    · exact .inl (List.mem_of_mem_drop hx)
  refine ⟨⟨v, h1, h2.base_ (fun g hg => Nat.zero_le _), fun g hg => hS g (h2.lt g hg).1⟩, h.own, hpg, fun x hx => ?_, hlen, h.mo_, fun x => ?_, fun x hx => ?_, ?_, fun a ha => ?_⟩
  · rcases hmem x hx with hx | hx
    · exact h.pr x (outP_mem.1 hx).1
    · rw [(hN.mem hx).2.2]; exact hp
  · simp only [wiped]; split
    · omega
    · exact h.by_ x
  · rcases hmem x hx with hx | hx
    · exact ⟨(hold x hx).1, (hold x hx).2.2⟩
    · exact ⟨hS _ (hnew x hx).1, (hnew x hx).2⟩
  · rw [hP']
    have ho : (outP P s t).Pairwise fun x y => x.b ≠ y.b := h.apart.sublist List.filter_sublist
    refine List.pairwise_append.2 ⟨List.pairwise_append.2 ⟨ho.sublist (List.take_sublist _ _), hZ.d, fun x hx y hy => ?_⟩, ho.sublist (List.drop_sublist _ _), fun x hx y hy => ?_⟩
    · have g1 := (hold x (List.mem_of_mem_take hx)).2.1
      have g2 := (hnew y hy).1
      omega
    · rcases List.mem_append.1 hx with hx | hx
      · rw [← List.take_append_drop k (outP P s t)] at ho
        exact (List.pairwise_append.1 ho).2.2 x hx y hy
      · have g1 := (hold y (List.mem_of_mem_drop hy)).2.1
        have g2 := (hnew x hx).1
        omega
  · simp only [wiped]
    split
    · rfl
    · exact h.out a fun q hq => ha q ((hset a q).2 (.inr ⟨by omega, hq⟩))
def RLayIs (S : Nat → Prop) (w : World) (rb : Nat) (P : List Pg) (M : Nat → Int) (mo b0 b1 : Int) (s t : Nat) (p : Int) (e : Ending) (w' : World) : Prop := ∃ r, e = .returned (.int .i64 r) ∧
  ((r = 0 ∧ ∃ P', RP S w' rb P' (wiped M s t) mo b0 b1 ∧ SetAs P P' s t p ∧ Fr S w w' ∧ (regs P').length ≤ 256) ∨ (r = 12 ∧ LayNo mo w P s t p w'))
theorem rp_lay (h : RP S w rb P M mo b0 b1) (hS : ∀ b, w.heap.size ≤ b → S b) (s t : Nat) (p : Int) (hp : 0 ≤ p ∧ p ≤ 7) (hs : Span (s : Int) (t : Int)) :
    Calls Try.prog 30 #[addr0 rb, .int .u64 (s : Int), .int .u64 (t : Int), .int .i64 p] w (RLayIs S w rb P M mo b0 b1 s t p) := by
  have hs2 := hs
  obtain ⟨s1, s2, s3, s4⟩ := hs2
  refine (rlay_any h.space h.pgs (by have := h.few; omega) s t p (by omega) hs h.mo_.1 h.mo_.2).mono ?_
  rintro e w' ⟨r, rfl, hr⟩
  refine ⟨r, rfl, ?_⟩
  rcases hr with ⟨h1, P', g1, g2, g3, g4, g5, g6, g7, g8⟩ | hr
  · refine .inl ⟨h1, P', h.laid hS hp (by omega) (by omega) (by omega) g1 g2 g3 g4 g5 g6, g3, g5.mono fun b _ e => by rw [show b = rb from e]; exact h.own, g7⟩
  · exact .inr hr
end
end Go.Proofs.Ytpalhkfipnbcnaa

set_option linter.unusedVariables false
set_option linter.unusedSimpArgs false
namespace Go.Proofs.Ytpalhkfipnbcnaa
open Go.RowKit
set_option maxRecDepth 100000
/-- What lay does, and when. -/
def LayAny (T : Nat → Prop) (w : World) (sb n : Nat) (L : List Rg) (M st : Nat → Int) (mo ba en : Int) (a b : Nat) (p : Int) (r : Int) (w' : World) : Prop :=
  (r = 0 ∧ Span (a : Int) (b : Int) ∧ 0 ≤ p ∧ p ≤ 7 ∧ (layL L a b [⟨a, b, p⟩]).length ≤ 256 ∧ tot (layL L a b [⟨a, b, p⟩]) ≤ mo * 4096 ∧ ClearPost T w sb n (layL L a b [⟨a, b, p⟩]) M st mo ba en a b w') ∨
  (r = 22 ∧ ¬ (Span (a : Int) (b : Int) ∧ 0 ≤ p ∧ p ≤ 7) ∧ Bl w w') ∨
  (r = 12 ∧ Span (a : Int) (b : Int) ∧ (256 < (layL L a b [⟨a, b, p⟩]).length ∨ mo * 4096 < tot (layL L a b [⟨a, b, p⟩])) ∧ Bl w w')
theorem mlay_any {T : Nat → Prop} {w : World} {sb n : Nat} {L : List Rg} {M st : Nat → Int} {mo ba en : Int} (h : MS T w sb n L M st mo ba en) (a b : Nat) (p : Int) (ha : a < 2 ^ 64) (hb : b < 2 ^ 64) (hn : n < 80000000) (hT : ∀ b, w.heap.size ≤ b → T b) :
    Calls Try.prog 49 #[addr0 sb, .int .u64 (a : Int), .int .u64 (b : Int), .int .i64 p] w fun e w' => ∃ r, e = .returned (.int .i64 r) ∧ LayAny T w sb n L M st mo ba en a b p r w' := by
  by_cases hs : Span (a : Int) (b : Int) ∧ 0 ≤ p ∧ p ≤ 7
  · obtain ⟨hs, hp0, hp1⟩ := hs
    rcases Nat.lt_or_ge 256 (layL L a b [⟨a, b, p⟩]).length with hc | hc
    · refine (mlay_many h a b p hs hp0 hp1 hc).mono ?_
      rintro e w' ⟨rfl, k⟩
      exact ⟨12, rfl, .inr (.inr ⟨rfl, hs, .inl hc, k⟩)⟩
    · rcases Int.lt_or_le (mo * 4096) (tot (layL L a b [⟨a, b, p⟩])) with ht | ht
      · refine (mlay_full h a b p hs hp0 hp1 hc ht).mono ?_
        rintro e w' ⟨rfl, k⟩
        exact ⟨12, rfl, .inr (.inr ⟨rfl, hs, .inr ht, k⟩)⟩
      · refine (mlay_ok h a b p hs hp0 hp1 hc ht hn hT).mono ?_
        rintro e w' ⟨rfl, k⟩
        exact ⟨0, rfl, .inl ⟨rfl, hs, hp0, hp1, hc, ht, k⟩⟩
  · refine (mlay_no h a b p (by omega) (by omega) (by omega) (by omega) hs).mono ?_
    rintro e w' ⟨rfl, k⟩
    exact ⟨22, rfl, .inr (.inl ⟨rfl, hs, k⟩)⟩
/-- Where a span may be: at a wish, or in a room. -/
def Found (L : List Rg) (a sz x : Int) (ok : Bool) : Prop := (ok = true ∧ x = a ∧ a ≠ 0 ∧ Span a (a + sz) ∧ FreeIn L a (a + sz)) ∨ ((a = 0 ∨ ¬ (Span a (a + sz) ∧ FreeIn L a (a + sz))) ∧ RoomIs L sz 274877833216 x ok)
set_option maxHeartbeats 1000000 in
theorem find_any {T : Nat → Prop} {w : World} {sb n : Nat} {L : List Rg} {M st : Nat → Int} {mo ba en : Int} (h : MS T w sb n L M st mo ba en) (a sz : Int) (h0 : 0 ≤ a) (h1 : a ≤ 18446744073709551615) (hz : sz % 4096 = 0) (hz0 : 4096 ≤ sz) (hz1 : sz ≤ 274877906944) (ha : a % 4096 = 0) :
    Calls Try.prog 48 #[addr0 sb, .int .u64 a, .int .u64 sz] w fun e w' => ∃ x ok, e = .returned (.tuple #[.int .u64 x, .bool ok]) ∧ Found L a sz x ok ∧ Bl w w' := by
  obtain ⟨X, hX⟩ := h.list
  have cr := fun W (hW : Bl w W) => room_any (hX.bl hW) h.rs h.few sz 274877833216 (by omega) hz1 (by omega) (by omega)
  rw [show szOf sz = sz by unfold szOf; omega, show belOf 274877833216 = 274877833216 by decide] at cr
  have CR := Lib.hid cr; clear cr
  by_cases hz2 : a = 0
  · subst hz2
    clear hX h
    unfold addr0 at *
    go_enter Try.func48, Try.ntmps48
    go_wp2_with fail
    refine (CR.out _ (Bl.refl _)).mono ?_
    rintro e w' ⟨x, ok, rfl, hr, k⟩
    have HR := Lib.hid hr; clear hr
    have K := Lib.hid k; clear k
    go_wp2_with fail
    go_ret2
    exact ⟨x, ok, rfl, .inr ⟨.inl rfl, HR.out⟩, K.out⟩
  · have hne : (a != 0) = true := by simp [hz2]
    have hw := wrap_in (a + sz)
    have cf : ∃ v : Bool, Calls Try.prog 65 #[addr0 sb, .int .u64 a, .int .u64 (IntKind.u64.wrap (a + sz))] w (BoolPost w v) ∧ (v = true ↔ Span a (a + sz) ∧ FreeIn L a (a + sz)) := by
      by_cases hs : Span a (a + sz)
      · have e : IntKind.u64.wrap (a + sz) = a + sz := IntWalk.u64_in _ (by have := hs.2.2.2; omega)
        rw [e]
        by_cases hf : FreeIn L a (a + sz)
        · exact ⟨true, free_any hX h.so a (a + sz) h0 hs (by have := h.few; omega) true ⟨fun _ => hf, fun _ => rfl⟩, ⟨fun _ => ⟨hs, hf⟩, fun _ => rfl⟩⟩
        · exact ⟨false, free_any hX h.so a (a + sz) h0 hs (by have := h.few; omega) false ⟨fun e => (by cases e), fun e => absurd e hf⟩, ⟨fun e => (by cases e), fun e => absurd e.2 hf⟩⟩
      · refine ⟨false, free_no sb a _ h0 h1 hw.1 hw.2 (fun e => hs ?_), ⟨fun e => (by cases e), fun e => absurd e.1 hs⟩⟩
        obtain ⟨e1, e2, e3, e4⟩ := e
        rw [IntKind.wrap_u64] at e2 e3 e4
        refine ⟨e1, by omega, by omega, by omega⟩
    obtain ⟨v, cf, hv⟩ := cf
    have CF := Lib.hid cf; clear cf hX h hz2
    have HV := Lib.hid hv; clear hv
    unfold addr0 at *
    clear hw
    go_enter Try.func48, Try.ntmps48
    go_wp2_with fail
    refine CF.out.mono ?_
    rintro e w1 ⟨rfl, k1⟩
    have K1 := Lib.hid k1; clear k1 CF
    rcases v with _ | _
    · go_wp2_with fail
      refine (CR.out _ K1.out).mono ?_
      rintro e w' ⟨x, ok, rfl, hr, k⟩
      have HR := Lib.hid hr; clear hr
      have K := Lib.hid (K1.out.trans k); clear k
      go_wp2_with fail
      go_ret2
      exact ⟨x, ok, rfl, .inr ⟨.inr (fun e => by have h9 := HV.out.2 e; first | cases h9 | exact h9.elim), HR.out⟩, K.out⟩
    · go_wp2_with fail
      go_ret2
      exact ⟨a, true, rfl, .inl ⟨rfl, rfl, by simpa using hne, HV.out.1 (by first | rfl | trivial)⟩, K1.out⟩
/-! ### Map -/
theorem mmap_bad {w : World} (sb : Nat) (a size p : Int) (fx : Bool) (h0 : 0 ≤ a) (h1 : 0 ≤ size) (h : ¬ (a % 4096 = 0 ∧ size ≠ 0 ∧ size ≤ 274877906944 ∧ 0 ≤ p ∧ p ≤ 7)) :
    Calls Try.prog 29 #[addr0 sb, .int .u64 a, .int .u64 size, .int .i64 p, .bool fx] w fun e w' => e = .returned (.tuple #[.int .u64 0, .int .i64 22]) ∧ w = w' := by
  unfold addr0
  by_cases a1 : a % 4096 = 0
  · have t1 : (a % 4096 != 0) = false := by simp [a1]
    by_cases a2 : size = 0
    · subst a2
      clear h a1
      go_enter Try.func29, Try.ntmps29
      go_wp2
      go_ret2
      exact ⟨rfl, rfl⟩
    · have t2 : (size == 0) = false := by simp [a2]
      by_cases a3 : size ≤ 274877906944
      · have t3 : decide (274877906944 < size) = false := by simp; omega
        have cp := fun W => misProt_no p W (fun e => h ⟨a1, a2, a3, e⟩)
        have CP := Lib.hid cp; clear cp h a1 a2
        go_enter Try.func29, Try.ntmps29
        go_wp2_with fail
        refine (CP.out _).mono ?_
        rintro e w' ⟨rfl, rfl⟩
        go_wp2_with fail
        go_ret2
        exact ⟨rfl, rfl⟩
      · have t3 : decide (274877906944 < size) = true := by simp; omega
        have t4 : 274877906944 < size := by omega
        clear h a1 a2 a3
        go_enter Try.func29, Try.ntmps29
        go_wp2
        go_ret2
        exact ⟨rfl, rfl⟩
  · have t1 : (a % 4096 != 0) = true := by simp [a1]
    clear h a1
    go_enter Try.func29, Try.ntmps29
    go_wp2
    go_ret2
    exact ⟨rfl, rfl⟩
/-- What a Map at a place answers. -/
def MapPost (T : Nat → Prop) (w : World) (sb n : Nat) (L : List Rg) (M st : Nat → Int) (mo ba en : Int) (a b : Nat) (p : Int) (e : Ending) (w' : World) : Prop :=
  ∃ r, e = .returned (.tuple #[.int .u64 (if r = 0 then (a : Int) else 0), .int .i64 r]) ∧ LayAny T w sb n L M st mo ba en a b p r w'
theorem LayAny.back {T : Nat → Prop} {w w1 w' : World} {sb n : Nat} {L : List Rg} {M st : Nat → Int} {mo ba en : Int} {a b : Nat} {p r : Int} (k : Bl w w1) (h : LayAny T w1 sb n L M st mo ba en a b p r w') : LayAny T w sb n L M st mo ba en a b p r w' := by
  rcases h with ⟨h1, h2, h3, h4, h5, h6, st', h7, h8, h9⟩ | ⟨h1, h2, h3⟩ | ⟨h1, h2, h3, h4⟩
  · exact .inl ⟨h1, h2, h3, h4, h5, h6, st', h7, h8, (Fr.of_bl k).trans h9⟩
  · exact .inr (.inl ⟨h1, h2, k.trans h3⟩)
  · exact .inr (.inr ⟨h1, h2, h3, k.trans h4⟩)
set_option maxHeartbeats 2000000 in
theorem mmap_fixed {T : Nat → Prop} {w : World} {sb n : Nat} {L : List Rg} {M st : Nat → Int} {mo ba en : Int} (h : MS T w sb n L M st mo ba en) (a : Nat) (size p : Int) (ha : a < 2 ^ 64) (h1 : 0 ≤ size) (hv : (a : Int) % 4096 = 0 ∧ size ≠ 0 ∧ size ≤ 274877906944 ∧ 0 ≤ p ∧ p ≤ 7) (hn : n < 80000000) (hT : ∀ b, w.heap.size ≤ b → T b) (b : Nat) (hb : (b : Int) = IntKind.u64.wrap (a + (size + 4095) / 4096 * 4096)) :
    Calls Try.prog 29 #[addr0 sb, .int .u64 (a : Int), .int .u64 size, .int .i64 p, .bool true] w (MapPost T w sb n L M st mo ba en a b p) := by
  obtain ⟨a1, a2, a3, a4, a5⟩ := hv
  have t1 : ((a : Int) % 4096 != 0) = false := by simp [a1]
  have t2 : (size == 0) = false := by simp [a2]
  have t3 : decide (274877906944 < size) = false := by simp; omega
  have cp := fun W => misProt_yes p W a4 a5
  have cu := fun W => mup_any size W
  rw [upW_in h1 a3] at cu
  have cl := mlay_any h a b p ha (by have := wrap_in (a + (size + 4095) / 4096 * 4096); omega) hn hT
  generalize (size + 4095) / 4096 * 4096 = sz at *
  rw [hb] at cl
  have CP := Lib.hid cp; clear cp
  have CU := Lib.hid cu; clear cu
  have CL := Lib.hid cl; clear cl a1 a2 h hb
  unfold addr0 at *
  have hx0 : (0 : Int) ≤ (a : Int) := by omega
  have hx1 : (a : Int) ≤ 18446744073709551615 := by omega
  go_enter Try.func29, Try.ntmps29
  go_wp2_with fail
  refine (CP.out _).mono ?_
  rintro e w' ⟨rfl, rfl⟩
  go_wp2_with fail
  refine (CU.out _).mono ?_
  rintro e w' ⟨rfl, rfl⟩
  go_wp2_with fail
  refine CL.out.mono ?_
  rintro e w' ⟨r, rfl, hl⟩
  have HL := Lib.hid hl; clear hl
  by_cases hr : r = 0
  · subst hr
    go_wp2_with fail
    go_ret2
    exact ⟨0, by rw [if_pos rfl]; rfl, HL.out⟩
  · have t5 : (r != 0) = true := by simp [hr]
    have HR := Lib.hid hr; clear hr
    go_wp2_with fail
    go_ret2
    exact ⟨r, by rw [if_neg HR.out]; rfl, HL.out⟩
set_option maxHeartbeats 2000000 in
theorem mmap_free {T : Nat → Prop} {w : World} {sb n : Nat} {L : List Rg} {M st : Nat → Int} {mo ba en : Int} (h : MS T w sb n L M st mo ba en) (a : Nat) (size p : Int) (ha : a < 2 ^ 64) (h1 : 0 ≤ size) (hv : (a : Int) % 4096 = 0 ∧ size ≠ 0 ∧ size ≤ 274877906944 ∧ 0 ≤ p ∧ p ≤ 7) (hn : n < 80000000) (hT : ∀ b, w.heap.size ≤ b → T b) :
    Calls Try.prog 29 #[addr0 sb, .int .u64 (a : Int), .int .u64 size, .int .i64 p, .bool false] w fun e w' => ∃ x ok, Found L a ((size + 4095) / 4096 * 4096) x ok ∧
      ((ok = false ∧ e = .returned (.tuple #[.int .u64 0, .int .i64 12]) ∧ Bl w w') ∨ (ok = true ∧ ∃ c b : Nat, x = c ∧ (b : Int) = c + (size + 4095) / 4096 * 4096 ∧ MapPost T w sb n L M st mo ba en c b p e w')) := by
  obtain ⟨a1, a2, a3, a4, a5⟩ := hv
  have t1 : ((a : Int) % 4096 != 0) = false := by simp [a1]
  have t2 : (size == 0) = false := by simp [a2]
  have t3 : decide (274877906944 < size) = false := by simp; omega
  have cp := fun W => misProt_yes p W a4 a5
  have cu := fun W => mup_any size W
  rw [upW_in h1 a3] at cu
  obtain ⟨sz, hsz⟩ : ∃ sz, sz = (size + 4095) / 4096 * 4096 := ⟨_, rfl⟩
  have z1 : sz % 4096 = 0 := by omega
  have z2 : 4096 ≤ sz := by omega
  have z3 : sz ≤ 274877906944 := by omega
  rw [← hsz] at cu ⊢
  have cf := find_any h a sz (by omega) (by omega) z1 z2 z3 a1
  have CP := Lib.hid cp; clear cp
  have CU := Lib.hid cu; clear cu
  have CF := Lib.hid cf; clear cf a2 hsz
  have Z1 := Lib.hid z1; clear z1
  have A1 := Lib.hid a1; clear a1
  have H := Lib.hid h; clear h
  have HT := Lib.hid hT; clear hT
  unfold addr0 at *
  have hx0 : (0 : Int) ≤ (a : Int) := by omega
  have hx1 : (a : Int) ≤ 18446744073709551615 := by omega
  go_enter Try.func29, Try.ntmps29
  go_wp2_with fail
  refine (CP.out _).mono ?_
  rintro e w' ⟨rfl, rfl⟩
  go_wp2_with fail
  refine (CU.out _).mono ?_
  rintro e w' ⟨rfl, rfl⟩
  go_wp2_with fail
  refine CF.out.mono ?_
  rintro e w1 ⟨x, ok, rfl, hf, k1⟩
  have HF := Lib.hid hf
  have K1 := Lib.hid k1; clear k1 CF CU CP
  rcases ok with _ | _
  · clear hf
    go_wp2_with fail
    go_ret2
    exact ⟨x, false, HF.out, .inl ⟨rfl, rfl, K1.out⟩⟩
  · obtain ⟨c, hc⟩ : ∃ c : Nat, x = (c : Int) := by
      refine ⟨x.toNat, ?_⟩
      rcases hf with ⟨_, h2, _⟩ | ⟨_, h2⟩
      · omega
      · rcases h2 with ⟨_, _, h3, _⟩ | ⟨h3, _⟩
        · omega
        · cases h3
    have hxs : x + sz ≤ 274877906944 := by
      rcases hf with ⟨_, h2, _, h3, _⟩ | ⟨_, h2⟩
      · rw [h2]; exact h3.2.2.2
      · rcases h2 with ⟨_, _, _, h3, _⟩ | ⟨h3, _⟩
        · omega
        · cases h3
    subst hc
    obtain ⟨b, hb⟩ : ∃ b : Nat, (b : Int) = c + sz := ⟨((c : Int) + sz).toNat, by omega⟩
    have cl := mlay_any (H.out.bl K1.out) c b p (by omega) (by omega) hn (fun b hb => HT.out b (Nat.le_trans K1.out.size hb))
    unfold addr0 at cl
    rw [hb] at cl
    have CL := Lib.hid cl; clear cl hf
    have HB := Lib.hid hb; clear hb
    go_wp2_with fail
    refine CL.out.mono ?_
    rintro e w' ⟨r, rfl, hl⟩
    have HL := Lib.hid (LayAny.back K1.out hl); clear hl CL
    by_cases hr : r = 0
    · subst hr
      go_wp2_with fail
      go_ret2
      exact ⟨c, true, HF.out, .inr ⟨rfl, c, b, rfl, HB.out, 0, by rw [if_pos rfl]; rfl, HL.out⟩⟩
    · have t5 : (r != 0) = true := by simp [hr]
      have HR := Lib.hid hr; clear hr
      go_wp2_with fail
      go_ret2
      exact ⟨c, true, HF.out, .inr ⟨rfl, c, b, rfl, HB.out, r, by rw [if_neg HR.out]; rfl, HL.out⟩⟩
end Go.Proofs.Ytpalhkfipnbcnaa

set_option linter.unusedVariables false
set_option linter.unusedSimpArgs false
namespace Go.Proofs.Ytpalhkfipnbcnaa
open Go.RowKit
set_option maxRecDepth 100000
def from_ (lo : Nat) : Nat → Prop := fun b => lo ≤ b
theorem Fr.from_bl {w w1 w2 : World} (k : Bl w w1) (f : Fr (from_ w.heap.size) w1 w2) : Bl w w2 := ⟨f.os.trans k.os, f.tape.trans k.tape, f.output.trans k.output, Nat.le_trans k.size f.size, fun b hb => (f.block b (Nat.lt_of_lt_of_le hb k.size) (fun e => by have : w.heap.size ≤ b := e; omega)).trans (k.block b hb)⟩
theorem kind_run (k x : Int) (w : World) : (Instr.field 41 (.agg #[.int .i64 k, .int .u64 x]) 0).run Try.prog w = .ok (.int .i64 k) w := by kernel_rfl
/-- A new space with one span mapped, at a fixed place. -/
theorem mmap_new {T : Nat → Prop} {w : World} {sb n : Nat} {M st : Nat → Int} {mo ba en : Int} (h : MS T w sb n [] M st mo ba en) (a b : Nat) (size p : Int) (h1 : 0 < size) (h2 : size ≤ 274877906944) (hp0 : 0 ≤ p) (hp1 : p ≤ 7) (hb : (b : Int) = a + (size + 4095) / 4096 * 4096) (hs : Span (a : Int) (b : Int)) (hm : (b : Int) - a ≤ mo * 4096) (hn : n < 80000000) (hT : ∀ b, w.heap.size ≤ b → T b) :
    Calls Try.prog 29 #[addr0 sb, .int .u64 (a : Int), .int .u64 size, .int .i64 p, .bool true] w fun e w' => e = .returned (.tuple #[.int .u64 (a : Int), .int .i64 0]) ∧ ClearPost T w sb n [⟨a, b, p⟩] M st mo ba en a b w' := by
  have hs4 := hs.2.2.2
  refine (mmap_fixed h a size p (by have := hs.2.2.1; omega) (by omega) ⟨hs.1, by omega, h2, hp0, hp1⟩ hn hT b (by rw [IntWalk.u64_in _ (by omega)]; exact hb)).mono ?_
  rintro e w' ⟨r, rfl, hl⟩
  rw [LayAny, layL_new] at hl
  rcases hl with ⟨rfl, _, _, _, _, _, hc⟩ | ⟨_, hx, _⟩ | ⟨_, _, hx, _⟩
  · exact ⟨by rw [if_pos rfl], hc⟩
  · exact absurd ⟨hs, hp0, hp1⟩ hx
  · rcases hx with hx | hx
    · simp at hx
    · simp only [tot] at hx; omega
end Go.Proofs.Ytpalhkfipnbcnaa

set_option linter.unusedVariables false
set_option linter.unusedSimpArgs false
namespace Go.Proofs.Ytpalhkfipnbcnaa
open Go.RowKit
set_option maxRecDepth 100000
/-- The stamps of a span, few pages or many. -/
theorem stampAll_any {Y : Rest} {S : Nat → Prop} {w : World} {sb n k : Nat} {f : Nat → Option Nat} {M st : Nat → Int} (h : StoreAt Y S w sb n f k M st) (a b : Nat) (hab : a < b) (hc : b ≤ 274877906944) (hn : n < 80000000) (hS : ∀ b, w.heap.size ≤ b → S b) :
    Calls Try.prog 85 #[.pointer (some ⟨sb, 1, none⟩), span (a : Int) (b : Int)] w fun e w' => e = .returned (.tuple #[]) ∧ (∃ st', StoreAt Y S w' sb (n + 8192) f k M st' ∧ Rise st st' (fun p => a / 4096 ≤ p ∧ p ≤ (b - 1) / 4096)) ∧ Fr S w w' := by
  by_cases hw : (b - 1) / 4096 - a / 4096 < 4096
  · exact stampAll_narrow h a b hab hc hw (by omega) hS
  · refine (stampAll_wide h (a : Int) (b : Int) (by omega) (by omega) (by omega) (by omega) (by omega)).mono ?_
    rintro e w' ⟨rfl, ⟨st', h1, h2⟩, h3⟩
    exact ⟨rfl, ⟨st', h1.mono (by omega), h2.mono fun _ _ => trivial⟩, h3⟩
end Go.Proofs.Ytpalhkfipnbcnaa

set_option linter.unusedVariables false
set_option linter.unusedSimpArgs false
namespace Go.Proofs.Ytpalhkfipnbcnaa
open Go.RowKit
set_option maxRecDepth 100000
theorem page_in {L : List Rg} (h : Rs L) {r : Rg} (hr : r ∈ L) {a d : Nat} (h1 : r.s ≤ a) (h2 : (a : Int) < r.e) (hd : d ≤ 4096 - a % 4096) : (a : Int) + d ≤ r.e := by
  have := h.al r hr
  have := h.nm.so.2 r hr
  omega
/-- Where a Put stands: t bytes are done. -/
structure PR (T : Nat → Prop) (w : World) (sb n0 : Nat) (L : List Rg) (P : Nat → (Nat → Int) → (Nat → Int) → Prop) (mo ba en : Int) (xs : List Int) (t : Nat) (wr : World) (A : Option Addr) (cap : Nat) : Prop where
  le : t ≤ xs.length
  cap_ : xs.length - t ≤ cap
  rd : Rd wr A (xs.drop t)
  out : t < xs.length → ∀ ad, A = some ad → ¬ T ad.block
  ms : ∃ M st, MS T wr sb (n0 + 6 * t) L M st mo ba en ∧ P t M st
  fr : Fr T w wr
/-- What holds while bytes are laid, page by page. -/
def PutStep (L : List Rg) (a : Nat) (xs : List Int) (P : Nat → (Nat → Int) → (Nat → Int) → Prop) : Prop := ∀ t M st (c d : Nat), P t M st → t < xs.length → c = (a + t) % 18446744073709551616 → d = min (xs.length - t) (4096 - c % 4096) →
  ((∃ q, In L c q) → ∀ st', Rise st st' (fun p => ∃ x, c ≤ x ∧ x < c + d ∧ p = x / 4096) → P (t + d) (lay M c ((xs.drop t).take d)) st') ∧ ((∀ q, ¬ In L c q) → P (t + d) M st)
theorem getD_drop_take {xs : List Int} (h : ∀ k, 0 ≤ xs.getD k 0 ∧ xs.getD k 0 ≤ 255) (t d : Nat) : ∀ k, 0 ≤ ((xs.drop t).take d).getD k 0 ∧ ((xs.drop t).take d).getD k 0 ≤ 255 := fun k => by
  rw [List.getD_eq_getElem?_getD, List.getElem?_take]
  split
  · rw [List.getElem?_drop]
    have := h (t + k)
    rwa [List.getD_eq_getElem?_getD] at this
  · simp
theorem PR.step {T : Nat → Prop} {w : World} {sb n0 : Nat} {L : List Rg} {P : Nat → (Nat → Int) → (Nat → Int) → Prop} {mo ba en : Int} {xs : List Int} {t d : Nat} {wr w3 : World} {B : Option Addr} {cp : Nat} (h : PR T w sb n0 L P mo ba en xs t wr B cp) (hd : d ≤ xs.length - t) (hd0 : 0 < d) {M st : Nat → Int} (hm : MS T w3 sb (n0 + 6 * (t + d)) L M st mo ba en) (hp : P (t + d) M st) (fr : Fr T wr w3) :
    PR T w sb n0 L P mo ba en xs (t + d) w3 (if cp = d then B else B.map (·.add d)) (cp - d) := by
  have hcap := h.cap_
  have hle := h.le
  refine ⟨by omega, by omega, ?_, ?_, ⟨M, st, hm, hp⟩, h.fr.trans fr⟩
  · have h1 := (h.rd.fr fr (fun h0 => h.out (by omega))).drop d cp (by rw [List.length_drop]; omega) (by rw [List.length_drop]; omega)
    rw [List.drop_drop] at h1
    exact h1
  · intro _ ad had
    split at had
    · exact h.out (by omega) ad had
    · rcases B with _ | a0
      · cases had
      · simp only [Option.map_some, Option.some.injEq] at had
        subst had
        rw [add_block]
        exact h.out (by omega) a0 rfl
theorem mod_step (a t c d : Nat) (h : c = (a + t) % 18446744073709551616) : IntKind.u64.wrap ((c : Int) + (d : Int)) = (((a + (t + d)) % 18446744073709551616 : Nat) : Int) := by
  rw [IntKind.wrap_u64]; omega
end Go.Proofs.Ytpalhkfipnbcnaa

set_option linter.unusedVariables false
set_option linter.unusedSimpArgs false
namespace Go.Proofs.Ytpalhkfipnbcnaa
open Go.RowKit
set_option maxRecDepth 100000
set_option maxHeartbeats 1000000 in
theorem mpeek_any {T : Nat → Prop} {w : World} {sb n : Nat} {L : List Rg} {M st : Nat → Int} {mo ba en : Int} (h : MS T w sb n L M st mo ba en) (a m : Nat) (ha : a < 2 ^ 64) (h1 : 1 ≤ m) (h2 : m ≤ 4194304) :
    Calls Try.prog 16 #[addr0 sb, .int .u64 (a : Int), .int .i64 (m : Int)] w (ReadPost w M a m) := by
  obtain ⟨rg, f, k0, h3, _, _⟩ := h.ex
  have cr := read_any h3 a m ha h1 h2
  have CR := Lib.hid cr; clear cr h3 h
  unfold addr0
  go_enter Try.func16, Try.ntmps16
  go_wp2_with fail
  refine CR.out.mono ?_
  rintro e w1 ⟨rfl, hb, k1⟩
  have HB := Lib.hid hb; clear hb
  have K1 := Lib.hid k1; clear k1 CR
  go_wp2_with fail
  go_ret
  exact ⟨rfl, HB.out, K1.out⟩
/-- What a Protect does, and when. -/
def ProtAny (T : Nat → Prop) (w : World) (sb n : Nat) (L : List Rg) (M st : Nat → Int) (mo ba en : Int) (a b : Nat) (p r : Int) (w' : World) : Prop :=
  (r = 0 ∧ Span (a : Int) (b : Int) ∧ 0 ≤ p ∧ p ≤ 7 ∧ Mapped L a b ∧ (layL L a b [⟨a, b, p⟩]).length ≤ 256 ∧ ∃ st', MS T w' sb (n + 8192) (layL L a b [⟨a, b, p⟩]) M st' mo ba en ∧ Rise st st' (fun q => a ≤ q * 4096 ∧ q * 4096 < b) ∧ Fr T w w') ∨
  (r ≠ 0 ∧ ¬ (Span (a : Int) (b : Int) ∧ 0 ≤ p ∧ p ≤ 7 ∧ Mapped L a b ∧ (layL L a b [⟨a, b, p⟩]).length ≤ 256) ∧ Bl w w')
def UnmapAny (T : Nat → Prop) (w : World) (sb n : Nat) (L : List Rg) (M st : Nat → Int) (mo ba en : Int) (a b : Nat) (r : Int) (w' : World) : Prop :=
  (r = 0 ∧ Span (a : Int) (b : Int) ∧ (layL L a b []).length ≤ 256 ∧ ClearPost T w sb n (layL L a b []) M st mo ba en a b w') ∨ (r ≠ 0 ∧ ¬ (Span (a : Int) (b : Int) ∧ (layL L a b []).length ≤ 256) ∧ Bl w w')
def CheckIs (L : List Rg) (a : Nat) (n p r : Int) : Prop := (r = 22 ∧ (n < 0 ∨ 4194304 < n)) ∨ (0 ≤ n ∧ n ≤ 4194304 ∧ ((r = 0 ∧ ∀ y, (a : Int) ≤ y → y < a + n → Can L p y) ∨ (r = 14 ∧ ∃ y, (a : Int) ≤ y ∧ y < a + n ∧ ¬ Can L p y)))
end Go.Proofs.Ytpalhkfipnbcnaa

set_option linter.unusedVariables false
set_option linter.unusedSimpArgs false
namespace Go.Proofs.Ytpalhkfipnbcnaa
open Go.RowKit
set_option maxRecDepth 100000
theorem MS.setNums {T : Nat → Prop} {w w' : World} {sb n : Nat} {L : List Rg} {M st : Nat → Int} {mo ba en ba' en' : Int} (h : MS T w sb n L M st mo ba en) (hf : Fr (only sb) w w')
    (hb : ∀ v pm sm c l, w.heap[sb]? = some (.cells #[v, pm, sm, .int .u64 c, .int .u64 l, .int .i64 mo, .int .u64 ba, .int .u64 en] 83 (0, 0)) → w'.heap[sb]? = some (.cells #[v, pm, sm, .int .u64 c, .int .u64 l, .int .i64 mo, .int .u64 ba', .int .u64 en'] 83 (0, 0)))
    (hh : 0 ≤ ba' ∧ ba' ≤ 274877906944 ∧ 0 ≤ en' ∧ en' ≤ 274877906944) : MS T w' sb n L M st mo ba' en' := by
  obtain ⟨rg, f, k0, ⟨pm, sm, c, l, h1⟩, h2, h3⟩ := h.ex
  refine ⟨⟨rg, f, k0, ⟨pm, sm, c, l, h1.nums (hb _ _ _ _ _ h1.blk) hf⟩, h2.kept (fun g hg => hf.block g (h2.lt g hg).2 (fun e => ?_)), h3⟩, h.rs, h.few, h.by_, h.mo_, hh⟩
  obtain ⟨cur, hcur⟩ := h2.type hg
  have := h1.blk
  rw [← show g = sb from e, hcur] at this
  exact absurd (cells_ty this) (by decide)
def Clears (T : Nat → Prop) (w : World) (sb n : Nat) (M st : Nat → Int) (mo ba en : Int) (a b : Nat) : Prop := ∀ W L', a % 4096 = 0 → b % 4096 = 0 → a < b → b ≤ 274877906944 → w.heap.size ≤ W.heap.size → MS T W sb n L' M st mo ba en → Calls Try.prog 70 #[.pointer (some ⟨sb, 1, none⟩), .int .u64 (a : Int), .int .u64 (b : Int)] W fun e w' => e = .returned (.tuple #[]) ∧ ClearPost T W sb n L' M st mo ba en a b w'
/-- How the heap's pages were moved. -/
def ResizeIs (T : Nat → Prop) (w : World) (sb n : Nat) (L : List Rg) (M st : Nat → Int) (mo ba en : Int) (was now : Nat) (ok : Bool) (w' : World) : Prop :=
  (was < now ∧ ok = true ∧ FreeIn L was now ∧ (layL L was now [⟨was, now, 3⟩]).length ≤ 256 ∧ tot (layL L was now [⟨was, now, 3⟩]) ≤ mo * 4096 ∧ ClearPost T w sb n (layL L was now [⟨was, now, 3⟩]) M st mo ba en was now w') ∨
  (now < was ∧ ok = true ∧ (layL L now was []).length ≤ 256 ∧ ClearPost T w sb n (layL L now was []) M st mo ba en now was w') ∨
  (now = was ∧ ok = true ∧ Bl w w') ∨
  (ok = false ∧ Bl w w' ∧ ((was < now ∧ (¬ FreeIn L was now ∨ 256 < (layL L was now [⟨was, now, 3⟩]).length ∨ mo * 4096 < tot (layL L was now [⟨was, now, 3⟩]))) ∨ (now < was ∧ 256 < (layL L now was []).length)))
def upN (x : Int) : Nat := ((x + 4095) / 4096 * 4096).toNat
theorem upN_of {x : Int} (h0 : 0 ≤ x) (h1 : x ≤ 274877906944) : (upN x : Int) = upW x ∧ upN x % 4096 = 0 ∧ upN x ≤ 274877906944 ∧ (upN x : Int) = (x + 4095) / 4096 * 4096 := by
  rw [upW_in h0 h1]; unfold upN; omega
/-- What Brk answers, and what it does. -/
def BrkIs (T : Nat → Prop) (w : World) (sb n : Nat) (L : List Rg) (M st : Nat → Int) (mo ba en x y : Int) (w' : World) : Prop :=
  (¬ (ba ≤ x ∧ x ≤ 274877906944) ∧ y = en ∧ Bl w w') ∨
  (ba ≤ x ∧ x ≤ 274877906944 ∧ ∃ ok w1, ResizeIs T w sb n L M st mo ba en (upN en) (upN x) ok w1 ∧ ((ok = false ∧ y = en ∧ w' = w1) ∨ (ok = true ∧ y = x ∧ w' = w1.setCell ⟨sb, 7, none⟩ (.int .u64 x))))
end Go.Proofs.Ytpalhkfipnbcnaa

set_option linter.unusedVariables false
namespace Go.Proofs.Ytpalhkfipnbcnaa
open Go.RowKit
/-- What is told of a slice of numbers that came in. -/
def IsRow' (k : IntKind) (w : World) (a : Option Addr) (len cap : Nat) (zs : List Int) : Prop :=
  (a = none ∧ len = 0 ∧ cap = 0 ∧ zs = []) ∨
  ∃ x, a = some x ∧ len ≤ cap ∧ cap ≤ maxLen ∧ zs.length = cap ∧ (∀ i, i < zs.length → w.cell? (x.add i) = some (.int k (zs.getD i 0))) ∧ ∀ n ∈ zs, (Lit.int k n).wf = true
/-- Numbers: where they stand, and that they fit their kind. -/
def Nums (q : IntKind) (w : World) (a : Option Addr) (len : Nat) : Prop := 0 < len → ∃ b off, a = some ⟨b, off, none⟩ ∧ ∀ k, k < len → ∃ c : Int, w.cell? ⟨b, off + k, none⟩ = some (.int q c) ∧ (Lit.int q c).wf = true
theorem isRow_nums {q : IntKind} {w : World} {a : Option Addr} {len cap : Nat} {z : List Int} (h : IsRow' q w a len cap z) : Nums q w a len ∧ len ≤ 9223372036854775807 := by
  rcases h with ⟨rfl, rfl, rfl, rfl⟩ | ⟨x, rfl, hl, hm, hz, hcell, hwz⟩
  · exact ⟨fun h => absurd h (by omega), by omega⟩
  · refine ⟨fun h0 => ?_, by simp only [maxLen] at hm; omega⟩
    have h1 := hcell 0 (by omega)
    obtain ⟨b, off, spot⟩ := x
    have hspot : spot = none := by simpa [Addr.add] using World.cell?_spot h1
    subst hspot
    refine ⟨b, off, rfl, fun k hk => ⟨z.getD k 0, ?_, ?_⟩⟩
    · have h2 := hcell k (by omega)
      by_cases hk0 : k = 0
      · subst hk0; simpa [Addr.add] using h2
      · simpa [Addr.add, hk0] using h2
    · have hkz : k < z.length := by omega
      exact hwz (z.getD k 0) (by rw [List.getD_eq_getElem?_getD, List.getElem?_eq_getElem hkz]; exact List.getElem_mem hkz)
theorem Nums.bl {q : IntKind} {w w' : World} {a : Option Addr} {len : Nat} (h : Nums q w a len) (k : Bl w w') : Nums q w' a len := fun h0 => by
  obtain ⟨b, off, h1, h2⟩ := h h0
  exact ⟨b, off, h1, fun j hj => by obtain ⟨c, h3, h4⟩ := h2 j hj; exact ⟨c, k.cell' h3, h4⟩⟩
theorem u8_in {a : Int} (h : (Lit.int .u8 a).wf = true) : 0 ≤ a ∧ a ≤ 255 := by
  have h4 : (decide ((0 : Int) ≤ a) && decide (a ≤ 255)) = true := h
  simpa only [Bool.and_eq_true, decide_eq_true_eq] using h4
theorem u16_in {a : Int} (h : (Lit.int .u16 a).wf = true) : 0 ≤ a ∧ a ≤ 65535 := by
  have h4 : (decide ((0 : Int) ≤ a) && decide (a ≤ 65535)) = true := h
  simpa only [Bool.and_eq_true, decide_eq_true_eq] using h4
theorem u32_in {a : Int} (h : (Lit.int .u32 a).wf = true) : 0 ≤ a ∧ a ≤ 4294967295 := by
  have h4 : (decide ((0 : Int) ≤ a) && decide (a ≤ 4294967295)) = true := h
  simpa only [Bool.and_eq_true, decide_eq_true_eq] using h4
theorem u64_wf {a : Int} (h : (Lit.int .u64 a).wf = true) : 0 ≤ a ∧ a ≤ 18446744073709551615 := by
  have h4 : (decide ((0 : Int) ≤ a) && decide (a ≤ 18446744073709551615)) = true := h
  simpa only [Bool.and_eq_true, decide_eq_true_eq] using h4
theorem i64_in {a : Int} (h : (Lit.int .i64 a).wf = true) : -9223372036854775808 ≤ a ∧ a ≤ 9223372036854775807 := by
  have h4 : (decide ((-9223372036854775808 : Int) ≤ a) && decide (a ≤ 9223372036854775807)) = true := h
  simpa only [Bool.and_eq_true, decide_eq_true_eq] using h4
end Go.Proofs.Ytpalhkfipnbcnaa

set_option linter.unusedVariables false
set_option linter.unusedSimpArgs false
namespace Go.Proofs.Ytpalhkfipnbcnaa
open Go.RowKit
set_option maxRecDepth 100000
/-- All places from low up to the top of mappings are mapped, and no others. -/
structure RI (L : List Rg) (low used : Int) : Prop where
  rs : Rs L
  tot_ : tot L = used * 4096
  low_ : low = 274877833216 - used * 4096
  u0 : 0 ≤ used
  u1 : used ≤ 200
  pl : ∀ x, (∃ q, In L x q) ↔ low ≤ x ∧ x < 274877833216
theorem RI.nil : RI [] 274877833216 0 := ⟨Rs.nil, rfl, by omega, by omega, by omega, fun x => ⟨fun ⟨q, h⟩ => absurd h (In_nil x q), fun h => by omega⟩⟩
theorem RI.room {L : List Rg} {low used sz x : Int} {ok : Bool} (h : RI L low used) (hz : sz % 4096 = 0) (h0 : 4096 ≤ sz) (h1 : sz ≤ 65536) (hr : RoomIs L sz 274877833216 x ok) : ok = true ∧ x = low - sz := by
  have hl := h.low_
  have u0 := h.u0
  have u1 := h.u1
  have hr2 : RoomIs L sz 274877833216 (low - sz) true := by
    refine .inl ⟨rfl, by omega, by omega, by omega, fun y p y1 y2 hin => ?_, fun y y1 y2 y3 hf => ?_⟩
    · have := (h.pl y).1 ⟨p, hin⟩
      omega
    · obtain ⟨q, hq⟩ := (h.pl (max y low)).2 (by omega)
      exact hf _ q (by omega) (by omega) hq
  obtain ⟨e1, e2⟩ := room_unique hr hr2
  exact ⟨e2, e1⟩
theorem RI.free {L : List Rg} {low used sz : Int} (h : RI L low used) : FreeIn L (low - sz) low := fun y p y1 y2 hin => by
  have := (h.pl y).1 ⟨p, hin⟩
  omega
theorem RI.tot_next {L : List Rg} {low used sz p : Int} (h : RI L low used) (h0 : 4096 ≤ sz) (h1 : sz ≤ 65536) : tot (layL L (low - sz) low [⟨low - sz, low, p⟩]) = used * 4096 + sz := by
  have hl := h.low_
  have u0 := h.u0
  have u1 := h.u1
  rw [tot_layL h.rs.nm.so (by omega) (by omega) (by omega), tot_within_free h.free, h.tot_]
  simp only [tot]
  omega
theorem RI.next {L : List Rg} {low used pg p : Int} (h : RI L low used) (h0 : 1 ≤ pg) (h1 : pg ≤ 16) (hu : used + pg ≤ 200) : RI (layL L (low - pg * 4096) low [⟨low - pg * 4096, low, p⟩]) (low - pg * 4096) (used + pg) := by
  have hl := h.low_
  have u0 := h.u0
  have u1 := h.u1
  have hs : Span (low - pg * 4096) low := ⟨by omega, by omega, by omega, by omega⟩
  refine ⟨h.rs.lay (by omega) hs, by rw [h.tot_next (by omega) (by omega)]; omega, by omega, by omega, hu, fun x => ⟨fun ⟨q, hq⟩ => ?_, fun hx => ?_⟩⟩
  · rw [lay_in h.rs (by omega) hs] at hq
    rcases hq with hq | ⟨_, hq⟩
    · omega
    · have := (h.pl x).1 ⟨q, hq⟩
      omega
  · by_cases hx2 : x < low
    · exact ⟨p, (lay_in h.rs (by omega) hs x p).2 (.inl ⟨by omega, hx2, rfl⟩)⟩
    · obtain ⟨q, hq⟩ := (h.pl x).2 (by omega)
      exact ⟨q, (lay_in h.rs (by omega) hs x q).2 (.inr ⟨.inr (by omega), hq⟩)⟩
theorem RI.few {L : List Rg} {low used : Int} (h : RI L low used) : L.length ≤ 256 := by
  have := len_tot h.rs.nm.so h.rs.al
  have h1 := h.tot_
  have h2 := h.u1
  omega
/-- What a Map that is not told where answers here. -/
def RoomsPost (T : Nat → Prop) (w : World) (sb n : Nat) (M st : Nat → Int) (L : List Rg) (low used pg : Int) (e : Ending) (w' : World) : Prop :=
  (used + pg ≤ 200 ∧ e = .returned (.tuple #[.int .u64 (low - pg * 4096), .int .i64 0]) ∧ ∃ L' M' st', RI L' (low - pg * 4096) (used + pg) ∧ MS T w' sb (n + 8192) L' M' st' 200 0 0 ∧ Fr T w w') ∨
  (200 < used + pg ∧ e = .returned (.tuple #[.int .u64 0, .int .i64 12]) ∧ Bl w w')
theorem rooms_map {T : Nat → Prop} {w : World} {sb n : Nat} {L : List Rg} {M st : Nat → Int} {low used : Int} (hi : RI L low used) (h : MS T w sb n L M st 200 0 0) (size p pg : Int) (h1 : 1 ≤ size) (h2 : size ≤ 65535) (hp : 1 ≤ p ∧ p ≤ 3) (hpg : (size + 4095) / 4096 = pg) (hn : n < 80000000) (hT : ∀ b, w.heap.size ≤ b → T b) :
    Calls Try.prog 29 #[addr0 sb, .int .u64 0, .int .u64 size, .int .i64 p, .bool false] w (RoomsPost T w sb n M st L low used pg) := by
  have c := mmap_free h 0 size p (by omega) (by omega) ⟨by omega, by omega, by omega, by omega, by omega⟩ hn hT
  rw [hpg] at c
  have hl := hi.low_
  have u0 := hi.u0
  have u1 := hi.u1
  refine c.mono ?_
  rintro e w' ⟨x, ok, hf, hh⟩
  have hr : RoomIs L (pg * 4096) 274877833216 x ok := by
    rcases hf with ⟨_, _, h3, _⟩ | ⟨_, h3⟩
    · exact absurd rfl h3
    · exact h3
  obtain ⟨rfl, rfl⟩ := hi.room (by omega) (by omega) (by omega) hr
  rcases hh with ⟨h3, _⟩ | ⟨_, c, b, hc, hb, r, rfl, hlay⟩
  · cases h3
  · have hb2 : (b : Int) = low := by omega
    have ht := hi.tot_next (sz := pg * 4096) (p := p) (by omega) (by omega)
    unfold LayAny at hlay
    rw [hb2, ← hc] at hlay
    have hs : Span (low - pg * 4096) low := ⟨by omega, by omega, by omega, by omega⟩
    by_cases hu : used + pg ≤ 200
    · have hn := hi.next (p := p) (show 1 ≤ pg by omega) (by omega) hu
      rcases hlay with ⟨rfl, _, _, _, _, _, st', h7, h8, h9⟩ | ⟨_, hx, _⟩ | ⟨_, _, hx, _⟩
      · exact .inl ⟨hu, by rw [if_pos rfl, ← hc], _, _, st', hn, h7, h9⟩
      · exact absurd ⟨hs, by omega, by omega⟩ hx
      · rcases hx with hx | hx
        · have := hn.few; omega
        · rw [ht] at hx; omega
    · rcases hlay with ⟨rfl, _, _, _, _, hx, _⟩ | ⟨_, hx, _⟩ | ⟨rfl, _, _, hk⟩
      · rw [ht] at hx; omega
      · exact absurd ⟨hs, by omega, by omega⟩ hx
      · exact .inr ⟨by omega, rfl, hk⟩
end Go.Proofs.Ytpalhkfipnbcnaa
