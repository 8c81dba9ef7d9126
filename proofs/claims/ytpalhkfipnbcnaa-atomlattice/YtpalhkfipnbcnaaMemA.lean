/-
  A space in memory: its block, its list of regions, its store; what the list's calls and the store's calls leave of it.
-/
import Derived.Test.YtpalhkfipnbcnaaRoomA
import Derived.Test.YtpalhkfipnbcnaaPageH
import Derived.Test.YtpalhkfipnbcnaaWordB
set_option linter.unusedVariables false
set_option linter.unusedSimpArgs false
namespace Go.Proofs.Ytpalhkfipnbcnaa
open Go.RowKit
set_option maxRecDepth 100000
def off (T : Nat → Prop) (v : Value) : Nat → Prop := fun b => T b ∧ v.ownBlock ≠ some b
def spX (pm sm : Value) (c l mo ba en : Int) : Ctx := ⟨[pm, sm, .int .u64 c, .int .u64 l, .int .i64 mo, .int .u64 ba, .int .u64 en], 83, by decide⟩
/-- A space at block sb, all its blocks among T: its regions L, its bytes M, its stamps st, how many pages may be mapped, its heap. -/
structure MS (T : Nat → Prop) (w : World) (sb n : Nat) (L : List Rg) (M st : Nat → Int) (mo ba en : Int) : Prop where
  ex : ∃ rg f k, StoreAt ⟨rg, mo, ba, en⟩ (off T rg) w sb n f k M st ∧ Row w 0 rg L ∧ ∀ g, rg.ownBlock = some g → T g
  rs : Rs L
  few : L.length ≤ 256
  by_ : ∀ x, 0 ≤ M x ∧ M x ≤ 255
  mo_ : 0 ≤ mo ∧ mo ≤ 4096
  heap : 0 ≤ ba ∧ ba ≤ 274877906944 ∧ 0 ≤ en ∧ en ≤ 274877906944
section
variable {T : Nat → Prop} {w w' : World} {sb n : Nat} {L : List Rg} {M st : Nat → Int} {mo ba en : Int}
theorem MS.bl (h : MS T w sb n L M st mo ba en) (k : Bl w w') : MS T w' sb n L M st mo ba en := by
  obtain ⟨rg, f, k0, h1, h2, h3⟩ := h.ex
  exact ⟨⟨rg, f, k0, h1.bl k, h2.bl k, h3⟩, h.rs, h.few, h.by_, h.mo_, h.heap⟩
theorem MS.so (h : MS T w sb n L M st mo ba en) : So 0 274877906944 L := h.rs.nm.so
theorem MS.own (h : MS T w sb n L M st mo ba en) : T sb := by
  obtain ⟨rg, f, k0, ⟨pm, sm, c, l, h1⟩, h2, h3⟩ := h.ex
  exact h1.own.1
theorem MS.lt (h : MS T w sb n L M st mo ba en) : sb < w.heap.size := by
  obtain ⟨rg, f, k0, ⟨pm, sm, c, l, h1⟩, h2, h3⟩ := h.ex
  exact h1.lt
theorem MS.mono (h : MS T w sb n L M st mo ba en) {m : Nat} (hn : n ≤ m) : MS T w sb m L M st mo ba en := by
  obtain ⟨rg, f, k0, h1, h2, h3⟩ := h.ex
  exact ⟨⟨rg, f, k0, h1.mono hn, h2, h3⟩, h.rs, h.few, h.by_, h.mo_, h.heap⟩
theorem MS.kept (h : MS T w sb n L M st mo ba en) {U : Nat → Prop} (hf : Fr U w w') (hd : ∀ b, T b → ¬ U b) : MS T w' sb n L M st mo ba en := by
  obtain ⟨rg, f, k0, h1, h2, h3⟩ := h.ex
  exact ⟨⟨rg, f, k0, h1.kept hf (fun b e => hd b e.1), h2.kept (fun g hg => hf.block g (h2.lt g hg).2 (hd g (h3 g hg))), h3⟩, h.rs, h.few, h.by_, h.mo_, h.heap⟩
theorem MS.among (h : MS T w sb n L M st mo ba en) {U : Nat → Prop} (hs : ∀ b, b < w.heap.size → T b → U b) : MS U w sb n L M st mo ba en := by
  obtain ⟨rg, f, k0, h1, h2, h3⟩ := h.ex
  exact ⟨⟨rg, f, k0, h1.among fun b hb e => ⟨hs b hb e.1, e.2⟩, h2, fun g hg => hs g (h2.lt g hg).2 (h3 g hg)⟩, h.rs, h.few, h.by_, h.mo_, h.heap⟩
theorem MS.list (h : MS T w sb n L M st mo ba en) : ∃ X, ListAt X w sb L := by
  obtain ⟨rg, f, k0, ⟨pm, sm, c, l, h1⟩, h2, h3⟩ := h.ex
  exact ⟨spX pm sm c l mo ba en, rg, h1.blk, h2⟩
theorem MS.cells (h : MS T w sb n L M st mo ba en) : w.cell? ⟨sb, 5, none⟩ = some (.int .i64 mo) ∧ w.cell? ⟨sb, 6, none⟩ = some (.int .u64 ba) ∧ w.cell? ⟨sb, 7, none⟩ = some (.int .u64 en) := by
  obtain ⟨rg, f, k0, ⟨pm, sm, c, l, h1⟩, h2, h3⟩ := h.ex
  have := h1.blk
  refine ⟨?_, ?_, ?_⟩ <;> simp [World.cell?, this]
theorem MS.cell0 (h : MS T w sb n L M st mo ba en) : ∃ v, w.cell? ⟨sb, 0, none⟩ = some v := by
  obtain ⟨rg, f, k0, ⟨pm, sm, c, l, h1⟩, h2, h3⟩ := h.ex
  have := h1.blk
  exact ⟨rg, by simp [World.cell?, this]⟩
theorem MS.free (h : MS T w sb n L M st mo ba en) (i : Nat) : w.frozen? ⟨sb, i, none⟩ = false := by
  obtain ⟨rg, f, k0, ⟨pm, sm, c, l, h1⟩, h2, h3⟩ := h.ex
  exact h1.free i
theorem off_new {T : Nat → Prop} {w : World} {rg : Value} {L : List Rg} {base : Nat} (hr : Row w base rg L) (hT : ∀ b, w.heap.size ≤ b → T b) : ∀ b, w.heap.size ≤ b → off T rg b := fun b hb => ⟨hT b hb, fun e => by have := (hr.lt b e).2; omega⟩
/-- The list turns, and nothing else. -/
theorem SA.list {T : Nat → Prop} {w w' : World} {sb n k : Nat} {f : Nat → Option Nat} {M st : Nat → Int} {pm sm : Value} {c l : Int} {rg v : Value} {mo ba en : Int} {L' : List Rg} (h : SA ⟨rg, mo, ba, en⟩ (off T rg) w sb n f k M st pm sm c l) (hr : Row w' w.heap.size v L')
    (hb : w'.heap[sb]? = some (.cells #[v, pm, sm, .int .u64 c, .int .u64 l, .int .i64 mo, .int .u64 ba, .int .u64 en] 83 (0, 0))) (hf : Fr (only sb) w w') : SA ⟨v, mo, ba, en⟩ (off T v) w' sb n f k M st pm sm c l := by
  have h1 : SA ⟨rg, mo, ba, en⟩ (off T v) w sb n f k M st pm sm c l := h.among fun b hb hS => ⟨hS.1, fun e => by have := (hr.lt b e).1; omega⟩
  refine SA.cells (Y' := ⟨v, mo, ba, en⟩) h1 (fun x hx hne => hf.block x hx (fun e => hne e)) hb h.lw h.top (h1.pages.kept fun B hB => ?_) (h1.stamps.kept fun B hB => ?_) h.apart
  · obtain ⟨_, es, q, h2⟩ := h1.pages.isMap hB
    rw [hf.at_ h2 (fun e => by have := h.blk; rw [← show B = sb from e, h2] at this; cases this), h2]
  · obtain ⟨_, es, q, h2⟩ := h1.stamps.isMap hB
    rw [hf.at_ h2 (fun e => by have := h.blk; rw [← show B = sb from e, h2] at this; cases this), h2]
/-- Other numbers in the space's block. -/
theorem SA.nums {T : Nat → Prop} {w w' : World} {sb n k : Nat} {f : Nat → Option Nat} {M st : Nat → Int} {pm sm : Value} {c l : Int} {rg : Value} {mo ba en mo' ba' en' : Int} (h : SA ⟨rg, mo, ba, en⟩ (off T rg) w sb n f k M st pm sm c l)
    (hb : w'.heap[sb]? = some (.cells #[rg, pm, sm, .int .u64 c, .int .u64 l, .int .i64 mo', .int .u64 ba', .int .u64 en'] 83 (0, 0))) (hf : Fr (only sb) w w') : SA ⟨rg, mo', ba', en'⟩ (off T rg) w' sb n f k M st pm sm c l := by
  refine SA.cells (Y' := ⟨rg, mo', ba', en'⟩) h (fun x hx hne => hf.block x hx (fun e => hne e)) hb h.lw h.top (h.pages.kept fun B hB => ?_) (h.stamps.kept fun B hB => ?_) h.apart
  · obtain ⟨_, es, q, h2⟩ := h.pages.isMap hB
    rw [hf.at_ h2 (fun e => by have := h.blk; rw [← show B = sb from e, h2] at this; cases this), h2]
  · obtain ⟨_, es, q, h2⟩ := h.stamps.isMap hB
    rw [hf.at_ h2 (fun e => by have := h.blk; rw [← show B = sb from e, h2] at this; cases this), h2]
theorem Fr.only_of {T : Nat → Prop} {w w' : World} {sb : Nat} (h : Fr (only sb) w w') (hT : T sb) : Fr T w w' := h.mono fun k _ e => by rw [show k = sb from e]; exact hT
/-- What a call of the list leaves of the space. -/
theorem MS.laid (h : MS T w sb n L M st mo ba en) {X : Ctx} (hX : ListAt X w sb L) {L' : List Rg} (hl : ListFrom X w.heap.size w' sb L') (hf : Fr (only sb) w w') (hrs : Rs L') (hfew : L'.length ≤ 256) (hT : ∀ b, w.heap.size ≤ b → T b) : MS T w' sb n L' M st mo ba en := by
  obtain ⟨rg, f, k0, ⟨pm, sm, c, l, h1⟩, h2, h3⟩ := h.ex
  obtain ⟨v0, b0, _⟩ := hX
  obtain ⟨v, b1, r1⟩ := hl
  rw [h1.blk] at b0
  injection b0 with b0
  injection b0 with b0 bt
  have e0 : [rg, pm, sm, .int .u64 c, .int .u64 l, .int .i64 mo, .int .u64 ba, .int .u64 en] = v0 :: X.rest := by simpa using congrArg Array.toList b0
  injection e0 with _ e0
  rw [← e0, ← bt] at b1
  refine ⟨⟨v, f, k0, ⟨pm, sm, c, l, h1.list r1 b1 hf⟩, r1.base_ (b2 := 0) (fun g _ => Nat.zero_le g), fun g hg => hT g (r1.lt g hg).1⟩, hrs, hfew, h.by_, h.mo_, h.heap⟩
/-- What a call of the store leaves of the space. -/
theorem MS.stored (h : MS T w sb n L M st mo ba en) {rg : Value} (hr : Row w 0 rg L) (hg : ∀ g, rg.ownBlock = some g → T g) {f : Nat → Option Nat} {k m : Nat} {M' st' : Nat → Int} (hs : StoreAt ⟨rg, mo, ba, en⟩ (off T rg) w' sb m f k M' st') (hf : Fr (off T rg) w w') (hb : ∀ x, 0 ≤ M' x ∧ M' x ≤ 255) : MS T w' sb m L M' st' mo ba en :=
  ⟨⟨rg, f, k, hs, hr.kept (fun g hg => hf.block g (hr.lt g hg).2 (fun e => e.2 hg)), hg⟩, h.rs, h.few, hb, h.mo_, h.heap⟩
theorem Fr.off_of {T : Nat → Prop} {v : Value} {w w' : World} (h : Fr (off T v) w w') : Fr T w w' := h.mono fun _ _ e => e.1
end
/-- All of T but what was made between. -/
def gap (T : Nat → Prop) (lo hi : Nat) : Nat → Prop := fun b => T b ∧ ¬ (lo ≤ b ∧ b < hi)
theorem MS.gap {T : Nat → Prop} {w w' : World} {sb n : Nat} {L : List Rg} {M st : Nat → Int} {mo ba en : Int} (h : MS T w sb n L M st mo ba en) (k : Bl w w') (lo hi : Nat) (hlo : w.heap.size ≤ lo) : MS (gap T lo hi) w' sb n L M st mo ba en :=
  (h.among (U := Ytpalhkfipnbcnaa.gap T lo hi) fun b hb e => ⟨e, fun e2 => by omega⟩).bl k
theorem MS.ungap {T : Nat → Prop} {w : World} {sb n : Nat} {L : List Rg} {M st : Nat → Int} {mo ba en : Int} {lo hi : Nat} (h : MS (Ytpalhkfipnbcnaa.gap T lo hi) w sb n L M st mo ba en) : MS T w sb n L M st mo ba en := h.among fun b _ e => e.1
theorem gap_new {T : Nat → Prop} {w w' : World} (hT : ∀ b, w.heap.size ≤ b → T b) (lo : Nat) (k : w.heap.size ≤ w'.heap.size) : ∀ b, w'.heap.size ≤ b → gap T lo w'.heap.size b := fun b hb => ⟨hT b (by omega), fun e => by omega⟩
theorem Fr.ungap {T : Nat → Prop} {w w' : World} {lo hi : Nat} (h : Fr (gap T lo hi) w w') : Fr T w w' := h.mono fun _ _ e => e.1
/-! ### New, up, isProt -/
theorem mnew_any (T : Nat → Prop) (m : Int) (w : World) (hT : T w.heap.size) (h0 : 0 ≤ m) (h1 : m ≤ 4096) : Calls Try.prog 27 #[.int .i64 m] w fun e w' => e = .returned (addr0 w.heap.size) ∧ MS T w' w.heap.size 0 [] (fun _ => 0) (fun _ => 0) m 0 0 ∧ Bl w w' ∧ w'.heap.size = w.heap.size + 1 := by
  have mx : ∀ ts t W, (Builtin.max_ ts t #[.int .i64 m, .int .i64 0]).run Try.prog W = .ok (.int .i64 m) W := fun ts t W => by
    rw [max_run]; congr 2; split <;> omega
  unfold addr0
  go_enter Try.func27, Try.ntmps27
  go_wp2
  go_ret
  refine ⟨rfl, ⟨⟨.slice none 0 0, fun _ => none, 0, ⟨.map none, .map none, 0, 0, ?_⟩, RowG.nil, fun g hg => by cases hg⟩, Rs.nil, by simp, fun _ => by omega, ⟨h0, h1⟩, by omega⟩, Bl.new _ _, by simp⟩
  exact ⟨heap_alloc_new w _, ⟨hT, fun e => by cases e⟩, by omega, fun _ _ => Int.le_refl _, .inl ⟨rfl, fun _ => rfl, rfl⟩, .inl ⟨rfl, fun _ _ => rfl⟩, fun B h => (by cases h), fun p b h => (by cases h), fun p q b h => (by cases h), fun _ _ _ _ => rfl, fun p b h => (by cases h)⟩
theorem misProt_yes (p : Int) (w : World) (h0 : 0 ≤ p) (h1 : p ≤ 7) : Calls Try.prog 46 #[.int .i64 p] w fun x w' => x = .returned (.bool true) ∧ w = w' := by
  go_enter Try.func46, Try.ntmps46
  go_wp2
  go_ret
  exact ⟨rfl, rfl⟩
theorem misProt_no (p : Int) (w : World) (h : ¬ (0 ≤ p ∧ p ≤ 7)) : Calls Try.prog 46 #[.int .i64 p] w fun x w' => x = .returned (.bool false) ∧ w = w' := by
  by_cases h0 : 0 ≤ p
  · have h1 : 7 < p := by omega
    have t1 : decide (p ≤ 7) = false := by simp; omega
    clear h
    go_enter Try.func46, Try.ntmps46
    go_wp2
    go_ret
    exact ⟨rfl, rfl⟩
  · have h1 : p < 0 := by omega
    clear h
    go_enter Try.func46, Try.ntmps46
    go_wp2
    go_ret
    exact ⟨rfl, rfl⟩
/-- Rounded up to whole pages; near 2^64 it goes round. -/
def upW (n : Int) : Int := IntKind.u64.wrap (n + 4095) / 4096 * 4096
theorem upW_in {n : Int} (h0 : 0 ≤ n) (h1 : n ≤ 274877906944) : upW n = (n + 4095) / 4096 * 4096 := by unfold upW; rw [IntWalk.u64_in _ (by omega)]
theorem upW_facts (n : Int) : upW n % 4096 = 0 ∧ 0 ≤ upW n ∧ upW n ≤ 18446744073709547520 := by
  unfold upW
  have := wrap_in (n + 4095)
  omega
theorem mup_any (n : Int) (w : World) : Calls Try.prog 47 #[.int .u64 n] w fun e w' => e = .returned (.int .u64 (upW n)) ∧ w = w' := by
  go_enter Try.func47, Try.ntmps47
  go_wp2
  go_ret
  have hw := wrap_in (n + 4095)
  refine ⟨?_, rfl⟩
  show Ending.returned (.int .u64 (IntKind.u64.wrap (IntKind.u64.wrap (n + 4095) - (IntKind.u64.wrap (n + 4095)).tmod 4096))) = _
  unfold upW
  congr 2
  rw [Int.tmod_eq_emod_of_nonneg hw.1, IntWalk.u64_in _ (by omega)]
  omega
end Go.Proofs.Ytpalhkfipnbcnaa
