/-
  Slices of numbers that came in.
  Acts that came in: where their cells stand, and what their bytes read as.
  The law MemStamps: what is noted ahead of a call, and what behind it.
-/
import Derived.Test.YtepffglljmekiaaGreatQ28
import Derived.Test.YtepffglljmekiaaGreatQ16
import Derived.Deep.Slices
import Derived.ChangeSame
import Derived.Test.YtepffglljmekiaaGreatQ39
import Derived.Test.YtepffglljmekiaaGreatQ52
import Derived.Deep.CutRange
import Derived.Deep.CutBlock
set_option linter.unusedVariables false
namespace Go.Proofs.YtepffglljmekiaaGreat
open Go.RowKit
/-- What is told of a slice of numbers that came in. -/
def IsRow' (k : IntKind) (w : World) (a : Option Addr) (len cap : Nat) (zs : List Int) : Prop :=
  (a = none ∧ len = 0 ∧ cap = 0 ∧ zs = []) ∨
  ∃ x, a = some x ∧ len ≤ cap ∧ cap ≤ maxLen ∧ zs.length = cap ∧ (∀ i, i < zs.length → w.cell? (x.add i) = some (.int k (zs.getD i 0))) ∧ ∀ n ∈ zs, (Lit.int k n).wf = true
/-- Numbers: where they stand, and that they fit their kind. -/
def Nums (q : IntKind) (w : World) (a : Option Addr) (len : Nat) : Prop := 0 < len → ∃ b off, a = some ⟨b, off, none⟩ ∧ ∀ k, k < len → ∃ c : Int, w.cell? ⟨b, off + k, none⟩ = some (.int q c) ∧ (Lit.int q c).wf = true
theorem isRow_nums {q : IntKind} {w : World} {a : Option Addr} {len cap : Nat} {z : List Int} (h : IsRow' q w a len cap z) : Nums q w a len ∧ len ≤ 9223372036854775807 := by
  rcases h with ⟨rfl, rfl, rfl, rfl⟩ | ⟨x, rfl, hl, hm, hz, hcell, hwz⟩
  · exact ⟨fun h => absurd h (by omega), by omega⟩
  · refine ⟨fun h0 => ?_, by simp only [maxLen] at hm; omega⟩
    have h1 := hcell 0 (by omega)
    obtain ⟨b, off, spot⟩ := x
    have hspot : spot = none := by simpa [Addr.add] using World.cell?_spot h1
    subst hspot
    refine ⟨b, off, rfl, fun k hk => ⟨z.getD k 0, ?_, ?_⟩⟩
    · have h2 := hcell k (by omega)
      by_cases hk0 : k = 0
      · subst hk0; simpa [Addr.add] using h2
      · simpa [Addr.add, hk0] using h2
    · have hkz : k < z.length := by omega
      exact hwz (z.getD k 0) (by rw [List.getD_eq_getElem?_getD, List.getElem?_eq_getElem hkz]; exact List.getElem_mem hkz)
theorem Nums.bl {q : IntKind} {w w' : World} {a : Option Addr} {len : Nat} (h : Nums q w a len) (k : Bl w w') : Nums q w' a len := fun h0 => by
  obtain ⟨b, off, h1, h2⟩ := h h0
  exact ⟨b, off, h1, fun j hj => by obtain ⟨c, h3, h4⟩ := h2 j hj; exact ⟨c, k.cell' h3, h4⟩⟩
theorem u8_in {a : Int} (h : (Lit.int .u8 a).wf = true) : 0 ≤ a ∧ a ≤ 255 := by
  have h4 : (decide ((0 : Int) ≤ a) && decide (a ≤ 255)) = true := h
  simpa only [Bool.and_eq_true, decide_eq_true_eq] using h4
theorem u16_in {a : Int} (h : (Lit.int .u16 a).wf = true) : 0 ≤ a ∧ a ≤ 65535 := by
  have h4 : (decide ((0 : Int) ≤ a) && decide (a ≤ 65535)) = true := h
  simpa only [Bool.and_eq_true, decide_eq_true_eq] using h4
theorem u32_in {a : Int} (h : (Lit.int .u32 a).wf = true) : 0 ≤ a ∧ a ≤ 4294967295 := by
  have h4 : (decide ((0 : Int) ≤ a) && decide (a ≤ 4294967295)) = true := h
  simpa only [Bool.and_eq_true, decide_eq_true_eq] using h4
theorem u64_wf {a : Int} (h : (Lit.int .u64 a).wf = true) : 0 ≤ a ∧ a ≤ 18446744073709551615 := by
  have h4 : (decide ((0 : Int) ≤ a) && decide (a ≤ 18446744073709551615)) = true := h
  simpa only [Bool.and_eq_true, decide_eq_true_eq] using h4
theorem i64_in {a : Int} (h : (Lit.int .i64 a).wf = true) : -9223372036854775808 ≤ a ∧ a ≤ 9223372036854775807 := by
  have h4 : (decide ((-9223372036854775808 : Int) ≤ a) && decide (a ≤ 9223372036854775807)) = true := h
  simpa only [Bool.and_eq_true, decide_eq_true_eq] using h4
end Go.Proofs.YtepffglljmekiaaGreat

set_option linter.unusedVariables false
set_option linter.unusedSimpArgs false
namespace Go.Proofs.YtepffglljmekiaaGreat
open Go.RowKit Go.ChangeShapes Go.WideShapes Go.Deep
set_option maxRecDepth 100000
/-- Bytes that came in: a slice of them. -/
structure BytesIn (w : World) (A : Option Addr) (l c : Nat) (xs : List Int) : Prop where
  rd : Rd w A xs
  len : xs.length = l
  cap : l ≤ c
  nil : A = none → c = 0
  bd : ∀ k, 0 ≤ xs.getD k 0 ∧ xs.getD k 0 ≤ 255
  lt : 0 < l → ∀ ad, A = some ad → ad.block < w.heap.size
  le : l ≤ 9223372036854775807
/-- An act's cells. -/
def ActAt (w : World) (b o : Nat) : Prop := ∃ (d m p ad sz : Int) (fx : Bool) (A : Option Addr) (l c : Nat) (xs : List Int),
  w.cell? ⟨b, o, none⟩ = some (.int .i64 d) ∧ w.cell? ⟨b, o + 1, none⟩ = some (.int .i64 m) ∧ w.cell? ⟨b, o + 2, none⟩ = some (.int .i64 p) ∧ w.cell? ⟨b, o + 3, none⟩ = some (.int .u64 ad) ∧ w.cell? ⟨b, o + 4, none⟩ = some (.int .u64 sz) ∧ w.cell? ⟨b, o + 5, none⟩ = some (.bool fx) ∧ w.cell? ⟨b, o + 6, none⟩ = some (.slice A l c) ∧
  (0 ≤ ad ∧ ad ≤ 18446744073709551615) ∧ (0 ≤ sz ∧ sz ≤ 18446744073709551615) ∧ BytesIn w A l c xs
def ActsZ (w : World) (a : Option Addr) (len : Nat) : Prop := 0 < len → ∃ b off, a = some ⟨b, off, none⟩ ∧ ∀ k, k < len → ActAt w b (off + k * 7)
theorem BytesIn.bl {w w' : World} {A : Option Addr} {l c : Nat} {xs : List Int} (h : BytesIn w A l c xs) (k : Bl w w') : BytesIn w' A l c xs :=
  ⟨h.rd.below k, h.len, h.cap, h.nil, h.bd, fun h0 ad e => Nat.lt_of_lt_of_le (h.lt h0 ad e) k.size, h.le⟩
theorem open_bytesIn {H : Type} {enc : TypeId × Value → H} {w : World} {base : Nat} {spare : Nat → Bool} {held : Bool} {fuel : Nat} {v : Value} {x : DataW H × List MemPlace} (h : DataW.trod enc Tryz.prog w base spare held fuel 27 [v] = some x) :
    ∃ A l c xs, v = .slice A l c ∧ BytesIn w A l c xs := by
  rcases open_slice Tryz.underlying27 h with ⟨h1, _⟩ | ⟨ad, l, c, m, n, D, Pl, h1, h2, h3, h4, h5, h6, h7⟩
  · injection h1 with h1
    subst h1
    exact ⟨none, 0, 0, [], rfl, Rd.nil_, rfl, Nat.le_refl _, fun _ => rfl, fun k => by simp, fun h => absurd h (by omega), by omega⟩
  · injection h1 with h1
    subst h1
    have hc5 : Tryz.prog.cellsOf 5 = 1 := by kernel_rfl
    have hm : l ≤ m := by rw [h5]; split <;> omega
    have key : ∀ k, k < l → ∃ y : Int, w.cell? (ad.add k) = some (.int .u8 y) ∧ 0 ≤ y ∧ y ≤ 255 := fun k hk => by
      obtain ⟨cs, hcs, hts⟩ := h7 k (by omega)
      rw [hc5, Nat.mul_one] at hcs
      obtain ⟨hlen, _, hat⟩ := World.cells?_some hcs
      match cs, hlen with
      | [u], _ =>
        obtain ⟨y, e0, hw⟩ := DataW.trod_int Tryz.underlying5 hts
        cases e0
        have h8 := hat 0 (by omega)
        refine ⟨y, by simpa [show (ad.add k).add 0 = ad.add k from rfl] using h8, ?_⟩
        exact u8_in (hw.2)
    have hch : ∃ f : Nat → Int, ∀ k, k < l → w.cell? (ad.add k) = some (.int .u8 (f k)) ∧ 0 ≤ f k ∧ f k ≤ 255 := by
      refine ⟨fun k => if hk : k < l then Classical.choose (key k hk) else 0, fun k hk => ?_⟩
      simp only [dif_pos hk]
      exact Classical.choose_spec (key k hk)
    obtain ⟨f, hf⟩ := hch
    refine ⟨some ad, l, c, (List.range l).map f, rfl, fun _ => ⟨ad, rfl, fun i hi => ?_⟩, by simp, h3, (fun e => by cases e), fun k => ?_, fun h0 ad' e => ?_, by simp only [maxLen] at h4; omega⟩
    · have hi2 : i < l := by simpa using hi
      rw [(hf i hi2).1]
      simp [List.getD, hi2]
    · by_cases hk : k < l
      · have := hf k hk
        simp [List.getD, hk, this.2]
      · simp [List.getD, hk]
    · cases e
      have h1 := block_lt_of_cell (hf 0 h0).1
      rwa [add_block] at h1
theorem open_act {H : Type} {enc : TypeId × Value → H} {w : World} {base : Nat} {spare : Nat → Bool} {held : Bool} {fuel : Nat} {cs : List Value} {x : DataW H × List MemPlace} (h : DataW.trod enc Tryz.prog w base spare held fuel 29 cs = some x) :
    ∃ (d m p ad sz : Int) (fx : Bool) (A : Option Addr) (l c : Nat) (xs : List Int), cs = [.int .i64 d, .int .i64 m, .int .i64 p, .int .u64 ad, .int .u64 sz, .bool fx, .slice A l c] ∧ (0 ≤ ad ∧ ad ≤ 18446744073709551615) ∧ (0 ≤ sz ∧ sz ≤ 18446744073709551615) ∧ BytesIn w A l c xs := by
  obtain ⟨xs, n, _, _, hlen, hxl, hf⟩ := DataW.trod_struct Tryz.underlying29 h
  have hc7 : Tryz.prog.cellsOf 29 = 7 := by kernel_rfl
  have c3 : Tryz.prog.cellsOf 3 = 1 := by kernel_rfl
  have c4 : Tryz.prog.cellsOf 4 = 1 := by kernel_rfl
  have c5 : Tryz.prog.cellsOf 26 = 1 := by kernel_rfl
  have c6 : Tryz.prog.cellsOf 27 = 1 := by kernel_rfl
  rw [hc7] at hlen
  match cs, hlen with
  | [v0, v1, v2, v3, v4, v5, v6], _ =>
    match xs, hxl with
    | [x0, x1, x2, x3, x4, x5, x6], _ =>
      have h0 : DataW.trod enc Tryz.prog w base spare held n 3 [v0] = some x0 := by simpa [c3] using hf 0 _ rfl
      have h1 : DataW.trod enc Tryz.prog w base spare held n 3 [v1] = some x1 := by simpa [c3] using hf 1 _ rfl
      have h2 : DataW.trod enc Tryz.prog w base spare held n 3 [v2] = some x2 := by simpa [c3] using hf 2 _ rfl
      have h3 : DataW.trod enc Tryz.prog w base spare held n 26 [v3] = some x3 := by simpa [c3, c5] using hf 3 _ rfl
      have h4 : DataW.trod enc Tryz.prog w base spare held n 26 [v4] = some x4 := by simpa [c3, c5] using hf 4 _ rfl
      have h5 : DataW.trod enc Tryz.prog w base spare held n 4 [v5] = some x5 := by simpa [c3, c4, c5] using hf 5 _ rfl
      have h6 : DataW.trod enc Tryz.prog w base spare held n 27 [v6] = some x6 := by simpa [c3, c4, c5, c6] using hf 6 _ rfl
      obtain ⟨d, e0, _⟩ := DataW.trod_int Tryz.underlying3 h0
      obtain ⟨m, e1, _⟩ := DataW.trod_int Tryz.underlying3 h1
      obtain ⟨p, e2, _⟩ := DataW.trod_int Tryz.underlying3 h2
      obtain ⟨ad, e3, g3⟩ := DataW.trod_int Tryz.underlying26 h3
      obtain ⟨sz, e4, g4⟩ := DataW.trod_int Tryz.underlying26 h4
      obtain ⟨fx, e5, _⟩ := DataW.trod_bool Tryz.underlying4 h5
      obtain ⟨A, l, c, ys, e6, hb⟩ := open_bytesIn h6
      cases e0; cases e1; cases e2; cases e3; cases e4; cases e5; subst e6
      exact ⟨d, m, p, ad, sz, fx, A, l, c, ys, rfl, u64_wf g3.2, u64_wf g4.2, hb⟩
theorem open_actsZ {H : Type} {enc : TypeId × Value → H} {w : World} {base : Nat} {spare : Nat → Bool} {held : Bool} {fuel len cap : Nat} {a : Option Addr} {x : DataW H × List MemPlace} (h : DataW.trod enc Tryz.prog w base spare held fuel 22 [.slice a len cap] = some x) :
    ActsZ w a len ∧ len ≤ 9223372036854775807 := by
  rcases open_slice Tryz.underlying22 h with ⟨h1, _⟩ | ⟨ad, l, c, m, n, D, Pl, h1, h2, h3, h4, h5, h6, h7⟩
  · injection h1 with h1
    injection h1 with e1 e2
    subst e1 e2
    exact ⟨fun h => absurd h (by omega), by omega⟩
  · injection h1 with h1
    injection h1 with e1 e2 e3
    subst e1 e2 e3
    have hc7 : Tryz.prog.cellsOf 29 = 7 := by kernel_rfl
    have hm : len ≤ m := by rw [h5]; split <;> omega
    have key : ∀ k, k < len → ∃ (d m p ad' sz : Int) (fx : Bool) (A : Option Addr) (l c : Nat) (xs : List Int), (∀ j, j < 7 → w.cell? ((ad.add (k * 7)).add j) = [Value.int .i64 d, .int .i64 m, .int .i64 p, .int .u64 ad', .int .u64 sz, .bool fx, .slice A l c][j]?) ∧ (0 ≤ ad' ∧ ad' ≤ 18446744073709551615) ∧ (0 ≤ sz ∧ sz ≤ 18446744073709551615) ∧ BytesIn w A l c xs := fun k hk => by
      obtain ⟨cs, hcs, hts⟩ := h7 k (by omega)
      rw [hc7] at hcs
      obtain ⟨d, m, p, ad', sz, fx, A, l, c, xs, rfl, r⟩ := open_act hts
      obtain ⟨_, _, hat⟩ := World.cells?_some hcs
      exact ⟨d, m, p, ad', sz, fx, A, l, c, xs, hat, r⟩
    refine ⟨fun h0 => ?_, by simp only [maxLen] at h4; omega⟩
    obtain ⟨b, off, spot⟩ := ad
    have hspot : spot = none := by
      obtain ⟨d, m, p, ad', sz, fx, A, l, c, xs, hat, _⟩ := key 0 h0
      have h8 := hat 0 (by omega)
      simp only [Nat.zero_mul, List.getElem?_cons_zero] at h8
      simpa [Addr.add] using World.cell?_spot h8
    subst hspot
    refine ⟨b, off, rfl, fun k hk => ?_⟩
    obtain ⟨d, m, p, ad', sz, fx, A, l, c, xs, hat, r⟩ := key k hk
    have e : ∀ j, ((⟨b, off, none⟩ : Addr).add (k * 7)).add j = ⟨b, off + k * 7 + j, none⟩ := fun j => by
      unfold Addr.add; by_cases a0 : k * 7 = 0 <;> by_cases b0 : j = 0 <;> simp [a0, b0]
    simp only [e] at hat
    exact ⟨d, m, p, ad', sz, fx, A, l, c, xs, hat 0 (by omega), hat 1 (by omega), hat 2 (by omega), hat 3 (by omega), hat 4 (by omega), hat 5 (by omega), hat 6 (by omega), r⟩
end Go.Proofs.YtepffglljmekiaaGreat

set_option linter.unusedVariables false
set_option linter.unusedSimpArgs false
namespace Go.Proofs.YtepffglljmekiaaGreat
open Go.RowKit
set_option maxRecDepth 100000
theorem ProtIs.same {L L' : List Rg} {a q q' : Int} (hL : Rs L) (hL' : Rs L') (h : ProtIs L a q) (h' : ProtIs L' a q') (e : q ≠ q') : ∃ r, ¬ (In L a r ↔ In L' a r) := by
  rcases h with h | ⟨rfl, h⟩
  · rcases h' with h' | ⟨rfl, h'⟩
    · refine ⟨q, fun hi => e ?_⟩
      exact So.one hL'.nm.so (hi.1 h) h'
    · exact ⟨q, fun hi => h' q (hi.1 h)⟩
  · rcases h' with h' | ⟨rfl, h'⟩
    · exact ⟨q', fun hi => h q' (hi.2 h')⟩
    · exact absurd rfl e
/-- Where bytes of a page differ there is such a place. -/
theorem bytes_ne {M M' : Nat → Int} {p : Nat} (h : bytesAt M (p * 4096) 4096 ≠ bytesAt M' (p * 4096) 4096) : ∃ x : Nat, x / 4096 = p ∧ M' x ≠ M x := by
  apply Classical.byContradiction
  intro hn
  apply h
  unfold bytesAt
  apply List.map_congr_left
  intro i hi
  have hi2 : i < 4096 := by simpa using hi
  apply Classical.byContradiction
  intro hne
  exact hn ⟨p * 4096 + i, by omega, fun e => hne (by rw [e])⟩
/-- What is noted stays while both is called. -/
theorem stays_both {T : Nat → Prop} {lo hi rb base : Nat} {b e : Int} {W W' : World} (f : Fr (plus (gap T lo hi) rb) W W') (hra : RA W rb b e) (hs : W.heap.size = hi) (hlo : lo ≤ base) : Stays base W W' := fun g cur u hg hu hb => by
  refine f.at_ hb fun h => ?_
  rcases h with h | h
  · exact h.2 ⟨Nat.le_trans hlo hg, by have := lt_at hb; omega⟩
  · subst h
    have h1 := hra.blk
    rw [hb] at h1
    have h2 := cells_ty h1
    rcases hu with rfl | rfl | rfl | rfl <;> exact absurd h2 (by decide)
theorem ProtIs.some_ (L : List Rg) (a : Int) : ∃ q, ProtIs L a q := by
  by_cases h : ∃ q, In L a q
  · obtain ⟨q, h⟩ := h
    exact ⟨q, .inl h⟩
  · exact ⟨-1, .inr ⟨rfl, fun p hp => h ⟨p, hp⟩⟩⟩
theorem ProtIs.one {L : List Rg} {a q q' : Int} (hL : Rs L) (h : ProtIs L a q) (h' : ProtIs L a q') : q = q' := by
  apply Classical.byContradiction
  intro e
  obtain ⟨r, hr⟩ := ProtIs.same hL hL h h' e
  exact hr Iff.rfl
theorem lprot_at {T : Nat → Prop} {w : World} {sb n : Nat} {L : List Rg} {M st : Nat → Int} {mo ba en : Int} (h : MS T w sb n L M st mo ba en) (a q : Int) (hq : ProtIs L a q) : Calls Tryz.prog 9 #[addr0 sb, .int .u64 a] w fun e w' => e = .returned (.int .i64 q) ∧ Bl w w' :=
  (lprot_any h a).mono fun e w' ⟨q', e1, e2, k⟩ => ⟨by rw [e1, ProtIs.one h.rs e2 hq], k⟩
theorem ActAt.bl {w w' : World} {b o : Nat} (h : ActAt w b o) (k : Bl w w') : ActAt w' b o := by
  obtain ⟨d, m, p, ad, sz, fx, A, l, c, xs, c0, c1, c2, c3, c4, c5, c6, h1, h2, h3⟩ := h
  exact ⟨d, m, p, ad, sz, fx, A, l, c, xs, k.cell' c0, k.cell' c1, k.cell' c2, k.cell' c3, k.cell' c4, k.cell' c5, k.cell' c6, h1, h2, h3.bl k⟩
/-- Cells of a note. -/
theorem SnS.at_ {st : Nat → Int} {base p : Nat} {v : Value} {W : World} (h : SnS st base p v W) (hp : 0 < p) : ∃ g c, v = .slice (some ⟨g, 0, none⟩) p c ∧ p ≤ c ∧ ∀ j, j < p → W.cell? ⟨g, j, none⟩ = some (.int .u64 (st j)) := by
  obtain ⟨xs, h1, h2⟩ := h
  obtain ⟨g, c, e1, e2, _, e3⟩ := own_form h1 hp
  exact ⟨g, c, e1, e2, fun j hj => by rw [e3 j hj, h2 j hj]⟩
theorem SnB.at_ {M : Nat → Int} {base p : Nat} {v : Value} {W : World} (h : SnB M base p v W) (hp : 0 < p) : ∃ g c, v = .slice (some ⟨g, 0, none⟩) p c ∧ p ≤ c ∧ ∀ j, j < p → ∃ gb, W.cell? ⟨g, j, none⟩ = some (.slice (some ⟨gb, 0, none⟩) 4096 4096) ∧ W.heap[gb]? = some (.cells (asBytes (bytesAt M (j * 4096) 4096)).toArray 5 (0, 0)) := by
  obtain ⟨xs, h1, h2⟩ := h
  obtain ⟨g, c, e1, e2, _, e3⟩ := own_form h1 hp
  exact ⟨g, c, e1, e2, fun j hj => by
    obtain ⟨gb, g1, _, g3⟩ := h2 j hj
    exact ⟨gb, by rw [e3 j hj, g1], g3⟩⟩
theorem SnP.at_ {L : List Rg} {base p : Nat} {v : Value} {W : World} (h : SnP L base p v W) (hp : 0 < p) : ∃ g c, v = .slice (some ⟨g, 0, none⟩) p c ∧ p ≤ c ∧ ∀ j, j < p → ∃ q, W.cell? ⟨g, j, none⟩ = some (.int .i64 q) ∧ ProtIs L ((j : Int) * 4096) q := by
  obtain ⟨xs, h1, h2⟩ := h
  obtain ⟨g, c, e1, e2, _, e3⟩ := own_form h1 hp
  exact ⟨g, c, e1, e2, fun j hj => by
    obtain ⟨q, g1, g2⟩ := h2 j hj
    exact ⟨q, by rw [e3 j hj, g1], g2⟩⟩
theorem Rd.of_block {w : World} {g : Nat} {xs : List Int} {t : TypeId} (h : w.heap[g]? = some (.cells (asBytes xs).toArray t (0, 0))) : Rd w (some ⟨g, 0, none⟩) xs := fun _ => ⟨_, rfl, fun i hi => by
  have h1 : (Addr.add ⟨g, 0, none⟩ i) = ⟨g, i, none⟩ := by
    by_cases h : i = 0
    · subst h; rfl
    · simp [Addr.add, h]
  rw [h1]
  simp only [World.cell?, h]
  have := asBytes_at xs i hi
  simpa using this⟩
theorem alloc1_cell (w : World) (x : Value) (t : TypeId) : (w.alloc (.cells #[x] t)).cell? ⟨w.heap.size, 0, none⟩ = some x := by
  exact World.cell?_alloc_mark w #[x] t (0, 0) 0
section
variable {L : List Rg} {M st : Nat → Int} {W1 wr : World} {u6 u7 u8 : Value} {j : Nat}
theorem S_step (hs : SnS st W1.heap.size j u6 wr) (hb : SnB M W1.heap.size j u7 wr) (hp : SnP L W1.heap.size j u8 wr) (kb : Bl W1 wr) (hj : j < 18) :
    ∃ v' wa, (Builtin.append_ #[30, 30] 30 #[u6, .slice (some ⟨wr.heap.size, 0, none⟩) 1 1]).run Tryz.prog (wr.alloc (.cells #[.int .u64 (st j)] 26)) = .ok v' wa ∧ SnS st W1.heap.size (j + 1) v' wa ∧ SnB M W1.heap.size j u7 wa ∧ SnP L W1.heap.size j u8 wa ∧ Bl W1 wa := by
  have k0 := Stays.bl (base := W1.heap.size) (Bl.new wr (.cells #[.int .u64 (st j)] 26))
  obtain ⟨v', wa, h1, h2, h3, h4, _⟩ := (hs.stay k0).push (kb.alloc _) (Nat.le_refl _) (Nat.le_trans kb.size (by simp)) (by omega) wr.heap.size (alloc1_cell _ _ _)
  exact ⟨v', wa, h1, h2, (hb.stay k0).not h3 (by decide) (by decide), (hp.stay k0).not h3 (by decide), h4⟩
theorem B_step {wb : World} (hs : SnS st W1.heap.size (j + 1) u6 wr) (hb : SnB M W1.heap.size j u7 wr) (hp : SnP L W1.heap.size j u8 wr) (kb : Bl W1 wr) (hj : j < 18) (k : Bl wr wb) (hbb : wb.heap[wr.heap.size]? = some (.cells (asBytes (bytesAt M (j * 4096) 4096)).toArray 5 (0, 0))) :
    ∃ v' wc, (Builtin.append_ #[31, 31] 31 #[u7, .slice (some ⟨wb.heap.size, 0, none⟩) 1 1]).run Tryz.prog (wb.alloc (.cells #[.slice (some ⟨wr.heap.size, 0, none⟩) 4096 4096] 27)) = .ok v' wc ∧ SnS st W1.heap.size (j + 1) u6 wc ∧ SnB M W1.heap.size (j + 1) v' wc ∧ SnP L W1.heap.size j u8 wc ∧ Bl W1 wc := by
  have k1 := k.alloc (.cells #[.slice (some ⟨wr.heap.size, 0, none⟩) 4096 4096] 27)
  have k0 := Stays.bl (base := W1.heap.size) k1
  obtain ⟨v', wc, h1, h2, h3, h4, _⟩ := (hb.stay k0).push (kb.trans k1) (Nat.le_refl _) (Nat.le_trans kb.size k1.size) (by omega) wb.heap.size wr.heap.size (alloc1_cell _ _ _) kb.size ((Bl.new wb _).at_ hbb)
  exact ⟨v', wc, h1, (hs.stay k0).not h3 (by decide), h2, (hp.stay k0).not h3 (by decide), h4⟩
theorem P_step {wd : World} {q : Int} (hs : SnS st W1.heap.size (j + 1) u6 wr) (hb : SnB M W1.heap.size (j + 1) u7 wr) (hp : SnP L W1.heap.size j u8 wr) (kb : Bl W1 wr) (hj : j < 18) (k : Bl wr wd) (hq : ProtIs L ((j : Int) * 4096) q) :
    ∃ v' we, (Builtin.append_ #[32, 32] 32 #[u8, .slice (some ⟨wd.heap.size, 0, none⟩) 1 1]).run Tryz.prog (wd.alloc (.cells #[.int .i64 q] 3)) = .ok v' we ∧ SnS st W1.heap.size (j + 1) u6 we ∧ SnB M W1.heap.size (j + 1) u7 we ∧ SnP L W1.heap.size (j + 1) v' we ∧ Bl W1 we := by
  have k1 := k.alloc (.cells #[.int .i64 q] 3)
  have k0 := Stays.bl (base := W1.heap.size) k1
  obtain ⟨v', we, h1, h2, h3, h4, _⟩ := (hp.stay k0).push (kb.trans k1) (Nat.le_refl _) (Nat.le_trans kb.size k1.size) (by omega) wd.heap.size q (alloc1_cell _ _ _) hq
  exact ⟨v', we, h1, (hs.stay k0).not h3 (by decide), (hb.stay k0).not h3 (by decide) (by decide), h2, h4⟩
end
theorem both_step {w V W5 : World} {n rb : Nat} {L : List Rg} {M st : Nat → Int} {ba en b0 e0 : Int} (hms : MS (from_ w.heap.size) V w.heap.size n L M st 50 ba en) (hn : n ≤ 1200000) (hwV : Bl w V) (k : Bl V W5) (hra : RA W5 rb b0 e0) (hrb : V.heap.size ≤ rb)
    (d m p ad sz : Int) (fx : Bool) (A : Option Addr) (l c : Nat) (xs : List Int) (hby : BytesIn w A l c xs) (hl : l ≤ 6000) (had : Wd ad) (hsz : Wd sz) :
    Calls Tryz.prog 10 #[addr0 w.heap.size, addr0 rb, .agg #[.int .i64 d, .int .i64 m, .int .i64 p, .int .u64 ad, .int .u64 sz, .bool fx, .slice A l c]] W5 fun r w' => (∃ s t, r = .returned (.tuple #[.string s, .string t])) ∧ Left (gap (from_ w.heap.size) V.heap.size W5.heap.size) w.heap.size n L M st 50 (Quiet d) w' ∧ Fr (plus (gap (from_ w.heap.size) V.heap.size W5.heap.size) rb) W5 w' :=
  both_any (hms.gap k V.heap.size W5.heap.size (Nat.le_refl _)) (by omega) (gap_new (fun b hb => Nat.le_trans hwV.size hb) V.heap.size k.size) hra (fun h => h.2 ⟨hrb, lt_at hra.blk⟩) d m p ad sz fx A l c xs (hby.rd.below (hwV.trans k)) hby.len hby.cap hby.nil hby.bd
    (fun h0 ad' e h => by have h1 := hby.lt h0 ad' e; have h2 : w.heap.size ≤ ad'.block := h.1; omega) hl had hsz
/-- What stands behind it. -/
structure Behind (w W1 : World) (bx n : Nat) (L : List Rg) (M st : Nat → Int) (q : Prop) (V7 : Array Value) (u6 u7 u8 : Value) (w6 : World) : Prop where
  bl : Bl w w6
  ss : SnS st W1.heap.size 18 u6 w6
  sb : SnB M W1.heap.size 18 u7 w6
  sp : SnP L W1.heap.size 18 u8 w6
  box : w6.heap[bx]? = some (.cells V7 29 (0, 0))
  left : Left (from_ w.heap.size) w.heap.size n L M st 50 q w6
theorem behind_of {w V W1 Wn W5 w6 : World} {bx n rb : Nat} {L : List Rg} {M st : Nat → Int} {q : Prop} {V7 : Array Value} {u6 u7 u8 : Value} {b0 e0 : Int} (hwV : Bl w V) (hVW : Bl V W1) (hbx : bx = V.heap.size) (kb : Bl W1 Wn) (k5 : Bl Wn W5) (hra : RA W5 rb b0 e0) (hrb : Wn.heap.size ≤ rb)
    (hs : SnS st W1.heap.size 18 u6 Wn) (hb : SnB M W1.heap.size 18 u7 Wn) (hp : SnP L W1.heap.size 18 u8 Wn) (hbox : W1.heap[bx]? = some (.cells V7 29 (0, 0)))
    (hl : Left (gap (from_ w.heap.size) V.heap.size W5.heap.size) w.heap.size n L M st 50 q w6) (hf : Fr (plus (gap (from_ w.heap.size) V.heap.size W5.heap.size) rb) W5 w6) : Behind w W1 bx n L M st q V7 u6 u7 u8 w6 := by
  have h1 := stays_both (base := W1.heap.size) hf hra rfl hVW.size
  have h2 := Stays.bl (base := W1.heap.size) k5
  have z1 := hwV.size
  have z2 := hVW.size
  have z3 := kb.size
  have hbn := kb.at_ hbox
  have zb := lt_at hbn
  refine ⟨Fr.from_bl (hwV.trans (hVW.trans (kb.trans k5))) (hf.mono fun b _ h => ?_), (hs.stay h2).stay h1, (hb.stay h2).stay h1, (hp.stay h2).stay h1, hf.at_ (k5.at_ hbn) fun h => ?_, hl.bl_un (Bl.refl _)⟩
  · rcases h with h | h
    · exact h.1
    · have h3 : b = rb := h
      show w.heap.size ≤ b
      omega
  · rcases h with h | h
    · exact h.2 ⟨by omega, by have := k5.size; omega⟩
    · have h3 : bx = rb := h
      omega
end Go.Proofs.YtepffglljmekiaaGreat
