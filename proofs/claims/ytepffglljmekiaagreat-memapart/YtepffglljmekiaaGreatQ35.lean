/-
  Clear of a wide span of whole pages: whatever pages are held, in whatever order they come.
-/
import Derived.Test.YtepffglljmekiaaGreatQ28
set_option linter.unusedVariables false
set_option linter.unusedSimpArgs false
namespace Go.Proofs.YtepffglljmekiaaGreat
open Go.RowKit
set_option maxRecDepth 100000
theorem Bl.grownBy {a b : World} (h : Bl a b) (r : Option Nat) : a.grownBy b r := ⟨h.os, h.tape, h.output, h.size, fun k hk _ => h.block k hk⟩
theorem Bl.of_grown {a b : World} (h : a.grownBy b none) : Bl a b := ⟨h.os, h.tape, h.output, h.size, fun k hk => h.block k hk (by simp)⟩
theorem u64_bounds {x : Int} (h : (Lit.int .u64 x).wf = true) : 0 ≤ x ∧ x ≤ 18446744073709551615 := by
  have h1 : (decide ((0 : Int) ≤ x) && decide (x ≤ 18446744073709551615)) = true := h
  simpa using h1
section
variable {H : Type} (w : World) {ops : Array Oper} {rest : List Oper} {o : Oper} {a : Act} {Q : Exit → Act → World → Prop}
/-- A range loop's step over pages. -/
theorem wpl_next_pages (hg : o.guard = none) (it : Operand) (hop : o.op = Op.next it false) (b r n : Nat) (D : DataW Nat) (left : Lit → Bool) (cnt : Nat) (hit : a.eval it = .pointer (some ⟨r, 0, none⟩)) (h : w.ranges Tryz.prog 26 ptrE b r n D left cnt)
    (hDone : cnt = 0 → (∀ kl, left kl = false) → wpList Tryz.prog ops Q rest (a.put o.dst (.tuple #[.bool false])) w)
    (hMore : ∀ (p : Nat) (x : Option Nat) (w' : World) (cnt' : Nat), p < 2 ^ 64 → left (key p) = true → (∀ zd, D.atKey (key p) zd = datum x) → w'.ranges Tryz.prog 26 ptrE b r n D (fun z => left z && !z.sameKey (key p)) cnt' → cnt' < cnt →
      w.grownBy w' (some r) → w'.heap.size = w.heap.size → (Instr.entry (.pointer (some ⟨r, 0, none⟩))).run Tryz.prog w' = .ok (.tuple #[.int .u64 (p : Int), ptrOf x]) w' → wpList Tryz.prog ops Q rest (a.put o.dst (.tuple #[.bool true, .int .u64 (p : Int), ptrOf x])) w') :
    wpList Tryz.prog ops Q (o :: rest) a w := by
  refine wpList_next_ranges w hg it hop 26 law27 ptrE (Value.int .u64) ptrOf (fun key kl hkey => by obtain ⟨x, rfl, _⟩ := Maps.keyOf_int_inv Tryz.underlying26 hkey; exact ⟨x, rfl⟩) (fun v y hv => by obtain ⟨c, rfl, _⟩ := ptrE_inv hv; exact ⟨c, rfl⟩) b r n D left cnt hit h hDone ?_
  intro x c kl y w' cnt' hkey hlk hv hat hrg hlt hgr hsz hen
  obtain ⟨x', ex, rfl, hwx⟩ := Maps.keyOf_int_inv Tryz.underlying26 hkey
  cases ex
  have hb : 0 ≤ x ∧ x ≤ 18446744073709551615 := u64_bounds hwx
  obtain ⟨p, rfl⟩ := Int.eq_ofNat_of_zero_le hb.1
  have hy : y.1 = datum c := by
    rw [ptrE_mk] at hv
    injection hv with hv
    rw [← hv]; cases c <;> rfl
  exact hMore p c w' cnt' (by omega) hlk (fun zd => (hat zd).trans hy) hrg hlt hgr hsz hen
end
theorem ownsMap_fun {w : World} {b n m : Nat} {D E : DataW Nat} (h : w.ownsMap Tryz.prog 26 ptrE b n D) (h' : w.ownsMap Tryz.prog 26 ptrE b m E) : D = E := by
  obtain ⟨es, c, hb, _, _, rfl⟩ := h
  obtain ⟨es', c', hb', _, _, rfl⟩ := h'
  rw [hb] at hb'; cases hb'; rfl
/-- What a step hands out is a page that is held. -/
theorem PM.step {w : World} {B n m k : Nat} {f : Nat → Option Nat} (h : PM w B n f k) {D : DataW Nat} (ho : w.ownsMap Tryz.prog 26 ptrE B m D) {p : Nat} (hp : p < 2 ^ 64) {x : Option Nat} (hat : ∀ zd, D.atKey (key p) zd = datum x) : ∃ b, x = some b ∧ f p = some b := by
  obtain ⟨E, h1, h2, h3, _⟩ := h
  obtain rfl := ownsMap_fun ho h1
  have e1 : f p = x := datum_inj (by rw [← h2 p hp]; exact hat _)
  have e2 := Maps.has_true_of_atKey hat
  rw [h3 p hp, e1] at e2
  rcases x with _ | b
  · cases e2
  · exact ⟨b, rfl, e1⟩
theorem SA.pm {Y : Rest} {S : Nat → Prop} {w : World} {sb n k : Nat} {f : Nat → Option Nat} {M st : Nat → Int} {sm : Value} {B : Nat} {c l : Int} (h : SA Y S w sb n f k M st (.map (some B)) sm c l) : PM w B n f k := by
  rcases h.pages with ⟨h0, _⟩ | ⟨B', h0, _, h1⟩
  · cases h0
  · cases h0; exact h1
set_option maxHeartbeats 2000000 in
/-- A page that is not of the span stays. -/
theorem wipe_out {Y : Rest} {S : Nat → Prop} {w : World} {sb n k : Nat} {f : Nat → Option Nat} {M st : Nat → Int} {pm sm : Value} {c l : Int} (h : SA Y S w sb n f k M st pm sm c l) (num b : Nat) (hnum : num < 67108864) (A B : Int) (hA : 0 ≤ A) (hB : B ≤ 274877906944) (hout : (num : Int) * 4096 + 4096 ≤ A ∨ B ≤ (num : Int) * 4096) (hAB : A < B) (hf : f num = some b) :
    Calls Tryz.prog 110 #[.pointer (some ⟨sb, 1, none⟩), .int .u64 (num : Int), span A B] w fun e w' => e = .returned (.tuple #[]) ∧ Bl w w' := by
  have h1 := h.bl (Bl.new w (box48 A B))
  have hlook := h1.pages.look (show num < 2 ^ 64 by omega)
  rw [hf] at hlook
  simp only [ptrOf, Option.map_some] at hlook
  obtain ⟨c0, c1, c2, c3⟩ := h1.cell
  obtain ⟨d0, d1⟩ := two_cells (heap_alloc_new w (box48 A B))
  have hz : (0 : Int) ≤ (num : Int) := by omega
  have hz1 : (num : Int) ≤ 67108864 := by omega
  generalize (num : Int) = x at *
  obtain ⟨mx, hmxe⟩ : ∃ mx, mx = max A (x * 4096) := ⟨_, rfl⟩
  obtain ⟨mi, hmie⟩ : ∃ mi, mi = min B (x * 4096 + 4096) := ⟨_, rfl⟩
  have hmx : ∀ W, (Builtin.max_ #[26, 26] 26 #[.int .u64 A, .int .u64 (x * 4096)]).run Tryz.prog W = .ok (.int .u64 mx) W := fun W => by
    rw [max_run]; congr 2; split <;> omega
  have hmi : ∀ W, (Builtin.min_ #[26, 26] 26 #[.int .u64 B, .int .u64 (x * 4096 + 4096)]).run Tryz.prog W = .ok (.int .u64 mi) W := fun W => by
    rw [min_run]; congr 2; split <;> omega
  have ce := fun W => empty_any mx mi W
  rw [decide_eq_true (by omega)] at ce
  have CE := Lib.hid ce; clear ce h1 h hout hmxe hmie
  (try unfold addr0 at *); (try unfold span at *); (try unfold box48 at *)
  go_enter Tryz.func110, Tryz.ntmps110
  go_wp2_with fail
  refine (CE.out _).mono ?_
  rintro e w3 ⟨rfl, bl3⟩
  have BLW := Lib.hid (((Bl.new w (.cells #[.int .u64 A, .int .u64 B] 123)).alloc (.cells #[.int .u64 mx, .int .u64 mi] 123)).trans bl3)
  clear bl3 c0 c1 c2 c3 d0 d1 hlook hmx hmi
  go_wp2_with fail
  (try simp only [Exit.inBlock, Exit.then]); refine bodyPost_ret (results_none rfl _ _ _) rfl ?_
  exact ⟨rfl, BLW.out⟩
theorem sameKey_key {p q : Nat} (h : p ≠ q) : (key p).sameKey (key q) = false := by
  simp [key, Lit.sameKey]; omega
/-- What a wide Clear has done when the pages of 'left' are to come yet. -/
structure WC (f f' : Nat → Option Nat) (M M' : Nat → Int) (q0 q1 : Nat) (left : Lit → Bool) : Prop where
  out : ∀ x : Nat, (x < q0 * 4096 ∨ (q1 + 1) * 4096 ≤ x) → M' x = M x
  todo : ∀ p, q0 ≤ p → p ≤ q1 → f' p ≠ none → left (key p) = true
end Go.Proofs.YtepffglljmekiaaGreat
