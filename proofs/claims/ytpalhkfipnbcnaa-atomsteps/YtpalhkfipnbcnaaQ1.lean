/-
  Plain facts on whole numbers, as words of 64 bits: filled by a sign, products' upper halves, quotients. No program in sight.
  Slices of bytes as lists of numbers: what a slice reads as, kept while only new memory is made; appending to memory of the call's own. Over any program.
  Contracts of the functions that lay words as bytes and read them back, of the program and of the reference.
  Closed facts of the program's types: a page of bytes, maps of pages and of stamps.
-/
import Derived.WalkKit
import Derived.WalkSpells
import Derived.WalkLawsBesides
import Derived.Lib.Hide
import Derived.Laws.AppendOwnNone
import Derived.Laws.CopyOwn
import Derived.Test.YtpalhkfipnbcnaaRows
import Derived.Deep.QuietTactic
import Derived.BigQuiet
import Derived.Maps.RangeWalk
import Derived.Maps.OwnOps
namespace Go.Proofs.Ytpalhkfipnbcnaa
open Go.RowKit

theorem pow_pos' (n : Nat) : (0 : Int) < 2 ^ n := Int.pow_pos (by decide)
theorem pow_split (a b : Nat) : (2 : Int) ^ (a + b) = 2 ^ a * 2 ^ b := Int.pow_add 2 a b
theorem pow_half (b : Nat) (h : 1 ≤ b) : (2 : Int) ^ b = 2 * 2 ^ (b - 1) := by
  have e : b = 1 + (b - 1) := by omega
  rw [e, Int.pow_add]; simp
theorem pow64 (b : Nat) (h : b ≤ 64) : (2 : Int) ^ (64 - b) * 2 ^ b = 18446744073709551616 := by
  rw [← Int.pow_add, show 64 - b + b = 64 by omega]; rfl
theorem pow63 (b : Nat) (h : 1 ≤ b) (h' : b ≤ 64) : (2 : Int) ^ (64 - b) * 2 ^ (b - 1) = 9223372036854775808 := by
  rw [← Int.pow_add, show 64 - b + (b - 1) = 63 by omega]; rfl

/-- x's lowest b bits as a number with a sign. -/
def low (x : Int) (b : Nat) : Int := (x + 2 ^ (b - 1)) % 2 ^ b - 2 ^ (b - 1)
/-- the same as a word. -/
def sx (x : Int) (b : Nat) : Int := low x b % 18446744073709551616

theorem low_lo (x : Int) (b : Nat) : -(2 ^ (b - 1)) ≤ low x b := by
  have h := Int.emod_nonneg (x + 2 ^ (b - 1)) (Int.ne_of_gt (pow_pos' b))
  unfold low; omega
theorem low_hi (x : Int) (b : Nat) (h : 1 ≤ b) : low x b < 2 ^ (b - 1) := by
  have h1 := Int.emod_lt_of_pos (x + 2 ^ (b - 1)) (pow_pos' b)
  have h2 := pow_half b h
  unfold low; omega
theorem low_eq (x : Int) (b : Nat) : ∃ q, x = low x b + 2 ^ b * q := by
  refine ⟨(x + 2 ^ (b - 1)) / 2 ^ b, ?_⟩
  have h := Int.emod_add_mul_ediv (x + 2 ^ (b - 1)) (2 ^ b)
  unfold low; omega
theorem low_unique (x y q : Int) (b : Nat) (h : 1 ≤ b) (he : x = y + 2 ^ b * q) (h1 : -(2 ^ (b - 1)) ≤ y) (h2 : y < 2 ^ (b - 1)) : low x b = y := by
  have h3 := pow_half b h
  unfold low
  rw [he, show y + 2 ^ b * q + 2 ^ (b - 1) = (y + 2 ^ (b - 1)) + 2 ^ b * q by omega, Int.add_mul_emod_self_left, Int.emod_eq_of_lt (by omega) (by omega)]
  omega
theorem sx_bd (x : Int) (b : Nat) : 0 ≤ sx x b ∧ sx x b < 18446744073709551616 := by unfold sx; omega
theorem sx_eq (x : Int) (b : Nat) (h : b ≤ 64) : ∃ q, sx x b = low x b + 2 ^ b * q := by
  refine ⟨2 ^ (64 - b) * (-(low x b / 18446744073709551616)), ?_⟩
  have h1 := pow64 b h
  have h2 := Int.emod_add_mul_ediv (low x b) 18446744073709551616
  rw [← Int.mul_assoc, Int.mul_comm (2 ^ b), h1]
  unfold sx; omega
theorem low_mono (p q : Nat) (h : 1 ≤ p) (hpq : p ≤ q) : (2 : Int) ^ (p - 1) ≤ 2 ^ (q - 1) ∧ (2 : Int) ^ q = 2 ^ p * 2 ^ (q - p) := by
  constructor
  · have e : (2 : Int) ^ (q - 1) = 2 ^ (p - 1) * 2 ^ (q - p) := by rw [← Int.pow_add]; congr 1; omega
    have h1 := pow_pos' (p - 1)
    have h2 := pow_pos' (q - p)
    rw [e]
    have := Int.mul_le_mul_of_nonneg_left (show (1 : Int) ≤ 2 ^ (q - p) by omega) (Int.le_of_lt h1)
    omega
  · rw [← Int.pow_add]; congr 1; omega
theorem low_sx_up (x : Int) (p q : Nat) (hp : 1 ≤ p) (hpq : p ≤ q) (hq : q ≤ 64) : low (sx x p) q = low x p := by
  obtain ⟨h1, h2⟩ := low_mono p q hp hpq
  have hl := low_lo x p
  have hh := low_hi x p hp
  have h3 := pow64 q hq
  have h4 := Int.emod_add_mul_ediv (low x p) 18446744073709551616
  refine low_unique _ _ (2 ^ (64 - q) * (-(low x p / 18446744073709551616))) q (by omega) ?_ (by omega) (by omega)
  rw [← Int.mul_assoc, Int.mul_comm (2 ^ q), h3]
  unfold sx; omega
theorem low_sx_down (x : Int) (p q : Nat) (hq : 1 ≤ q) (hqp : q ≤ p) (hp : p ≤ 64) : low (sx x p) q = low x q := by
  obtain ⟨h1, h2⟩ := low_mono q p hq hqp
  obtain ⟨u, hu⟩ := low_eq x p
  obtain ⟨v, hv⟩ := sx_eq x p hp
  obtain ⟨t, ht⟩ := low_eq x q
  have hl := low_lo x q
  have hh := low_hi x q hq
  refine low_unique _ _ (t + 2 ^ (p - q) * (v - u)) q hq ?_ hl hh
  rw [Int.mul_add, ← Int.mul_assoc, ← h2, Int.mul_sub]
  omega
/-- Filled twice is filled by the fewest. -/
theorem sx_steps (x : Int) (p q : Nat) (hp : 1 ≤ p) (hq : 1 ≤ q) (hp' : p ≤ 64) (hq' : q ≤ 64) : sx (sx x p) q = sx x (min p q) := by
  rcases Nat.le_total p q with h | h
  · rw [Nat.min_eq_left h]; show low (sx x p) q % _ = low x p % _; rw [low_sx_up x p q hp h hq']
  · rw [Nat.min_eq_right h]; show low (sx x p) q % _ = low x q % _; rw [low_sx_down x p q hq h hp']

/-- To the left, and back with the sign. -/
theorem shifts (x : Int) (b : Nat) (h1 : 1 ≤ b) (h2 : b ≤ 64) : IntKind.u64.wrap (wrap64 (IntKind.u64.wrap (x * 2 ^ (64 - b))) / 2 ^ (64 - b)) = sx x b := by
  have hP := pow_pos' (64 - b)
  have h64 := pow64 b h2
  have h63 := pow63 b h1 h2
  obtain ⟨q, hq⟩ := low_eq x b
  have hl := low_lo x b
  have hh := low_hi x b h1
  have e1 : x * 2 ^ (64 - b) = low x b * 2 ^ (64 - b) + 18446744073709551616 * q := by
    rw [← h64, Int.mul_assoc, Int.mul_comm (2 ^ (64 - b)) (2 ^ b * q), ← Int.add_mul, ← hq]
  have a1 := Int.mul_le_mul_of_nonneg_right hl (Int.le_of_lt hP)
  have a2 := Int.mul_le_mul_of_nonneg_right (show low x b + 1 ≤ 2 ^ (b - 1) by omega) (Int.le_of_lt hP)
  rw [Int.neg_mul, Int.mul_comm (2 ^ (b - 1)), h63] at a1
  rw [Int.add_mul, Int.mul_comm (2 ^ (b - 1)), h63] at a2
  have e2 : wrap64 (IntKind.u64.wrap (x * 2 ^ (64 - b))) = low x b * 2 ^ (64 - b) := by
    rw [IntKind.wrap_u64, e1]; unfold wrap64
    generalize low x b * 2 ^ (64 - b) = t at *
    omega
  rw [e2, Int.mul_ediv_cancel _ (Int.ne_of_gt hP), IntKind.wrap_u64]
  rfl

/-! ### bits -/
theorem bit_shift (a t : Int) (n k : Nat) (h : k < n) : (a + 2 ^ n * t) / 2 ^ k % 2 = a / 2 ^ k % 2 := by
  have e : (2 : Int) ^ n * t = 2 ^ k * (2 * (2 ^ (n - k - 1) * t)) := by
    rw [show n = k + (1 + (n - k - 1)) by omega, Int.pow_add, Int.pow_add]
    rw [show k + (1 + (n - k - 1)) - k - 1 = n - k - 1 by omega]
    simp [Int.mul_assoc]
  rw [e, Int.add_mul_ediv_left _ _ (Int.ne_of_gt (pow_pos' k))]
  omega
theorem low_bit (x : Int) (b k : Nat) (h : k < b) : low x b / 2 ^ k % 2 = x / 2 ^ k % 2 := by
  obtain ⟨q, hq⟩ := low_eq x b
  have := bit_shift (low x b) q b k h
  rw [← hq] at this; exact this.symm
theorem sx_low_bit (x : Int) (b k : Nat) (hk : k < 64) : sx x b / 2 ^ k % 2 = low x b / 2 ^ k % 2 := by
  have h := bit_shift (sx x b) (low x b / 18446744073709551616) 64 k hk
  rw [← h]
  have h2 := Int.emod_add_mul_ediv (low x b) 18446744073709551616
  have e : sx x b + 2 ^ 64 * (low x b / 18446744073709551616) = low x b := by
    unfold sx; rw [show (2 : Int) ^ 64 = 18446744073709551616 from rfl]; omega
  rw [e]
theorem low_top (x : Int) (b k : Nat) (h : 1 ≤ b) (hk : b - 1 ≤ k) : low x b / 2 ^ k % 2 = low x b / 2 ^ (b - 1) % 2 := by
  have hl := low_lo x b
  have hh := low_hi x b h
  have hm := (low_mono b (k + 1) h (by omega)).1
  rw [show k + 1 - 1 = k by omega] at hm
  have hp := pow_pos' k
  have hp1 := pow_pos' (b - 1)
  by_cases hs : 0 ≤ low x b
  · rw [Int.ediv_eq_zero_of_lt hs (by omega), Int.ediv_eq_zero_of_lt hs (by omega)]
  · have e : ∀ d : Int, 0 < d → -d ≤ low x b → low x b / d = -1 := by
      intro d hd h0
      have e0 : low x b = (low x b + d) + d * (-1) := by omega
      rw [e0, Int.add_mul_ediv_left _ _ (Int.ne_of_gt hd), Int.ediv_eq_zero_of_lt (by omega) (by omega)]; rfl
    rw [e _ hp (by omega), e _ hp1 (by omega)]
/-- A filled word's bits. -/
theorem sx_bit (x : Int) (b k : Nat) (h : 1 ≤ b) (hk : k < 64) : sx x b / 2 ^ k % 2 = x / 2 ^ (min k (b - 1)) % 2 := by
  rw [sx_low_bit x b k hk]
  by_cases hkb : k < b
  · rw [low_bit x b k hkb, Nat.min_eq_left (by omega)]
  · rw [low_top x b k h (by omega), low_bit x b (b - 1) (by omega), Nat.min_eq_right (by omega)]
/-- One bit more. -/
theorem or_bit (S : Int) (k : Nat) (hk : k < 64) :
    bits .or .u64 (S % 2 ^ k) (IntKind.u64.wrap (S / 2 ^ k % 2 * 2 ^ k)) = S % 2 ^ (k + 1) := by
  have hp := pow_pos' k
  have h0 := Int.emod_nonneg S (Int.ne_of_gt hp)
  have h1 := Int.emod_lt_of_pos S hp
  have hb : S / 2 ^ k % 2 = 0 ∨ S / 2 ^ k % 2 = 1 := by omega
  have hle : (2 : Int) ^ k ≤ 9223372036854775808 := by
    have := (low_mono (k + 1) 64 (by omega) (by omega)).1
    simpa using this
  have eS : S % 2 ^ (k + 1) = S % 2 ^ k + S / 2 ^ k % 2 * 2 ^ k := by
    have e1 := Int.emod_add_mul_ediv S (2 ^ k)
    have e2 := Int.emod_add_mul_ediv (S / 2 ^ k) 2
    have e3 : S = (S % 2 ^ k + S / 2 ^ k % 2 * 2 ^ k) + 2 ^ (k + 1) * (S / 2 ^ k / 2) := by
      have : (2 : Int) ^ (k + 1) = 2 ^ k * 2 := Int.pow_succ 2 k
      rw [this, Int.mul_assoc, Int.add_assoc, Int.mul_comm (S / 2 ^ k % 2), ← Int.mul_add, e2, e1]
    have hp2 : (2 : Int) ^ (k + 1) = 2 * 2 ^ k := by rw [Int.pow_succ, Int.mul_comm]
    have hlt : S % 2 ^ k + S / 2 ^ k % 2 * 2 ^ k < 2 ^ (k + 1) := by
      rcases hb with hb | hb <;> rw [hb, hp2] <;> omega
    have hge : 0 ≤ S % 2 ^ k + S / 2 ^ k % 2 * 2 ^ k := by rcases hb with hb | hb <;> rw [hb] <;> omega
    generalize hT : S % 2 ^ k + S / 2 ^ k % 2 * 2 ^ k = T at *
    rw [e3, Int.add_mul_emod_self_left, Int.emod_eq_of_lt hge hlt]
  rw [eS, IntKind.wrap_u64]
  obtain ⟨A, hA⟩ := Int.eq_ofNat_of_zero_le h0
  rcases hb with hb | hb
  · rw [hb]; simp only [Int.zero_mul, Int.add_zero]
    rw [hA]
    have := u64_or_nat A 0 (by omega) (by decide)
    simpa using this
  · rw [hb, Int.one_mul, Int.emod_eq_of_lt (Int.le_of_lt hp) (by omega), hA]
    have e2 : (2 : Int) ^ k = ((2 ^ k : Nat) : Int) := by simp
    rw [e2, u64_or_nat A (2 ^ k) (by omega) (by omega), Nat.or_comm, nat_join k (2 ^ k) A (Nat.mod_self _) (by omega), Nat.add_comm, Int.natCast_add]
end Go.Proofs.Ytpalhkfipnbcnaa

namespace Go.Proofs.Ytpalhkfipnbcnaa
open Go.RowKit

/-- The numbers, as bytes in memory. -/
def asBytes (xs : List Int) : List Value := xs.map (Value.int .u8)
theorem asBytes_length (xs : List Int) : (asBytes xs).length = xs.length := by simp [asBytes]
theorem asBytes_append (xs ys : List Int) : asBytes (xs ++ ys) = asBytes xs ++ asBytes ys := by simp [asBytes]
theorem asBytes_get (xs : List Int) (j : Nat) (u : Value) (h : (asBytes xs)[j]? = some u) : j < xs.length ∧ u = .int .u8 (xs.getD j 0) := by
  unfold asBytes at h
  rw [List.getElem?_map] at h
  rcases hx : xs[j]? with _ | x
  · rw [hx] at h; simp at h
  · rw [hx] at h
    have hj : j < xs.length := by
      rcases Nat.lt_or_ge j xs.length with h1 | h1
      · exact h1
      · rw [List.getElem?_eq_none h1] at hx; cases hx
    simp at h
    exact ⟨hj, by rw [← h, List.getD_eq_getElem?_getD, hx]; rfl⟩
theorem asBytes_at (xs : List Int) (j : Nat) (h : j < xs.length) : (asBytes xs)[j]? = some (.int .u8 (xs.getD j 0)) := by
  unfold asBytes
  rw [List.getElem?_map, List.getElem?_eq_getElem h, List.getD_eq_getElem?_getD, List.getElem?_eq_getElem h]; rfl

/-- A slice's address reads as these bytes. -/
def Rd (w : World) (A : Option Addr) (xs : List Int) : Prop :=
  0 < xs.length → ∃ ad, A = some ad ∧ ∀ i, i < xs.length → w.cell? (ad.add i) = some (.int .u8 (xs.getD i 0))

section
variable {w w' : World} {A : Option Addr} {xs : List Int}
theorem Rd.at_ (h : Rd w A xs) (k : Nat) (hk : k < xs.length) :
    ∃ b off, A = some ⟨b, off, none⟩ ∧ w.cell? ⟨b, off + k, none⟩ = some (.int .u8 (xs.getD k 0)) := by
  obtain ⟨ad, rfl, hc⟩ := h (by omega)
  have h1 := hc k hk
  have h0 := hc 0 (by omega)
  obtain ⟨b, off, spot⟩ := ad
  have hspot : spot = none := by simpa [Addr.add] using World.cell?_spot h0
  subst hspot
  refine ⟨b, off, rfl, ?_⟩
  by_cases hk0 : k = 0
  · subst hk0; simpa [Addr.add] using h1
  · simpa [Addr.add, hk0] using h1
theorem add_block (a : Addr) (n : Nat) : (a.add n).block = a.block := by unfold Addr.add; split <;> rfl
theorem Rd.drewN (h : Rd w A xs) (k : Nat) : Rd (w.drewN k) A xs := h
theorem Rd.nil_ : Rd w A [] := fun h => absurd h (by simp)
theorem Rd.below (h : Rd w A xs) (hb : Below w.heap.size w w') : Rd w' A xs := by
  intro h0
  obtain ⟨ad, rfl, hc⟩ := h h0
  refine ⟨ad, rfl, fun i hi => ?_⟩
  have h1 := hc i hi
  rw [hb.cell (block_lt_of_cell h1)]
  exact h1
theorem Rd.cells (h : Rd w A xs) (ad : Addr) (hA : A = some ad) : ∀ j u, (asBytes xs)[j]? = some u → w.cell? (ad.add j) = some u := by
  intro j u hu
  obtain ⟨hj, rfl⟩ := asBytes_get xs j u hu
  obtain ⟨ad', h', hc⟩ := h (by omega)
  rw [hA] at h'; cases h'
  exact hc j hj
theorem Rd.of_own {base e n : Nat} {v : Value} (h : w.ownsRow base e 1 v n (asBytes xs)) : ∃ A c, v = .slice A n c ∧ Rd w A xs ∧ n = xs.length ∧ (A = none → c = 0) ∧ n ≤ c := by
  have hn : n = xs.length := by have := h.1; rw [asBytes_length] at this; omega
  rcases h.2 with ⟨rfl, h0⟩ | ⟨g, cap, cur, rfl, hb, hh, hnc, hcm, hcs, ht⟩
  · subst h0
    exact ⟨none, 0, rfl, fun hx => absurd hx (by omega), hn, fun _ => rfl, Nat.le_refl _⟩
  · refine ⟨_, _, rfl, fun _ => ⟨_, rfl, fun i hi => ?_⟩, hn, (fun h => by cases h), hnc⟩
    have := h.cells (g := g) rfl i _ (asBytes_at xs i hi)
    exact this
/-- A part of what is read. -/
theorem Rd.drop (h : Rd w A xs) (k cap : Nat) (hk : k ≤ xs.length) (hc : xs.length ≤ cap) : Rd w (if cap = k then A else A.map (·.add k)) (xs.drop k) := by
  intro h0
  rw [List.length_drop] at h0
  obtain ⟨ad, rfl, hcell⟩ := h (by omega)
  rw [if_neg (by omega)]
  refine ⟨_, rfl, fun i hi => ?_⟩
  rw [List.length_drop] at hi
  have h1 := hcell (k + i) (by omega)
  have e : (ad.add k).add i = ad.add (k + i) := by
    unfold Addr.add; by_cases a0 : k = 0 <;> by_cases b0 : i = 0 <;> simp [a0, b0, Nat.add_assoc]
  rw [e, h1, List.getD_eq_getElem?_getD, List.getD_eq_getElem?_getD, List.getElem?_drop]
end

theorem bytes_one (xs : List Int) : ∀ u ∈ asBytes xs, u.oneCell' = true := ints_oneCell .u8 xs

/-- Bytes behind a row of the call's own, whatever slice they stand in. -/
theorem wpl_append {P : Program} {w : World} {ops : Array Oper} {rest : List Oper} {o : Oper} {a : Act} {Q : Exit → Act → World → Prop} (hgd : o.guard = none) (s x : Operand) (t : TypeId)
    (ho : o.op = .call { callee := .builtin .append, args := #[s, x], argTypes := #[t, t] })
    (base : Nat) (e : TypeId) (i : TypeInfo) (ht : P.underlying t = some (.slice e)) (hi : P.info? e = some i) (hz : i.zero = some (.int .u8 0)) (hsize : i.size = 1) (hby : i.bytes = 1)
    (v : Value) (n : Nat) (xs : List Int) (hs : a.eval s = v) (hown : w.ownsRow base e 1 v n (asBytes xs))
    (A : Option Addr) (m c : Nat) (news : List Int) (hx : a.eval x = .slice A m c) (hr : Rd w A news) (hl : news.length = m) (hc : A = none → c = 0)
    (h63 : n + m ≤ 1000000000) (hbase : base ≤ w.heap.size)
    (h : ∀ v' w', w'.ownsRow base e 1 v' (n + m) (asBytes (xs ++ news)) → w.grownBy w' v.ownBlock → wpList P ops Q rest (a.put o.dst v') w') : wpList P ops Q (o :: rest) a w := by
  rcases A with _ | ad
  · have hm : news = [] := by
      rcases Nat.eq_zero_or_pos news.length with h0 | h0
      · exact List.eq_nil_of_length_eq_zero h0
      · obtain ⟨_, h', _⟩ := hr h0; cases h'
    subst hm
    obtain rfl : m = 0 := by simpa using hl.symm
    obtain rfl := hc rfl
    refine wpList_append_own_none hgd s x t ho base e i 1 ht hi v n (asBytes xs) hs hown hx ?_
    exact h v w (by simpa using hown) (World.grownBy.refl w _)
  · refine wpList_append_own w hgd s x t ho base e i (.int .u8 0) 1 1 ht hi hz hsize hby rfl (by omega) v n (asBytes xs) hs hown ad m c (asBytes news) hx (by rw [asBytes_length, hl, Nat.mul_one]) (hr.cells ad rfl) (bytes_one news) (by simp only [maxLen]; omega) (by omega) hbase ?_
    intro v' w' h1 h2 _
    exact h v' w' (by rw [asBytes_append]; exact h1) h2

/-- The same, as what the append does. -/
theorem run_appended {P : Program} (W : World) (t e ty : TypeId) (base : Nat) (i : TypeInfo) (ht : P.underlying t = some (.slice e)) (hi : P.info? e = some i) (hz : i.zero = some (.int .u8 0)) (hsize : i.size = 1) (hby : i.bytes = 1)
    (v : Value) (n : Nat) (xs : List Int) (hown : W.ownsRow base e 1 v n (asBytes xs))
    (A : Option Addr) (m c : Nat) (news : List Int) (hr : Rd W A news) (hl : news.length = m) (hc : A = none → c = 0)
    (h63 : n + m ≤ 1000000000) (hbase : base ≤ W.heap.size) :
    ∃ v' w', (Builtin.append_ #[t, t] ty #[v, .slice A m c]).run P W = .ok v' w' ∧ w'.ownsRow base e 1 v' (n + m) (asBytes (xs ++ news)) ∧ W.grownBy w' v.ownBlock := by
  rcases A with _ | ad
  · have hm : news = [] := by
      rcases Nat.eq_zero_or_pos news.length with h0 | h0
      · exact List.eq_nil_of_length_eq_zero h0
      · obtain ⟨_, h', _⟩ := hr h0; cases h'
    subst hm
    obtain rfl : m = 0 := by simpa using hl.symm
    obtain rfl := hc rfl
    exact ⟨v, W, run_append_owned_none (P := P) (w := W) base t ty e i 1 ht hi v n (asBytes xs) hown, by simpa using hown, World.grownBy.refl W _⟩
  · obtain ⟨v', w', h1, h2, h3, _⟩ := run_append_own (P := P) W base t ty e i (.int .u8 0) 1 1 ht hi hz hsize hby rfl (by omega) v n (asBytes xs) hown ad m c (asBytes news) (by rw [asBytes_length, hl, Nat.mul_one]) (hr.cells ad rfl) (bytes_one news) (by simp only [maxLen]; omega) (by omega) hbase
    exact ⟨v', w', h1, by rw [asBytes_append]; exact h2, h3⟩

/-- An append whose run is known, guarded or not. -/
theorem wpl_append_run {P : Program} {w w1 : World} {ops : Array Oper} {rest : List Oper} {o : Oper} {a : Act} {Q : Exit → Act → World → Prop} (hw : Region.wanted o (yielded ops a.tmps) = true) (s x : Operand) (t : TypeId)
    (ho : o.op = .call { callee := .builtin .append, args := #[s, x], argTypes := #[t, t] }) (v vx v1 : Value) (hs : a.eval s = v) (hx : a.eval x = vx)
    (hrun : (Builtin.append_ #[t, t] o.type #[v, vx]).run P w = .ok v1 w1) (h : wpList P ops Q rest (a.put o.dst v1) w1) : wpList P ops Q (o :: rest) a w := by
  refine BigFrame.wpList_want hw fun K hK => ?_
  unfold Oper.wp
  simp [execOp, ho, resolve, invoke, builtin, hs, hx, hrun, Result.andThen]
  exact hK _ _ h

/-- copy of as many bytes as the row has elements. -/
theorem run_copied {P : Program} (W : World) (t e : TypeId) (ty : TypeId) (ht : P.underlying t = some (.slice e)) (hsz : (P.info? e).map (·.size) = some 1)
    (base g len c : Nat) (cur : Array Value) (hg : W.heap[g]? = some (.cells cur e (0, 0))) (hcs : cur.size = c) (hlc : len ≤ c) (hcm : c ≤ maxLen) (hbg : base ≤ g)
    (A : Option Addr) (cap : Nat) (xs : List Int) (hr : Rd W A xs) (hl : xs.length = len) :
    ∃ w2, (Builtin.copy_ #[t, t] ty #[.slice (some ⟨g, 0, none⟩) len c, .slice A len cap]).run P W = .ok (.int .i64 (len : Int)) w2 ∧
      w2.ownsRow base e 1 (.slice (some ⟨g, 0, none⟩) len c) len (asBytes xs) ∧ W.grownBy w2 (some g) := by
  by_cases h0 : len = 0
  · subst h0
    obtain rfl : xs = [] := List.eq_nil_of_length_eq_zero hl
    exact ⟨W, run_copy_none (P := P) W t t ty e _ _ 0 c 0 cap ht hsz rfl, ⟨by simp [asBytes], .inr ⟨g, c, cur, rfl, hbg, hg, hlc, hcm, by omega, by simp [asBytes]⟩⟩, World.grownBy.refl _ _⟩
  · obtain ⟨ad, rfl, _⟩ := hr (by omega)
    have hcl : (asBytes xs).length = len := by rw [asBytes_length, hl]
    have hrun := run_copy_row (P := P) W t t ty e g 0 len c ad len cap cur e (asBytes xs) ht hsz hg (by rw [hcl]; exact (Nat.min_self _).symm) (hr.cells ad rfl) (by omega) (bytes_one xs)
    rw [hcl] at hrun
    refine ⟨_, hrun, ⟨by omega, .inr ⟨g, c, _, rfl, hbg, setRow_heap W g _ _ e _ hg, hlc, hcm, ?_, ?_⟩⟩, ?_⟩
    · simp [hcl]; omega
    · simp [hcl]
    · exact ⟨rfl, rfl, rfl, by simp [World.setRow], fun k _ hne => setRow_other W g k _ (fun e => hne (by rw [e]))⟩
end Go.Proofs.Ytpalhkfipnbcnaa

namespace Go.Proofs.Ytpalhkfipnbcnaa
open Go.RowKit
theorem count_any (n : Int) (w : World) : Calls Try.prog 61 #[.int .i64 n] w fun e w' => e = .returned (.bool (decide (1 ≤ n ∧ n ≤ 8))) ∧ w = w' := by
  by_cases h : 1 ≤ n
  · have e : decide (1 ≤ n ∧ n ≤ 8) = decide (n ≤ 8) := by simp [h]
    rw [e]; clear e
    go_enter Try.func61, Try.ntmps61
    go_wp2
    go_ret
    exact ⟨rfl, rfl⟩
  · have e : decide (1 ≤ n ∧ n ≤ 8) = false := by simp [h]
    rw [e]; clear e
    go_enter Try.func61, Try.ntmps61
    go_wp2
    go_ret
    exact ⟨rfl, rfl⟩

/-- The number that the first k bytes are, the lowest first. -/
def getS (xs : List Int) : Nat → Int
  | 0 => 0
  | k + 1 => getS xs k + xs.getD k 0 * 2 ^ (8 * k)
theorem getS_bd (xs : List Int) (hb : ∀ k, 0 ≤ xs.getD k 0 ∧ xs.getD k 0 ≤ 255) (k : Nat) : 0 ≤ getS xs k ∧ getS xs k < 2 ^ (8 * k) := by
  induction k with
  | zero => simp [getS]
  | succ k ih =>
    have hp := pow_pos' (8 * k)
    have hx := hb k
    have e : (2 : Int) ^ (8 * (k + 1)) = 256 * 2 ^ (8 * k) := by rw [show 8 * (k + 1) = 8 + 8 * k by omega, Int.pow_add]; rfl
    have h1 := Int.mul_nonneg hx.1 (Int.le_of_lt hp)
    have h2 := Int.mul_le_mul_of_nonneg_right hx.2 (Int.le_of_lt hp)
    unfold getS
    rw [e]
    omega
theorem pow_le56 (k : Nat) (h : k ≤ 56) : (2 : Int) ^ k ≤ 72057594037927936 := by
  have := (low_mono (k + 1) 57 (by omega) (by omega)).1
  simpa using this
theorem byte_up (x : Int) (k : Nat) (hk : k < 8) (hx : 0 ≤ x ∧ x ≤ 255) : IntKind.u64.wrap (x * 2 ^ (8 * k)) = x * 2 ^ (8 * k) := by
  have hp := pow_pos' (8 * k)
  have hq := pow_le56 (8 * k) (by omega)
  have h1 := Int.mul_nonneg hx.1 (Int.le_of_lt hp)
  have h2 := Int.mul_le_mul_of_nonneg_right hx.2 (Int.le_of_lt hp)
  exact IntWalk.u64_in _ (by omega)
/-- One byte more, by or. -/
theorem or_byte (xs : List Int) (hb : ∀ k, 0 ≤ xs.getD k 0 ∧ xs.getD k 0 ≤ 255) (k : Nat) (hk : k < 8) :
    bits .or .u64 (getS xs k) (IntKind.u64.wrap (xs.getD k 0 * 2 ^ (8 * k))) = getS xs (k + 1) := by
  obtain ⟨h0, h1⟩ := getS_bd xs hb k
  have hx := hb k
  rw [byte_up _ k hk hx]
  show _ = getS xs k + xs.getD k 0 * 2 ^ (8 * k)
  have hp := pow_pos' (8 * k)
  have hq := pow_le56 (8 * k) (by omega)
  have h3 := Int.mul_nonneg hx.1 (Int.le_of_lt hp)
  have h4 := Int.mul_le_mul_of_nonneg_right hx.2 (Int.le_of_lt hp)
  generalize getS xs k = g at *
  generalize xs.getD k 0 = x at *
  obtain ⟨G, rfl⟩ := Int.eq_ofNat_of_zero_le h0
  obtain ⟨X, rfl⟩ := Int.eq_ofNat_of_zero_le hx.1
  have e2 : (2 : Int) ^ (8 * k) = ((2 ^ (8 * k) : Nat) : Int) := by simp
  rw [e2, ← Int.natCast_mul] at h3 h4 ⊢
  rw [e2] at h1 hq
  rw [u64_or_nat G (X * 2 ^ (8 * k)) (by omega) (by omega), Nat.or_comm, nat_join (8 * k) (X * 2 ^ (8 * k)) G (Nat.mul_mod_left _ _) (by omega), Nat.add_comm, Int.natCast_add]

set_option maxHeartbeats 1000000 in
theorem get_in (A : Option Addr) (len cap : Nat) (xs : List Int) (n : Nat) (w : World) (hr : Rd w A xs) (hl : xs.length = len) (hm : len ≤ 100000) (h1 : 1 ≤ n) (h8 : n ≤ 8)
   (hb : ∀ k, 0 ≤ xs.getD k 0 ∧ xs.getD k 0 ≤ 255) :
    Calls Try.prog 64 #[.slice A len cap, .int .i64 n] w fun e w' => e = .returned (.int .u64 (getS xs (min n len))) ∧ w = w' := by
  have HR := Lib.hid hr; clear hr
  have HL := Lib.hid hl; clear hl
  have HB := Lib.hid hb; clear hb
  have e1 : decide (1 ≤ (n : Int) ∧ (n : Int) ≤ 8) = true := by simp; omega
  have E1 := Lib.hid e1; clear e1
  by_cases hc : len < n
  · rw [Nat.min_eq_right (by omega)]
    go_enter Try.func64, Try.ntmps64
    go_wp2_with fail
    refine (count_any _ _).mono ?_
    rintro e w' ⟨rfl, rfl⟩
    rw [E1.out]
    go_wp2
    go_loop [5, 14] (fun x i => ∃ k : Nat, k ≤ len ∧ i = .int .i64 k ∧ x = .int .u64 (getS xs k)) (fun _ i => len - (intOf i).toNat)
    case atStart => exact ⟨0, by omega, rfl, rfl⟩
    case round =>
      obtain ⟨k, hk, rfl, rfl⟩ := hrel
      by_cases hlt : k < len
      · obtain ⟨b, off, hA, hcell⟩ := HR.out.at_ k (by rw [HL.out]; omega)
        subst hA
        have hx := HB.out k
        have ho := Lib.hid (or_byte xs HB.out k (by omega))
        generalize xs.getD k 0 = x at *
        have hin : (k : Int) < (len : Int) := by omega
        go_wp2
        go_round
        case rel => exact ⟨k + 1, by omega, by go_num, by rw [← ho.out]⟩
        case measure => simp [intOf]; omega
      · obtain rfl : k = len := by omega
        go_wp2
        go_ret
        exact ⟨rfl, rfl⟩
  · rw [Nat.min_eq_left (by omega)]
    go_enter Try.func64, Try.ntmps64
    go_wp2_with fail
    refine (count_any _ _).mono ?_
    rintro e w' ⟨rfl, rfl⟩
    rw [E1.out]
    go_wp2
    go_loop [5, 14] (fun x i => ∃ k : Nat, k ≤ n ∧ i = .int .i64 k ∧ x = .int .u64 (getS xs k)) (fun _ i => n - (intOf i).toNat)
    case atStart => exact ⟨0, by omega, rfl, rfl⟩
    case round =>
      obtain ⟨k, hk, rfl, rfl⟩ := hrel
      by_cases hlt : k < n
      · obtain ⟨b, off, hA, hcell⟩ := HR.out.at_ k (by rw [HL.out]; omega)
        subst hA
        have hx := HB.out k
        have ho := Lib.hid (or_byte xs HB.out k (by omega))
        generalize xs.getD k 0 = x at *
        have hin : (k : Int) < (len : Int) := by omega
        go_wp2
        go_round
        case rel => exact ⟨k + 1, by omega, by go_num, by rw [← ho.out]⟩
        case measure => simp [intOf]; omega
      · obtain rfl : k = n := by omega
        go_wp2
        go_ret
        exact ⟨rfl, rfl⟩

set_option maxHeartbeats 1000000 in
theorem get_out (A : Option Addr) (len cap : Nat) (n : Int) (w : World) (h : ¬ (1 ≤ n ∧ n ≤ 8)) :
    Calls Try.prog 64 #[.slice A len cap, .int .i64 n] w fun e w' => e = .returned (.int .u64 0) ∧ w = w' := by
  have e1 : decide (1 ≤ n ∧ n ≤ 8) = false := by simp only [decide_eq_false_iff_not]; exact h
  have E1 := Lib.hid e1; clear e1
  go_enter Try.func64, Try.ntmps64
  go_wp2_with fail
  refine (count_any _ _).mono ?_
  rintro e w' ⟨rfl, rfl⟩
  rw [E1.out]
  go_wp2
  go_ret
  exact ⟨rfl, rfl⟩

theorem add_byte (xs : List Int) (hb : ∀ k, 0 ≤ xs.getD k 0 ∧ xs.getD k 0 ≤ 255) (k : Nat) (hk : k < 8) :
    IntKind.u64.wrap (getS xs k + IntKind.u64.wrap (xs.getD k 0 * 2 ^ (8 * k))) = getS xs (k + 1) := by
  rw [byte_up _ k hk (hb k)]
  have h := getS_bd xs hb (k + 1)
  have hp : (2 : Int) ^ (8 * (k + 1)) ≤ 18446744073709551616 := by
    have := (low_mono (8 * (k + 1) + 1) 65 (by omega) (by omega)).1
    simpa using this
  exact IntWalk.u64_in _ (by show 0 ≤ getS xs (k + 1) ∧ getS xs (k + 1) ≤ _; omega)

set_option maxHeartbeats 1000000 in
theorem refGet_in (A : Option Addr) (len cap : Nat) (xs : List Int) (n : Nat) (w : World) (hr : Rd w A xs) (hl : xs.length = len) (hm : len ≤ 100000) (h1 : 1 ≤ n) (h8 : n ≤ 8)
   (hb : ∀ k, 0 ≤ xs.getD k 0 ∧ xs.getD k 0 ≤ 255) :
    Calls Try.prog 24 #[.slice A len cap, .int .i64 n] w fun e w' => e = .returned (.int .u64 (getS xs (min n len))) ∧ w = w' := by
  have HR := Lib.hid hr; clear hr
  have HL := Lib.hid hl; clear hl
  have HB := Lib.hid hb; clear hb
  obtain ⟨M, hMe⟩ : ∃ M, M = min n len := ⟨_, rfl⟩
  rw [← hMe]
  have hM1 : M ≤ n := by omega
  have hM2 : M ≤ len := by omega
  have hM3 : M = n ∨ M = len := by omega
  have HM := Lib.hid hM3; clear hM3 hMe
  go_enter Try.func24, Try.ntmps24
  go_wp2
  go_loop [5, 6] (fun x i => ∃ k : Nat, k ≤ M ∧ i = .int .i64 k ∧ x = .int .u64 (getS xs k)) (fun _ i => M - (intOf i).toNat)
  case atStart => exact ⟨0, by omega, rfl, rfl⟩
  case round =>
    obtain ⟨k, hk, rfl, rfl⟩ := hrel
    by_cases hlt : k < M
    · obtain ⟨b, off, hA, hcell⟩ := HR.out.at_ k (by rw [HL.out]; omega)
      subst hA
      have hx := HB.out k
      have ho := Lib.hid (add_byte xs HB.out k (by omega))
      generalize xs.getD k 0 = x at *
      have hin : (k : Int) < (len : Int) := by omega
      have hin2 : (k : Int) < (n : Int) := by omega
      go_wp2
      go_round
      case rel => exact ⟨k + 1, by omega, by go_num, by rw [← ho.out]⟩
      case measure => simp [intOf]; omega
    · obtain rfl : k = M := by omega
      by_cases hkn : k < n
      · have hkl : k = len := by have := HM.out; omega
        have hin : ¬ (k : Int) < (len : Int) := by omega
        clear hkl
        go_wp2
        go_ret
        exact ⟨rfl, rfl⟩
      · go_wp2
        go_ret
        exact ⟨rfl, rfl⟩
set_option maxHeartbeats 1000000 in
theorem refGet_out (A : Option Addr) (len cap : Nat) (n : Int) (w : World) (h : ¬ (1 ≤ n ∧ n ≤ 8)) :
    Calls Try.prog 24 #[.slice A len cap, .int .i64 n] w fun e w' => e = .returned (.int .u64 0) ∧ w = w' := by
  by_cases h1 : n < 1
  · go_enter Try.func24, Try.ntmps24
    go_wp2
    go_ret
    exact ⟨rfl, rfl⟩
  · have h2 : 8 < n := by omega
    clear h
    go_enter Try.func24, Try.ntmps24
    go_wp2
    go_ret
    exact ⟨rfl, rfl⟩

set_option maxHeartbeats 1000000 in
theorem sameB_any (A B : Option Addr) (len cap cap' : Nat) (xs : List Int) (w : World) (hr : Rd w A xs) (hr' : Rd w B xs) (hl : xs.length = len) (hm : len ≤ 100000) :
    Calls Try.prog 15 #[.slice A len cap, .slice B len cap'] w fun e w' => e = .returned (.bool true) ∧ ∃ m, w' = w.drewN m := by
  have HR := Lib.hid hr; clear hr
  have HR' := Lib.hid hr'; clear hr'
  have HL := Lib.hid hl; clear hl
  go_enter Try.func15, Try.ntmps15
  go_wp2
  go_loopw [5] (fun i wr => ∃ k m : Nat, k ≤ len ∧ i = .int .i64 k ∧ wr = w.drewN m) (fun i _ => len - (intOf i).toNat)
  case atStart => exact ⟨0, 0, by omega, rfl, rfl⟩
  case round =>
    obtain ⟨k, m, hk, rfl, rfl⟩ := hrel
    by_cases hlt : k < len
    · obtain ⟨b, off, hA, hcell⟩ := HR.out.at_ k (by rw [HL.out]; omega)
      subst hA
      obtain ⟨b', off', hA, hcell'⟩ := HR'.out.at_ k (by rw [HL.out]; omega)
      subst hA
      generalize xs.getD k 0 = x at *
      have hin : (k : Int) < (len : Int) := by omega
      go_wp2
      go_quiet (fail)
      go_wp2
      go_roundw
      case rel => exact ⟨k + 1, m + nq, by omega, by go_num, rfl⟩
      case measure => simp [intOf]; omega
    · obtain rfl : k = len := by omega
      go_wp2
      go_ret
      exact ⟨rfl, _, rfl⟩
end Go.Proofs.Ytpalhkfipnbcnaa

set_option linter.unusedVariables false
namespace Go.Proofs.Ytpalhkfipnbcnaa
open Go.RowKit
set_option maxRecDepth 100000
theorem law27 : Maps.Keyed Try.prog 22 := Maps.int_keyed Try.underlying22
theorem zero44 (w : World) : (zeroValue 102).run Try.prog w = .ok (.pointer none) w := by kernel_rfl
theorem zero27 (w : World) : (zeroValue 22).run Try.prog w = .ok (.int .u64 0) w := by kernel_rfl
def zeros : Array Value := (asBytes (List.replicate 4096 0)).toArray
theorem info53 : (Try.prog.info? 115).map (fun i => (i.zero, i.size)) = some (some (.agg zeros), 4096) := by kernel_rfl
theorem infoByte : (Try.prog.info? 5).map (fun i => (i.zero, i.size, i.bytes)) = some (some (.int .u8 0), 1, 1) := by kernel_rfl
theorem sizeByte : (Try.prog.info? 5).map (·.size) = some 1 := by kernel_rfl
end Go.Proofs.Ytpalhkfipnbcnaa
