/-
  Clear of whole pages: few of them, one by one.
  Plain facts on whole numbers, as words of 64 bits: filled by a sign, products' upper halves, quotients. No program in sight.
  Contracts of the functions that lay words as bytes and read them back, of the program and of the reference.
  Contracts of the functions that lay words behind bytes, of the program and of the reference.
  A space in memory: its block, its list of regions, its store; what the list's calls and the store's calls leave of it.
-/
import Derived.Test.YtbngjbmfkekdnaaGreatDoorQ5
import Derived.WalkKit
import Derived.Test.YtbngjbmfkekdnaaGreatDoorRows
import Derived.WalkSpells
import Derived.WalkLawsBesides
import Derived.Lib.Hide
import Derived.Test.YtbngjbmfkekdnaaGreatDoorQ1
import Derived.Deep.QuietTactic
import Derived.BigQuiet
import Derived.Test.YtbngjbmfkekdnaaGreatDoorQ3
set_option linter.unusedVariables false
set_option linter.unusedSimpArgs false
namespace Go.Proofs.YtbngjbmfkekdnaaGreatDoor
open Go.RowKit
set_option maxRecDepth 100000
set_option maxHeartbeats 4000000 in
theorem clear_narrow {Y : Rest} {S : Nat → Prop} {w : World} {sb n k : Nat} {f : Nat → Option Nat} {M st : Nat → Int} (h : StoreAt Y S w sb n f k M st) (q0 q1 : Nat) (h01 : q0 ≤ q1) (hq1 : q1 < 67108864) (hq : q1 < q0 + 4096) (hn : n < 80000000) (hS : ∀ b, w.heap.size ≤ b → S b) :
    Calls Tryz.prog 43 #[.pointer (some ⟨sb, 1, none⟩), .int .u64 ((q0 * 4096 : Nat) : Int), .int .u64 (((q1 + 1) * 4096 : Nat) : Int)] w fun e w' => e = .returned (.tuple #[]) ∧ (∃ k' st', StoreAt Y S w' sb (n + 8192) (cut f q0 (q1 + 1 - q0)) k' (wiped M (q0 * 4096) ((q1 + 1) * 4096)) st' ∧ k' + hcnt f q0 (q1 + 1 - q0) = k ∧ Rise st st' (fun p => q0 ≤ p ∧ p ≤ q1)) ∧ Fr S w w' := by
  obtain ⟨a, ha⟩ : ∃ a, a = q0 * 4096 := ⟨_, rfl⟩
  obtain ⟨b, hb⟩ : ∃ b, b = (q1 + 1) * 4096 := ⟨_, rfl⟩
  have cw := fun W => pwithin_in (a : Int) (b : Int) W (by omega)
  have ce := fun W => empty_any (a : Int) (b : Int) W
  rw [decide_eq_false (by omega)] at ce
  have cs := fun (W : World) (hW : StoreAt Y (less S W.heap.size) (W.alloc (box48 a b)) sb n f k M st) => hW
  have cwi := fun W => wide_i (a : Int) (b : Int) W (by omega) (by omega) (by omega)
  rw [decide_eq_false (by omega)] at cwi
  have cf := fun W => first_i (a : Int) (b : Int) W (by omega) (by omega)
  have cl := fun W => last_i (a : Int) (b : Int) W (by omega) (by omega)
  have e0 : (a : Int) / 4096 = (q0 : Int) := by omega
  have e1 : ((b : Int) - 1) / 4096 = (q1 : Int) := by omega
  rw [e0] at cf
  rw [e1] at cl
  clear cs e0 e1
  have cst := fun (W : World) (S' : Nat → Prop) (hW : StoreAt Y S' W sb n f k M st) (hS' : ∀ b, W.heap.size ≤ b → S' b) => stampAll_narrow hW a b (by omega) (by omega) (by omega) (by omega) hS'
  have cwp := fun (W : World) (S' : Nat → Prop) (k' : Nat) (f' : Nat → Option Nat) (M' st' : Nat → Int) (hW : StoreAt Y S' W sb (n + 8192) f' k' M' st') (num : Nat) (h0 : q0 ≤ num) (h1 : num ≤ q1) => wipe_any hW num (by omega) (a : Int) (b : Int) (by omega) (by omega) (by omega) (by omega)
  rw [← ha, ← hb]
  have HA := Lib.hid ha; clear ha
  have HB := Lib.hid hb; clear hb
  have HH := Lib.hid h; clear h
  have HS := Lib.hid hS; clear hS
  have CW := Lib.hid cw; clear cw
  have CE := Lib.hid ce; clear ce
  have CWI := Lib.hid cwi; clear cwi
  have CF := Lib.hid cf; clear cf
  have CL := Lib.hid cl; clear cl
  have CST := Lib.hid cst; clear cst
  have CWP := Lib.hid cwp; clear cwp
  generalize (a : Int) = A at *
  generalize (b : Int) = B at *
  (try unfold addr0 at *); (try unfold span at *)
  go_enter Tryz.func43, Tryz.ntmps43
  go_wp2_with fail
  refine (CW.out _).mono ?_
  rintro e w1 ⟨rfl, bl1⟩
  have h1 : StoreAt Y (less S w1.heap.size) (w1.alloc (box48 A B)) sb n f k M st := (HH.out.bl bl1).less _
  have hS1 : ∀ b, w1.heap.size ≤ b → S b := fun b hb => HS.out b (Nat.le_trans bl1.size hb)
  have fr1 : Fr (less S w1.heap.size) (w1.alloc (box48 A B)) (w1.alloc (box48 A B)) := Fr.refl _ _
  have FR1 := Lib.hid fr1; clear fr1
  have H1 := Lib.hid h1; clear h1
  have HS1 := Lib.hid hS1; clear hS1
  have BL1 := Lib.hid bl1; clear bl1
  go_wp2_with fail
  refine (CE.out _).mono ?_
  rintro e w2 ⟨rfl, bl2⟩
  have fr2 := FR1.out.trans (Fr.of_bl bl2)
  have h2 := H1.out.bl bl2
  obtain ⟨c0, c1⟩ := two_cells (box_at fr2)
  have FR2 := Lib.hid fr2; clear fr2 FR1 bl2
  have H2 := Lib.hid h2; clear h2 H1
  go_wp2_with fail
  refine (CST.out _ _ H2.out (less_new HS1.out FR2.out.size)).mono ?_
  rintro e w3 ⟨rfl, ⟨st', h3, hris⟩, fr3⟩
  have HRIS := Lib.hid hris; clear hris
  have fr3' := FR2.out.trans fr3
  clear c0 c1
  obtain ⟨c0, c1⟩ := two_cells (box_at fr3')
  have FR3 := Lib.hid fr3'; clear fr3' fr3 FR2
  have H3 := Lib.hid h3; clear h3 H2
  go_wp2_with fail
  refine (CWI.out _).mono ?_
  rintro e w4 ⟨rfl, bl4⟩
  have fr4 := FR3.out.trans (Fr.of_bl bl4)
  have h4 := H3.out.bl bl4
  clear c0 c1
  obtain ⟨c0, c1⟩ := two_cells (box_at fr4)
  have FR4 := Lib.hid fr4; clear fr4 FR3 bl4
  have H4 := Lib.hid h4; clear h4 H3
  go_wp2_with fail
  refine (CF.out _).mono ?_
  rintro e w5 ⟨rfl, bl5⟩
  have fr5 := FR4.out.trans (Fr.of_bl bl5)
  have h5 := H4.out.bl bl5
  clear c0 c1
  have FR5 := Lib.hid fr5; clear fr5 FR4 bl5
  have H5 := Lib.hid h5; clear h5 H4
  go_wp2_with fail
  go_loopw [8] (fun v wr => ∃ j k' : Nat, v = .int .u64 ((q0 + j : Nat) : Int) ∧ q0 + j ≤ q1 + 1 ∧ StoreAt Y (less S w1.heap.size) wr sb (n + 8192) (cut f q0 j) k' (wiped M (q0 * 4096) ((q0 + j) * 4096)) st' ∧ k' + hcnt f q0 j = k ∧ Fr (less S w1.heap.size) (w1.alloc (box48 A B)) wr) (fun v _ => q1 + 1 - (intOf v).toNat)
  case atStart =>
    refine ⟨0, k, rfl, by omega, ?_, rfl, FR5.out⟩
    have e1 : cut f q0 0 = f := by funext p; simp only [cut]; rw [if_neg (by omega)]
    have e2 : wiped M (q0 * 4096) ((q0 + 0) * 4096) = M := by funext x; simp only [wiped]; rw [if_neg (by omega)]
    rw [e1, e2]; exact H5.out
  case round =>
    obtain ⟨j, k', rfl, hj, hst, hk, hfr⟩ := hrel
    clear H5 FR5
    obtain ⟨c0, c1⟩ := two_cells (box_at hfr)
    have HST := Lib.hid hst; clear hst
    have HFR := Lib.hid hfr; clear hfr
    have HK := Lib.hid hk; clear hk
    go_wp2_with fail
    refine (CL.out _).mono ?_
    rintro e w6 ⟨rfl, bl6⟩
    have fr6 := HFR.out.trans (Fr.of_bl bl6)
    have h6 := HST.out.bl bl6
    clear c0 c1
    obtain ⟨c0, c1⟩ := two_cells (box_at fr6)
    have FR6 := Lib.hid fr6; clear fr6
    have H6 := Lib.hid h6; clear h6 bl6
    by_cases hlt : q0 + j ≤ q1
    · have hltI : ((q0 + j : Nat) : Int) ≤ (q1 : Int) := by omega
      obtain ⟨x, hx⟩ : ∃ x, x = q0 + j := ⟨_, rfl⟩
      rw [← hx] at hltI ⊢
      have hxb : (x : Int) ≤ 67108864 := by omega
      have HX := Lib.hid hx; clear hx
      go_wp2_with fail
      refine (CWP.out _ _ _ _ _ _ H6.out x (by have := HX.out; omega) (by have := HX.out; omega)).mono ?_
      rintro e w7 ⟨rfl, ⟨k7, h7, hk7⟩, fr7⟩
      have H7 := Lib.hid h7; clear h7
      have FR7 := Lib.hid fr7; clear fr7
      have HK7 := Lib.hid hk7; clear hk7
      clear c0 c1
      go_wp2_with fail
      have hx := HX.out
      refine ⟨⟨j + 1, k7, by congr 1; omega, by omega, ?_, ?_, FR6.out.trans FR7.out⟩, ?_⟩
      · have h7 := H7.out
        rw [hx, cut_step, wiped_step] at h7
        exact h7
      · have h8 := HK7.out
        have h9 := HK.out
        rw [hx] at h8
        have e1 : cut f q0 j (q0 + j) = f (q0 + j) := by simp only [cut]; rw [if_neg (by omega)]
        rw [e1] at h8
        simp only [hcnt]
        omega
      · simp only [intOf]
        omega
    · have hgt : (q1 : Int) < ((q0 + j : Nat) : Int) := by omega
      have hjj : j = q1 + 1 - q0 := by omega
      have HJ := Lib.hid hjj
      clear hlt hjj c0 c1
      go_wp2_with fail
      go_end0
      have hjj := HJ.out
      refine ⟨rfl, ⟨k', st', ?_, by rw [← hjj]; exact HK.out, HRIS.out.mono fun p hp => by have := HA.out; have := HB.out; omega⟩, (Fr.of_bl BL1.out).trans FR6.out.unless⟩
      have h6 := H6.out.among (T := S) (fun _ _ e => e.1)
      rw [hjj] at h6
      rw [show q0 + (q1 + 1 - q0) = q1 + 1 by omega] at h6
      rw [HA.out, HB.out]
      exact h6
end Go.Proofs.YtbngjbmfkekdnaaGreatDoor

namespace Go.Proofs.YtbngjbmfkekdnaaGreatDoor
open Go.RowKit

theorem pow_pos' (n : Nat) : (0 : Int) < 2 ^ n := Int.pow_pos (by decide)
theorem pow_split (a b : Nat) : (2 : Int) ^ (a + b) = 2 ^ a * 2 ^ b := Int.pow_add 2 a b
theorem pow_half (b : Nat) (h : 1 ≤ b) : (2 : Int) ^ b = 2 * 2 ^ (b - 1) := by
  have e : b = 1 + (b - 1) := by omega
  rw [e, Int.pow_add]; simp
theorem pow64 (b : Nat) (h : b ≤ 64) : (2 : Int) ^ (64 - b) * 2 ^ b = 18446744073709551616 := by
  rw [← Int.pow_add, show 64 - b + b = 64 by omega]; rfl
theorem pow63 (b : Nat) (h : 1 ≤ b) (h' : b ≤ 64) : (2 : Int) ^ (64 - b) * 2 ^ (b - 1) = 9223372036854775808 := by
  rw [← Int.pow_add, show 64 - b + (b - 1) = 63 by omega]; rfl

/-- x's lowest b bits as a number with a sign. -/
def low (x : Int) (b : Nat) : Int := (x + 2 ^ (b - 1)) % 2 ^ b - 2 ^ (b - 1)
/-- the same as a word. -/
def sx (x : Int) (b : Nat) : Int := low x b % 18446744073709551616

theorem low_lo (x : Int) (b : Nat) : -(2 ^ (b - 1)) ≤ low x b := by
  have h := Int.emod_nonneg (x + 2 ^ (b - 1)) (Int.ne_of_gt (pow_pos' b))
  unfold low; omega
theorem low_hi (x : Int) (b : Nat) (h : 1 ≤ b) : low x b < 2 ^ (b - 1) := by
  have h1 := Int.emod_lt_of_pos (x + 2 ^ (b - 1)) (pow_pos' b)
  have h2 := pow_half b h
  unfold low; omega
theorem low_eq (x : Int) (b : Nat) : ∃ q, x = low x b + 2 ^ b * q := by
  refine ⟨(x + 2 ^ (b - 1)) / 2 ^ b, ?_⟩
  have h := Int.emod_add_mul_ediv (x + 2 ^ (b - 1)) (2 ^ b)
  unfold low; omega
theorem low_unique (x y q : Int) (b : Nat) (h : 1 ≤ b) (he : x = y + 2 ^ b * q) (h1 : -(2 ^ (b - 1)) ≤ y) (h2 : y < 2 ^ (b - 1)) : low x b = y := by
  have h3 := pow_half b h
  unfold low
  rw [he, show y + 2 ^ b * q + 2 ^ (b - 1) = (y + 2 ^ (b - 1)) + 2 ^ b * q by omega, Int.add_mul_emod_self_left, Int.emod_eq_of_lt (by omega) (by omega)]
  omega
theorem sx_bd (x : Int) (b : Nat) : 0 ≤ sx x b ∧ sx x b < 18446744073709551616 := by unfold sx; omega
theorem sx_eq (x : Int) (b : Nat) (h : b ≤ 64) : ∃ q, sx x b = low x b + 2 ^ b * q := by
  refine ⟨2 ^ (64 - b) * (-(low x b / 18446744073709551616)), ?_⟩
  have h1 := pow64 b h
  have h2 := Int.emod_add_mul_ediv (low x b) 18446744073709551616
  rw [← Int.mul_assoc, Int.mul_comm (2 ^ b), h1]
  unfold sx; omega
theorem low_mono (p q : Nat) (h : 1 ≤ p) (hpq : p ≤ q) : (2 : Int) ^ (p - 1) ≤ 2 ^ (q - 1) ∧ (2 : Int) ^ q = 2 ^ p * 2 ^ (q - p) := by
  constructor
  · have e : (2 : Int) ^ (q - 1) = 2 ^ (p - 1) * 2 ^ (q - p) := by rw [← Int.pow_add]; congr 1; omega
    have h1 := pow_pos' (p - 1)
    have h2 := pow_pos' (q - p)
    rw [e]
    have := Int.mul_le_mul_of_nonneg_left (show (1 : Int) ≤ 2 ^ (q - p) by omega) (Int.le_of_lt h1)
    omega
  · rw [← Int.pow_add]; congr 1; omega
theorem low_sx_up (x : Int) (p q : Nat) (hp : 1 ≤ p) (hpq : p ≤ q) (hq : q ≤ 64) : low (sx x p) q = low x p := by
  obtain ⟨h1, h2⟩ := low_mono p q hp hpq
  have hl := low_lo x p
  have hh := low_hi x p hp
  have h3 := pow64 q hq
  have h4 := Int.emod_add_mul_ediv (low x p) 18446744073709551616
  refine low_unique _ _ (2 ^ (64 - q) * (-(low x p / 18446744073709551616))) q (by omega) ?_ (by omega) (by omega)
  rw [← Int.mul_assoc, Int.mul_comm (2 ^ q), h3]
  unfold sx; omega
theorem low_sx_down (x : Int) (p q : Nat) (hq : 1 ≤ q) (hqp : q ≤ p) (hp : p ≤ 64) : low (sx x p) q = low x q := by
  obtain ⟨h1, h2⟩ := low_mono q p hq hqp
  obtain ⟨u, hu⟩ := low_eq x p
  obtain ⟨v, hv⟩ := sx_eq x p hp
  obtain ⟨t, ht⟩ := low_eq x q
  have hl := low_lo x q
  have hh := low_hi x q hq
  refine low_unique _ _ (t + 2 ^ (p - q) * (v - u)) q hq ?_ hl hh
  rw [Int.mul_add, ← Int.mul_assoc, ← h2, Int.mul_sub]
  omega
/-- Filled twice is filled by the fewest. -/
theorem sx_steps (x : Int) (p q : Nat) (hp : 1 ≤ p) (hq : 1 ≤ q) (hp' : p ≤ 64) (hq' : q ≤ 64) : sx (sx x p) q = sx x (min p q) := by
  rcases Nat.le_total p q with h | h
  · rw [Nat.min_eq_left h]; show low (sx x p) q % _ = low x p % _; rw [low_sx_up x p q hp h hq']
  · rw [Nat.min_eq_right h]; show low (sx x p) q % _ = low x q % _; rw [low_sx_down x p q hq h hp']

/-- To the left, and back with the sign. -/
theorem shifts (x : Int) (b : Nat) (h1 : 1 ≤ b) (h2 : b ≤ 64) : IntKind.u64.wrap (wrap64 (IntKind.u64.wrap (x * 2 ^ (64 - b))) / 2 ^ (64 - b)) = sx x b := by
  have hP := pow_pos' (64 - b)
  have h64 := pow64 b h2
  have h63 := pow63 b h1 h2
  obtain ⟨q, hq⟩ := low_eq x b
  have hl := low_lo x b
  have hh := low_hi x b h1
  have e1 : x * 2 ^ (64 - b) = low x b * 2 ^ (64 - b) + 18446744073709551616 * q := by
    rw [← h64, Int.mul_assoc, Int.mul_comm (2 ^ (64 - b)) (2 ^ b * q), ← Int.add_mul, ← hq]
  have a1 := Int.mul_le_mul_of_nonneg_right hl (Int.le_of_lt hP)
  have a2 := Int.mul_le_mul_of_nonneg_right (show low x b + 1 ≤ 2 ^ (b - 1) by omega) (Int.le_of_lt hP)
  rw [Int.neg_mul, Int.mul_comm (2 ^ (b - 1)), h63] at a1
  rw [Int.add_mul, Int.mul_comm (2 ^ (b - 1)), h63] at a2
  have e2 : wrap64 (IntKind.u64.wrap (x * 2 ^ (64 - b))) = low x b * 2 ^ (64 - b) := by
    rw [IntKind.wrap_u64, e1]; unfold wrap64
    generalize low x b * 2 ^ (64 - b) = t at *
    omega
  rw [e2, Int.mul_ediv_cancel _ (Int.ne_of_gt hP), IntKind.wrap_u64]
  rfl

/-! ### bits -/
theorem bit_shift (a t : Int) (n k : Nat) (h : k < n) : (a + 2 ^ n * t) / 2 ^ k % 2 = a / 2 ^ k % 2 := by
  have e : (2 : Int) ^ n * t = 2 ^ k * (2 * (2 ^ (n - k - 1) * t)) := by
    rw [show n = k + (1 + (n - k - 1)) by omega, Int.pow_add, Int.pow_add]
    rw [show k + (1 + (n - k - 1)) - k - 1 = n - k - 1 by omega]
    simp [Int.mul_assoc]
  rw [e, Int.add_mul_ediv_left _ _ (Int.ne_of_gt (pow_pos' k))]
  omega
theorem low_bit (x : Int) (b k : Nat) (h : k < b) : low x b / 2 ^ k % 2 = x / 2 ^ k % 2 := by
  obtain ⟨q, hq⟩ := low_eq x b
  have := bit_shift (low x b) q b k h
  rw [← hq] at this; exact this.symm
theorem sx_low_bit (x : Int) (b k : Nat) (hk : k < 64) : sx x b / 2 ^ k % 2 = low x b / 2 ^ k % 2 := by
  have h := bit_shift (sx x b) (low x b / 18446744073709551616) 64 k hk
  rw [← h]
  have h2 := Int.emod_add_mul_ediv (low x b) 18446744073709551616
  have e : sx x b + 2 ^ 64 * (low x b / 18446744073709551616) = low x b := by
    unfold sx; rw [show (2 : Int) ^ 64 = 18446744073709551616 from rfl]; omega
  rw [e]
theorem low_top (x : Int) (b k : Nat) (h : 1 ≤ b) (hk : b - 1 ≤ k) : low x b / 2 ^ k % 2 = low x b / 2 ^ (b - 1) % 2 := by
  have hl := low_lo x b
  have hh := low_hi x b h
  have hm := (low_mono b (k + 1) h (by omega)).1
  rw [show k + 1 - 1 = k by omega] at hm
  have hp := pow_pos' k
  have hp1 := pow_pos' (b - 1)
  by_cases hs : 0 ≤ low x b
  · rw [Int.ediv_eq_zero_of_lt hs (by omega), Int.ediv_eq_zero_of_lt hs (by omega)]
  · have e : ∀ d : Int, 0 < d → -d ≤ low x b → low x b / d = -1 := by
      intro d hd h0
      have e0 : low x b = (low x b + d) + d * (-1) := by omega
      rw [e0, Int.add_mul_ediv_left _ _ (Int.ne_of_gt hd), Int.ediv_eq_zero_of_lt (by omega) (by omega)]; rfl
    rw [e _ hp (by omega), e _ hp1 (by omega)]
/-- A filled word's bits. -/
theorem sx_bit (x : Int) (b k : Nat) (h : 1 ≤ b) (hk : k < 64) : sx x b / 2 ^ k % 2 = x / 2 ^ (min k (b - 1)) % 2 := by
  rw [sx_low_bit x b k hk]
  by_cases hkb : k < b
  · rw [low_bit x b k hkb, Nat.min_eq_left (by omega)]
  · rw [low_top x b k h (by omega), low_bit x b (b - 1) (by omega), Nat.min_eq_right (by omega)]
/-- One bit more. -/
theorem or_bit (S : Int) (k : Nat) (hk : k < 64) :
    bits .or .u64 (S % 2 ^ k) (IntKind.u64.wrap (S / 2 ^ k % 2 * 2 ^ k)) = S % 2 ^ (k + 1) := by
  have hp := pow_pos' k
  have h0 := Int.emod_nonneg S (Int.ne_of_gt hp)
  have h1 := Int.emod_lt_of_pos S hp
  have hb : S / 2 ^ k % 2 = 0 ∨ S / 2 ^ k % 2 = 1 := by omega
  have hle : (2 : Int) ^ k ≤ 9223372036854775808 := by
    have := (low_mono (k + 1) 64 (by omega) (by omega)).1
    simpa using this
  have eS : S % 2 ^ (k + 1) = S % 2 ^ k + S / 2 ^ k % 2 * 2 ^ k := by
    have e1 := Int.emod_add_mul_ediv S (2 ^ k)
    have e2 := Int.emod_add_mul_ediv (S / 2 ^ k) 2
    have e3 : S = (S % 2 ^ k + S / 2 ^ k % 2 * 2 ^ k) + 2 ^ (k + 1) * (S / 2 ^ k / 2) := by
      have : (2 : Int) ^ (k + 1) = 2 ^ k * 2 := Int.pow_succ 2 k
      rw [this, Int.mul_assoc, Int.add_assoc, Int.mul_comm (S / 2 ^ k % 2), ← Int.mul_add, e2, e1]
    have hp2 : (2 : Int) ^ (k + 1) = 2 * 2 ^ k := by rw [Int.pow_succ, Int.mul_comm]
    have hlt : S % 2 ^ k + S / 2 ^ k % 2 * 2 ^ k < 2 ^ (k + 1) := by
      rcases hb with hb | hb <;> rw [hb, hp2] <;> omega
    have hge : 0 ≤ S % 2 ^ k + S / 2 ^ k % 2 * 2 ^ k := by rcases hb with hb | hb <;> rw [hb] <;> omega
    generalize hT : S % 2 ^ k + S / 2 ^ k % 2 * 2 ^ k = T at *
    rw [e3, Int.add_mul_emod_self_left, Int.emod_eq_of_lt hge hlt]
  rw [eS, IntKind.wrap_u64]
  obtain ⟨A, hA⟩ := Int.eq_ofNat_of_zero_le h0
  rcases hb with hb | hb
  · rw [hb]; simp only [Int.zero_mul, Int.add_zero]
    rw [hA]
    have := u64_or_nat A 0 (by omega) (by decide)
    simpa using this
  · rw [hb, Int.one_mul, Int.emod_eq_of_lt (Int.le_of_lt hp) (by omega), hA]
    have e2 : (2 : Int) ^ k = ((2 ^ k : Nat) : Int) := by simp
    rw [e2, u64_or_nat A (2 ^ k) (by omega) (by omega), Nat.or_comm, nat_join k (2 ^ k) A (Nat.mod_self _) (by omega), Nat.add_comm, Int.natCast_add]
end Go.Proofs.YtbngjbmfkekdnaaGreatDoor

namespace Go.Proofs.YtbngjbmfkekdnaaGreatDoor
open Go.RowKit
theorem count_any (n : Int) (w : World) : Calls Tryz.prog 64 #[.int .i64 n] w fun e w' => e = .returned (.bool (decide (1 ≤ n ∧ n ≤ 8))) ∧ w = w' := by
  by_cases h : 1 ≤ n
  · have e : decide (1 ≤ n ∧ n ≤ 8) = decide (n ≤ 8) := by simp [h]
    rw [e]; clear e
    go_enter Tryz.func64, Tryz.ntmps64
    go_wp2
    go_ret
    exact ⟨rfl, rfl⟩
  · have e : decide (1 ≤ n ∧ n ≤ 8) = false := by simp [h]
    rw [e]; clear e
    go_enter Tryz.func64, Tryz.ntmps64
    go_wp2
    go_ret
    exact ⟨rfl, rfl⟩

/-- The number that the first k bytes are, the lowest first. -/
def getS (xs : List Int) : Nat → Int
  | 0 => 0
  | k + 1 => getS xs k + xs.getD k 0 * 2 ^ (8 * k)
theorem getS_bd (xs : List Int) (hb : ∀ k, 0 ≤ xs.getD k 0 ∧ xs.getD k 0 ≤ 255) (k : Nat) : 0 ≤ getS xs k ∧ getS xs k < 2 ^ (8 * k) := by
  induction k with
  | zero => simp [getS]
  | succ k ih =>
    have hp := pow_pos' (8 * k)
    have hx := hb k
    have e : (2 : Int) ^ (8 * (k + 1)) = 256 * 2 ^ (8 * k) := by rw [show 8 * (k + 1) = 8 + 8 * k by omega, Int.pow_add]; rfl
    have h1 := Int.mul_nonneg hx.1 (Int.le_of_lt hp)
    have h2 := Int.mul_le_mul_of_nonneg_right hx.2 (Int.le_of_lt hp)
    unfold getS
    rw [e]
    omega
theorem pow_le56 (k : Nat) (h : k ≤ 56) : (2 : Int) ^ k ≤ 72057594037927936 := by
  have := (low_mono (k + 1) 57 (by omega) (by omega)).1
  simpa using this
theorem byte_up (x : Int) (k : Nat) (hk : k < 8) (hx : 0 ≤ x ∧ x ≤ 255) : IntKind.u64.wrap (x * 2 ^ (8 * k)) = x * 2 ^ (8 * k) := by
  have hp := pow_pos' (8 * k)
  have hq := pow_le56 (8 * k) (by omega)
  have h1 := Int.mul_nonneg hx.1 (Int.le_of_lt hp)
  have h2 := Int.mul_le_mul_of_nonneg_right hx.2 (Int.le_of_lt hp)
  exact IntWalk.u64_in _ (by omega)
/-- One byte more, by or. -/
theorem or_byte (xs : List Int) (hb : ∀ k, 0 ≤ xs.getD k 0 ∧ xs.getD k 0 ≤ 255) (k : Nat) (hk : k < 8) :
    bits .or .u64 (getS xs k) (IntKind.u64.wrap (xs.getD k 0 * 2 ^ (8 * k))) = getS xs (k + 1) := by
  obtain ⟨h0, h1⟩ := getS_bd xs hb k
  have hx := hb k
  rw [byte_up _ k hk hx]
  show _ = getS xs k + xs.getD k 0 * 2 ^ (8 * k)
  have hp := pow_pos' (8 * k)
  have hq := pow_le56 (8 * k) (by omega)
  have h3 := Int.mul_nonneg hx.1 (Int.le_of_lt hp)
  have h4 := Int.mul_le_mul_of_nonneg_right hx.2 (Int.le_of_lt hp)
  generalize getS xs k = g at *
  generalize xs.getD k 0 = x at *
  obtain ⟨G, rfl⟩ := Int.eq_ofNat_of_zero_le h0
  obtain ⟨X, rfl⟩ := Int.eq_ofNat_of_zero_le hx.1
  have e2 : (2 : Int) ^ (8 * k) = ((2 ^ (8 * k) : Nat) : Int) := by simp
  rw [e2, ← Int.natCast_mul] at h3 h4 ⊢
  rw [e2] at h1 hq
  rw [u64_or_nat G (X * 2 ^ (8 * k)) (by omega) (by omega), Nat.or_comm, nat_join (8 * k) (X * 2 ^ (8 * k)) G (Nat.mul_mod_left _ _) (by omega), Nat.add_comm, Int.natCast_add]

set_option maxHeartbeats 1000000 in
theorem get_in (A : Option Addr) (len cap : Nat) (xs : List Int) (n : Nat) (w : World) (hr : Rd w A xs) (hl : xs.length = len) (hm : len ≤ 100000) (h1 : 1 ≤ n) (h8 : n ≤ 8)
   (hb : ∀ k, 0 ≤ xs.getD k 0 ∧ xs.getD k 0 ≤ 255) :
    Calls Tryz.prog 117 #[.slice A len cap, .int .i64 n] w fun e w' => e = .returned (.int .u64 (getS xs (min n len))) ∧ w = w' := by
  have HR := Lib.hid hr; clear hr
  have HL := Lib.hid hl; clear hl
  have HB := Lib.hid hb; clear hb
  have e1 : decide (1 ≤ (n : Int) ∧ (n : Int) ≤ 8) = true := by simp; omega
  have E1 := Lib.hid e1; clear e1
  by_cases hc : len < n
  · rw [Nat.min_eq_right (by omega)]
    go_enter Tryz.func117, Tryz.ntmps117
    go_wp2_with fail
    refine (count_any _ _).mono ?_
    rintro e w' ⟨rfl, rfl⟩
    rw [E1.out]
    go_wp2
    go_loop [5, 14] (fun x i => ∃ k : Nat, k ≤ len ∧ i = .int .i64 k ∧ x = .int .u64 (getS xs k)) (fun _ i => len - (intOf i).toNat)
    case atStart => exact ⟨0, by omega, rfl, rfl⟩
    case round =>
      obtain ⟨k, hk, rfl, rfl⟩ := hrel
      by_cases hlt : k < len
      · obtain ⟨b, off, hA, hcell⟩ := HR.out.at_ k (by rw [HL.out]; omega)
        subst hA
        have hx := HB.out k
        have ho := Lib.hid (or_byte xs HB.out k (by omega))
        generalize xs.getD k 0 = x at *
        have hin : (k : Int) < (len : Int) := by omega
        go_wp2
        go_round
        case rel => exact ⟨k + 1, by omega, by go_num, by rw [← ho.out]⟩
        case measure => simp [intOf]; omega
      · obtain rfl : k = len := by omega
        go_wp2
        go_ret
        exact ⟨rfl, rfl⟩
  · rw [Nat.min_eq_left (by omega)]
    go_enter Tryz.func117, Tryz.ntmps117
    go_wp2_with fail
    refine (count_any _ _).mono ?_
    rintro e w' ⟨rfl, rfl⟩
    rw [E1.out]
    go_wp2
    go_loop [5, 14] (fun x i => ∃ k : Nat, k ≤ n ∧ i = .int .i64 k ∧ x = .int .u64 (getS xs k)) (fun _ i => n - (intOf i).toNat)
    case atStart => exact ⟨0, by omega, rfl, rfl⟩
    case round =>
      obtain ⟨k, hk, rfl, rfl⟩ := hrel
      by_cases hlt : k < n
      · obtain ⟨b, off, hA, hcell⟩ := HR.out.at_ k (by rw [HL.out]; omega)
        subst hA
        have hx := HB.out k
        have ho := Lib.hid (or_byte xs HB.out k (by omega))
        generalize xs.getD k 0 = x at *
        have hin : (k : Int) < (len : Int) := by omega
        go_wp2
        go_round
        case rel => exact ⟨k + 1, by omega, by go_num, by rw [← ho.out]⟩
        case measure => simp [intOf]; omega
      · obtain rfl : k = n := by omega
        go_wp2
        go_ret
        exact ⟨rfl, rfl⟩

set_option maxHeartbeats 1000000 in
theorem get_out (A : Option Addr) (len cap : Nat) (n : Int) (w : World) (h : ¬ (1 ≤ n ∧ n ≤ 8)) :
    Calls Tryz.prog 117 #[.slice A len cap, .int .i64 n] w fun e w' => e = .returned (.int .u64 0) ∧ w = w' := by
  have e1 : decide (1 ≤ n ∧ n ≤ 8) = false := by simp only [decide_eq_false_iff_not]; exact h
  have E1 := Lib.hid e1; clear e1
  go_enter Tryz.func117, Tryz.ntmps117
  go_wp2_with fail
  refine (count_any _ _).mono ?_
  rintro e w' ⟨rfl, rfl⟩
  rw [E1.out]
  go_wp2
  go_ret
  exact ⟨rfl, rfl⟩

theorem add_byte (xs : List Int) (hb : ∀ k, 0 ≤ xs.getD k 0 ∧ xs.getD k 0 ≤ 255) (k : Nat) (hk : k < 8) :
    IntKind.u64.wrap (getS xs k + IntKind.u64.wrap (xs.getD k 0 * 2 ^ (8 * k))) = getS xs (k + 1) := by
  rw [byte_up _ k hk (hb k)]
  have h := getS_bd xs hb (k + 1)
  have hp : (2 : Int) ^ (8 * (k + 1)) ≤ 18446744073709551616 := by
    have := (low_mono (8 * (k + 1) + 1) 65 (by omega) (by omega)).1
    simpa using this
  exact IntWalk.u64_in _ (by show 0 ≤ getS xs (k + 1) ∧ getS xs (k + 1) ≤ _; omega)

set_option maxHeartbeats 1000000 in
theorem refGet_in (A : Option Addr) (len cap : Nat) (xs : List Int) (n : Nat) (w : World) (hr : Rd w A xs) (hl : xs.length = len) (hm : len ≤ 100000) (h1 : 1 ≤ n) (h8 : n ≤ 8)
   (hb : ∀ k, 0 ≤ xs.getD k 0 ∧ xs.getD k 0 ≤ 255) :
    Calls Tryz.prog 83 #[.slice A len cap, .int .i64 n] w fun e w' => e = .returned (.int .u64 (getS xs (min n len))) ∧ w = w' := by
  have HR := Lib.hid hr; clear hr
  have HL := Lib.hid hl; clear hl
  have HB := Lib.hid hb; clear hb
  obtain ⟨M, hMe⟩ : ∃ M, M = min n len := ⟨_, rfl⟩
  rw [← hMe]
  have hM1 : M ≤ n := by omega
  have hM2 : M ≤ len := by omega
  have hM3 : M = n ∨ M = len := by omega
  have HM := Lib.hid hM3; clear hM3 hMe
  go_enter Tryz.func83, Tryz.ntmps83
  go_wp2
  go_loop [5, 6] (fun x i => ∃ k : Nat, k ≤ M ∧ i = .int .i64 k ∧ x = .int .u64 (getS xs k)) (fun _ i => M - (intOf i).toNat)
  case atStart => exact ⟨0, by omega, rfl, rfl⟩
  case round =>
    obtain ⟨k, hk, rfl, rfl⟩ := hrel
    by_cases hlt : k < M
    · obtain ⟨b, off, hA, hcell⟩ := HR.out.at_ k (by rw [HL.out]; omega)
      subst hA
      have hx := HB.out k
      have ho := Lib.hid (add_byte xs HB.out k (by omega))
      generalize xs.getD k 0 = x at *
      have hin : (k : Int) < (len : Int) := by omega
      have hin2 : (k : Int) < (n : Int) := by omega
      go_wp2
      go_round
      case rel => exact ⟨k + 1, by omega, by go_num, by rw [← ho.out]⟩
      case measure => simp [intOf]; omega
    · obtain rfl : k = M := by omega
      by_cases hkn : k < n
      · have hkl : k = len := by have := HM.out; omega
        have hin : ¬ (k : Int) < (len : Int) := by omega
        clear hkl
        go_wp2
        go_ret
        exact ⟨rfl, rfl⟩
      · go_wp2
        go_ret
        exact ⟨rfl, rfl⟩
set_option maxHeartbeats 1000000 in
theorem refGet_out (A : Option Addr) (len cap : Nat) (n : Int) (w : World) (h : ¬ (1 ≤ n ∧ n ≤ 8)) :
    Calls Tryz.prog 83 #[.slice A len cap, .int .i64 n] w fun e w' => e = .returned (.int .u64 0) ∧ w = w' := by
  by_cases h1 : n < 1
  · go_enter Tryz.func83, Tryz.ntmps83
    go_wp2
    go_ret
    exact ⟨rfl, rfl⟩
  · have h2 : 8 < n := by omega
    clear h
    go_enter Tryz.func83, Tryz.ntmps83
    go_wp2
    go_ret
    exact ⟨rfl, rfl⟩

end Go.Proofs.YtbngjbmfkekdnaaGreatDoor

namespace Go.Proofs.YtbngjbmfkekdnaaGreatDoor
open Go.RowKit
set_option maxRecDepth 100000
/-- A word's lowest k bytes, the lowest first. -/
def putB (x : Int) (k : Nat) : List Int := (List.range k).map fun i => x / 2 ^ (8 * i) % 256
theorem putB_length (x : Int) (k : Nat) : (putB x k).length = k := by simp [putB]
theorem putB_succ (x : Int) (k : Nat) : putB x (k + 1) = putB x k ++ [x / 2 ^ (8 * k) % 256] := by simp [putB, List.range_succ]
theorem own_empty (w : World) : (w.alloc (.cells #[] 5)).ownsRow w.heap.size 5 1 (.slice (some ⟨w.heap.size, 0, none⟩) 0 0) 0 (asBytes []) :=
  World.ownsRow_lit w #[] 0 (Nat.le_refl _) (by simp [maxLen]) (by simp)
theorem Rd.alloc {w : World} {A : Option Addr} {xs : List Int} (h : Rd w A xs) (o : Obj) : Rd (w.alloc o) A xs := h.below ((Below.refl _ _).alloc (Nat.le_refl _) o)
/-- What the call owns lies behind what was there. -/
theorem own_block_ge {w : World} {base e n : Nat} {v : Value} {xs : List Value} (h : w.ownsRow base e 1 v n xs) : ∀ k, v.ownBlock = some k → base ≤ k := fun k hk => (h.lt k hk).1
/-- One byte behind it. -/
theorem one_cell (w : World) (y : Int) : Rd (w.alloc (.cells #[.int .u8 y] 5)) (some ⟨w.heap.size, 0, none⟩) [y] := by
  intro _
  refine ⟨_, rfl, fun i hi => ?_⟩
  obtain rfl : i = 0 := by simpa using hi
  simp [Addr.add]

set_option maxHeartbeats 1000000 in
theorem refPut_in (A : Option Addr) (len cap : Nat) (xs : List Int) (x : Int) (n : Nat) (w : World) (hr : Rd w A xs) (hl : xs.length = len) (hc : A = none → cap = 0) (hm : len ≤ 5100) (h1 : 1 ≤ n) (h8 : n ≤ 8) :
    Calls Tryz.prog 38 #[.slice A len cap, .int .u64 x, .int .i64 n] w fun e w' => ∃ B c, e = .returned (.slice B (len + n) c) ∧ Rd w' B (xs ++ putB x n) ∧ Below w.heap.size w w' := by
  obtain ⟨i0, hi0, hz0, hz1, hz2⟩ := info_parts infoByte
  have HR := Lib.hid hr; clear hr
  have HL := Lib.hid hl; clear hl
  have HC := Lib.hid hc; clear hc
  have J0 := Lib.hid hi0; clear hi0
  have J1 := Lib.hid hz0; clear hz0
  have J2 := Lib.hid hz1; clear hz1
  have J3 := Lib.hid hz2; clear hz2
  go_enter Tryz.func38, Tryz.ntmps38
  go_wp2_with (at_builtin; refine wpl_append rfl (.tmp 9) (.tmp 10) 22 rfl w.heap.size 5 i0 Tryz.underlying22 J0.out J1.out J2.out J3.out _ 0 [] rfl (own_empty w) A len cap xs rfl (HR.out.alloc _) HL.out HC.out (by omega) (by simp) ?_; intro v1 w1 hown1 hg1; have HO1 := Lib.hid hown1; clear hown1)
  have hbel : Below w.heap.size w w1 := ((Below.refl _ _).alloc (Nat.le_refl _) _).grown hg1 (by simp) (own_block_ge (own_empty w))
  clear hg1
  go_loopw [7, 8] (fun v i wr => ∃ k : Nat, k ≤ n ∧ i = .int .i64 k ∧ wr.ownsRow w.heap.size 5 1 v (len + k) (asBytes (xs ++ putB x k)) ∧ Below w.heap.size w wr) (fun _ i _ => n - (intOf i).toNat)
  case atStart => exact ⟨0, by omega, rfl, by simpa [putB] using HO1.out, hbel⟩
  case round =>
    obtain ⟨k, hk, rfl, hown, hbr⟩ := hrel
    clear hbel HO1
    have HO := Lib.hid hown; clear hown
    by_cases hlt : k < n
    · go_wp2_with (at_builtin; refine wpl_append rfl (.tmp 24) (.tmp 31) 22 rfl w.heap.size 5 i0 Tryz.underlying22 J0.out J1.out J2.out J3.out _ (len + k) (xs ++ putB x k) rfl (HO.out.alloc _) (some ⟨wr.heap.size, 0, none⟩) 1 1 [x / 2 ^ (8 * k) % 256] rfl (one_cell wr _) rfl (fun h => by cases h) (by omega) (by have := hbr.size; simp; omega) ?_; intro v2 w2 hown2 hg2)
      have hsz := hbr.size
      have hb2 : Below w.heap.size w w2 := (hbr.alloc hsz _).grown hg2 (by simp; omega) (own_block_ge HO.out)
      go_roundw
      case rel => exact ⟨k + 1, by omega, by go_num, by rw [putB_succ, ← List.append_assoc]; exact hown2, hb2⟩
      case measure => simp [intOf]; omega
    · obtain rfl : k = n := by omega
      go_wp2
      go_ret
      obtain ⟨B, c, rfl, hrd, _, _⟩ := Rd.of_own HO.out
      exact ⟨B, c, rfl, hrd, hbr⟩

set_option maxHeartbeats 1000000 in
theorem refPut_out (A : Option Addr) (len cap : Nat) (xs : List Int) (x n : Int) (w : World) (hr : Rd w A xs) (hl : xs.length = len) (hc : A = none → cap = 0) (hm : len ≤ 5100) (hn : ¬ (1 ≤ n ∧ n ≤ 8)) :
    Calls Tryz.prog 38 #[.slice A len cap, .int .u64 x, .int .i64 n] w fun e w' => ∃ B c, e = .returned (.slice B len c) ∧ Rd w' B xs ∧ Below w.heap.size w w' := by
  obtain ⟨i0, hi0, hz0, hz1, hz2⟩ := info_parts infoByte
  have HR := Lib.hid hr; clear hr
  have HL := Lib.hid hl; clear hl
  have HC := Lib.hid hc; clear hc
  have J0 := Lib.hid hi0; clear hi0
  have J1 := Lib.hid hz0; clear hz0
  have J2 := Lib.hid hz1; clear hz1
  have J3 := Lib.hid hz2; clear hz2
  have hn2 : n < 1 ∨ 8 < n := by omega
  clear hn
  rcases hn2 with hn | hn
  all_goals
    go_enter Tryz.func38, Tryz.ntmps38
    go_wp2_with (at_builtin; refine wpl_append rfl (.tmp 9) (.tmp 10) 22 rfl w.heap.size 5 i0 Tryz.underlying22 J0.out J1.out J2.out J3.out _ 0 [] rfl (own_empty w) A len cap xs rfl (HR.out.alloc _) HL.out HC.out (by omega) (by simp) ?_; intro v1 w1 hown1 hg1; have HO1 := Lib.hid hown1; clear hown1)
    have hbel : Below w.heap.size w w1 := ((Below.refl _ _).alloc (Nat.le_refl _) _).grown hg1 (by simp) (own_block_ge (own_empty w))
    clear hg1
    go_ret
    obtain ⟨B, c, rfl, hrd, _, _⟩ := Rd.of_own HO1.out
    exact ⟨B, c, by simp, hrd, hbel⟩

/-- made, with spare room. -/
theorem run_made (len c : Nat) (i : TypeInfo) (hi : Tryz.prog.info? 5 = some i) (hz : i.zero = some (.int .u8 0)) (hs : i.size = 1) (hb : i.bytes = 1) (hlc : len ≤ c) (hc : c ≤ 1000000) (w : World) :
    (Instr.makeSlice 22 (.int .i64 (len : Int)) (.int .i64 (c : Int))).run Tryz.prog w = .ok (.slice (some ⟨w.heap.size, 0, none⟩) len c) (w.alloc (.cells (madeCells #[.int .u8 0] c) 5)) := by
  have h := run_make (P := Tryz.prog) w 22 5 i (.int .u8 0) Tryz.underlying22 hi hz .i64 .i64 len c (by omega) (by omega) (by rw [hb]; omega) (by omega)
  simpa [hs, Value.cells] using h
set_option maxHeartbeats 1000000 in
theorem put_in (A : Option Addr) (len cap : Nat) (xs : List Int) (x : Int) (n : Nat) (w : World) (hr : Rd w A xs) (hl : xs.length = len) (hm : len ≤ 5100) (h1 : 1 ≤ n) (h8 : n ≤ 8) :
    Calls Tryz.prog 36 #[.slice A len cap, .int .u64 x, .int .i64 n] w fun e w' => ∃ B c, e = .returned (.slice B (len + n) c) ∧ Rd w' B (xs ++ putB x n) ∧ Below w.heap.size w w' ∧ len + n ≤ c ∧ ∀ ad, B = some ad → w.heap.size ≤ ad.block := by
  obtain ⟨i0, hi0, hz0, hz1, hz2⟩ := info_parts infoByte
  have hmk := fun W => run_made len (len + n) i0 hi0 hz0 hz1 hz2 (by omega) (by omega) W
  have HR := Lib.hid hr; clear hr
  have HL := Lib.hid hl; clear hl
  have J0 := Lib.hid hi0; clear hi0
  have J1 := Lib.hid hz0; clear hz0
  have J2 := Lib.hid hz1; clear hz1
  have J3 := Lib.hid hz2; clear hz2
  have e1 : decide (1 ≤ (n : Int) ∧ (n : Int) ≤ 8) = true := by simp; omega
  have E1 := Lib.hid e1; clear e1
  have ec : ((len + n : Nat) : Int) = (len : Int) + (n : Int) := by omega
  rw [ec] at hmk; clear ec
  obtain ⟨w2, hcp, hown, hgr⟩ := run_copied (P := Tryz.prog) (w.alloc (.cells (madeCells #[.int .u8 0] (len + n)) 5)) 22 5 3 Tryz.underlying22 sizeByte w.heap.size w.heap.size len (len + n) _ (heap_alloc_new w _) (size_madeCells _ _) (by omega) (by simp only [maxLen]; omega) (Nat.le_refl _) A cap xs (HR.out.alloc _) HL.out
  have hbel : Below w.heap.size w w2 := ((Below.refl _ _).alloc (Nat.le_refl _) _).grown hgr (by simp) (fun k hk => by injection hk with hk; omega)
  clear hgr
  have HO1 := Lib.hid hown; clear hown
  have HBL := Lib.hid hbel; clear hbel
  go_enter Tryz.func36, Tryz.ntmps36
  go_wp2_with fail
  refine (count_any _ _).mono ?_
  rintro e w' ⟨rfl, rfl⟩
  rw [E1.out]
  go_wp2_with fail
  clear hcp hmk
  go_loopw [7, 23] (fun v i wr => ∃ k : Nat, k ≤ n ∧ i = .int .i64 k ∧ wr.ownsRow w.heap.size 5 1 v (len + k) (asBytes (xs ++ putB x k)) ∧ Below w.heap.size w wr) (fun _ i _ => n - (intOf i).toNat)
  case atStart => exact ⟨0, by omega, rfl, by simpa [putB] using HO1.out, HBL.out⟩
  case round =>
    obtain ⟨k, hk, rfl, hown, hbr⟩ := hrel
    clear HBL HO1
    have HO := Lib.hid hown; clear hown
    by_cases hlt : k < n
    · go_wp2_with (at_builtin; refine wpl_append rfl (.tmp 26) (.tmp 32) 22 rfl w.heap.size 5 i0 Tryz.underlying22 J0.out J1.out J2.out J3.out _ (len + k) (xs ++ putB x k) rfl (HO.out.alloc _) (some ⟨wr.heap.size, 0, none⟩) 1 1 [x / 2 ^ (8 * k) % 256] rfl (one_cell wr _) rfl (fun h => by cases h) (by omega) (by have := hbr.size; simp; omega) ?_; intro v2 w3 hown2 hg2)
      have hsz := hbr.size
      have hb2 : Below w.heap.size w w3 := (hbr.alloc hsz _).grown hg2 (by simp; omega) (own_block_ge HO.out)
      go_roundw
      case rel => exact ⟨k + 1, by omega, by go_num, by rw [putB_succ, ← List.append_assoc]; exact hown2, hb2⟩
      case measure => simp [intOf]; omega
    · obtain rfl : k = n := by omega
      go_wp2
      go_ret
      obtain ⟨B, c, rfl, hrd, _, _, hcc⟩ := Rd.of_own HO.out
      exact ⟨B, c, rfl, hrd, hbr, hcc, fun ad hB => own_block_ge HO.out ad.block (by rw [hB]; rfl)⟩

set_option maxHeartbeats 1000000 in
theorem put_out (A : Option Addr) (len cap : Nat) (xs : List Int) (x n : Int) (w : World) (hr : Rd w A xs) (hl : xs.length = len) (hm : len ≤ 5100) (hn : ¬ (1 ≤ n ∧ n ≤ 8)) :
    Calls Tryz.prog 36 #[.slice A len cap, .int .u64 x, .int .i64 n] w fun e w' => ∃ B c, e = .returned (.slice B len c) ∧ Rd w' B xs ∧ Below w.heap.size w w' := by
  obtain ⟨i0, hi0, hz0, hz1, hz2⟩ := info_parts infoByte
  have hmk := fun W => run_made len len i0 hi0 hz0 hz1 hz2 (by omega) (by omega) W
  have HR := Lib.hid hr; clear hr
  have HL := Lib.hid hl; clear hl
  clear hi0 hz0 hz1 hz2
  have e1 : decide (1 ≤ n ∧ n ≤ 8) = false := by simp only [decide_eq_false_iff_not]; exact hn
  have E1 := Lib.hid e1; clear e1 hn
  obtain ⟨w2, hcp, hown, hgr⟩ := run_copied (P := Tryz.prog) (w.alloc (.cells (madeCells #[.int .u8 0] len) 5)) 22 5 3 Tryz.underlying22 sizeByte w.heap.size w.heap.size len len _ (heap_alloc_new w _) (size_madeCells _ _) (by omega) (by simp only [maxLen]; omega) (Nat.le_refl _) A cap xs (HR.out.alloc _) HL.out
  have hbel : Below w.heap.size w w2 := ((Below.refl _ _).alloc (Nat.le_refl _) _).grown hgr (by simp) (fun k hk => by injection hk with hk; omega)
  clear hgr
  have HO1 := Lib.hid hown; clear hown
  have HBL := Lib.hid hbel; clear hbel
  go_enter Tryz.func36, Tryz.ntmps36
  go_wp2_with fail
  refine (count_any _ _).mono ?_
  rintro e w' ⟨rfl, rfl⟩
  rw [E1.out]
  go_wp2_with fail
  clear hcp hmk
  refine wp_loop_rounds 1 ?_
  rw [rounds_succ]
  go_wp2
  go_ret
  obtain ⟨B, c, hv, hrd, _, _⟩ := Rd.of_own HO1.out
  injection hv with h1 h2 h3
  subst h1 h3
  exact ⟨_, _, rfl, hrd, HBL.out⟩

/-- A new copy of a slice: what 'append' to an empty slice makes. -/
theorem clone_run (W : World) (A : Option Addr) (len cap : Nat) (xs : List Int) (hr : Rd W A xs) (hl : xs.length = len) (hc : A = none → cap = 0) (hm : len ≤ 5100) :
    ∃ B c w1, (Builtin.append_ #[22, 22] 22 #[.slice (some ⟨W.heap.size, 0, none⟩) 0 0, .slice A len cap]).run Tryz.prog (W.alloc (.cells #[] 5)) = .ok (.slice B len c) w1 ∧ Rd w1 B xs ∧ Below W.heap.size W w1 := by
  obtain ⟨i0, hi0, hz0, hz1, hz2⟩ := info_parts infoByte
  obtain ⟨v', w', h1, h2, h3⟩ := run_appended (P := Tryz.prog) (W.alloc (.cells #[] 5)) 22 5 22 W.heap.size i0 Tryz.underlying22 hi0 hz0 hz1 hz2 _ 0 [] (own_empty W) A len cap xs (hr.alloc _) hl hc (by omega) (by simp)
  obtain ⟨B, c, rfl, hrd, _, _⟩ := Rd.of_own h2
  refine ⟨B, c, w', by simpa using h1, by simpa using hrd, ((Below.refl _ _).alloc (Nat.le_refl _) _).grown h3 (by simp) (own_block_ge (own_empty W))⟩

theorem putB_get (x : Int) (n k : Nat) (h : k < n) : (putB x n).getD k 0 = x / 2 ^ (8 * k) % 256 := by
  simp [putB, List.getElem?_range h]
theorem putB_bd (x : Int) (n k : Nat) : 0 ≤ (putB x n).getD k 0 ∧ (putB x n).getD k 0 ≤ 255 := by
  by_cases h : k < n
  · rw [putB_get x n k h]; omega
  · rw [List.getD_eq_getElem?_getD, List.getElem?_eq_none (by rw [putB_length]; omega)]; simp
theorem getS_putB (x : Int) (n k : Nat) (h : k ≤ n) : getS (putB x n) k = x % 2 ^ (8 * k) := by
  induction k with
  | zero => simp [getS, Int.emod_one]
  | succ k ih =>
    unfold getS
    rw [ih (by omega), putB_get x n k (by omega)]
    have e : (2 : Int) ^ (8 * (k + 1)) = 2 ^ (8 * k) * 256 := by rw [show 8 * (k + 1) = 8 * k + 8 by omega, Int.pow_add]; rfl
    have hp := pow_pos' (8 * k)
    have e1 := Int.emod_add_mul_ediv x (2 ^ (8 * k))
    have e2 := Int.emod_add_mul_ediv (x / 2 ^ (8 * k)) 256
    have r0 := Int.emod_nonneg x (Int.ne_of_gt hp)
    have r1 := Int.emod_lt_of_pos x hp
    have q0 : 0 ≤ x / 2 ^ (8 * k) % 256 ∧ x / 2 ^ (8 * k) % 256 ≤ 255 := by omega
    have m0 := Int.mul_nonneg q0.1 (Int.le_of_lt hp)
    have m1 := Int.mul_le_mul_of_nonneg_right q0.2 (Int.le_of_lt hp)
    have hx : x = (x % 2 ^ (8 * k) + x / 2 ^ (8 * k) % 256 * 2 ^ (8 * k)) + 2 ^ (8 * k) * 256 * (x / 2 ^ (8 * k) / 256) := by
      rw [Int.mul_assoc, Int.add_assoc, Int.mul_comm (x / 2 ^ (8 * k) % 256), ← Int.mul_add, e2, e1]
    rw [e]
    generalize hT : x % 2 ^ (8 * k) + x / 2 ^ (8 * k) % 256 * 2 ^ (8 * k) = T at *
    rw [hx, Int.add_mul_emod_self_left, Int.emod_eq_of_lt (by omega) (by omega)]
/-- To the left and back leaves the lowest bits. -/
theorem shl_shr (x : Int) (s : Nat) (h : s ≤ 64) : IntKind.u64.wrap (x * 2 ^ s) / 2 ^ s = x % 2 ^ (64 - s) := by
  have e := pow64 (64 - s) (by omega)
  rw [show 64 - (64 - s) = s by omega] at e
  rw [IntKind.wrap_u64, ← e, Int.mul_comm x, Int.mul_emod_mul_of_pos _ _ (pow_pos' s), Int.mul_ediv_cancel_left _ (Int.ne_of_gt (pow_pos' s))]
end Go.Proofs.YtbngjbmfkekdnaaGreatDoor

set_option linter.unusedVariables false
set_option linter.unusedSimpArgs false
namespace Go.Proofs.YtbngjbmfkekdnaaGreatDoor
open Go.RowKit
set_option maxRecDepth 100000
def off (T : Nat → Prop) (v : Value) : Nat → Prop := fun b => T b ∧ v.ownBlock ≠ some b
def spX (pm sm : Value) (c l mo ba en : Int) : Ctx := ⟨[pm, sm, .int .u64 c, .int .u64 l, .int .i64 mo, .int .u64 ba, .int .u64 en], 65, by decide⟩
/-- A space at block sb, all its blocks among T: its regions L, its bytes M, its stamps st, how many pages may be mapped, its heap. -/
structure MS (T : Nat → Prop) (w : World) (sb n : Nat) (L : List Rg) (M st : Nat → Int) (mo ba en : Int) : Prop where
  ex : ∃ rg f k, StoreAt ⟨rg, mo, ba, en⟩ (off T rg) w sb n f k M st ∧ Row w 0 rg L ∧ ∀ g, rg.ownBlock = some g → T g
  rs : Rs L
  few : L.length ≤ 256
  by_ : ∀ x, 0 ≤ M x ∧ M x ≤ 255
  mo_ : 0 ≤ mo ∧ mo ≤ 4096
  heap : 0 ≤ ba ∧ ba ≤ 274877906944 ∧ 0 ≤ en ∧ en ≤ 274877906944
section
variable {T : Nat → Prop} {w w' : World} {sb n : Nat} {L : List Rg} {M st : Nat → Int} {mo ba en : Int}
theorem MS.bl (h : MS T w sb n L M st mo ba en) (k : Bl w w') : MS T w' sb n L M st mo ba en := by
  obtain ⟨rg, f, k0, h1, h2, h3⟩ := h.ex
  exact ⟨⟨rg, f, k0, h1.bl k, h2.bl k, h3⟩, h.rs, h.few, h.by_, h.mo_, h.heap⟩
theorem MS.so (h : MS T w sb n L M st mo ba en) : So 0 274877906944 L := h.rs.nm.so
theorem MS.own (h : MS T w sb n L M st mo ba en) : T sb := by
  obtain ⟨rg, f, k0, ⟨pm, sm, c, l, h1⟩, h2, h3⟩ := h.ex
  exact h1.own.1
theorem MS.lt (h : MS T w sb n L M st mo ba en) : sb < w.heap.size := by
  obtain ⟨rg, f, k0, ⟨pm, sm, c, l, h1⟩, h2, h3⟩ := h.ex
  exact h1.lt
theorem MS.mono (h : MS T w sb n L M st mo ba en) {m : Nat} (hn : n ≤ m) : MS T w sb m L M st mo ba en := by
  obtain ⟨rg, f, k0, h1, h2, h3⟩ := h.ex
  exact ⟨⟨rg, f, k0, h1.mono hn, h2, h3⟩, h.rs, h.few, h.by_, h.mo_, h.heap⟩
theorem MS.kept (h : MS T w sb n L M st mo ba en) {U : Nat → Prop} (hf : Fr U w w') (hd : ∀ b, T b → ¬ U b) : MS T w' sb n L M st mo ba en := by
  obtain ⟨rg, f, k0, h1, h2, h3⟩ := h.ex
  exact ⟨⟨rg, f, k0, h1.kept hf (fun b e => hd b e.1), h2.kept (fun g hg => hf.block g (h2.lt g hg).2 (hd g (h3 g hg))), h3⟩, h.rs, h.few, h.by_, h.mo_, h.heap⟩
theorem MS.among (h : MS T w sb n L M st mo ba en) {U : Nat → Prop} (hs : ∀ b, b < w.heap.size → T b → U b) : MS U w sb n L M st mo ba en := by
  obtain ⟨rg, f, k0, h1, h2, h3⟩ := h.ex
  exact ⟨⟨rg, f, k0, h1.among fun b hb e => ⟨hs b hb e.1, e.2⟩, h2, fun g hg => hs g (h2.lt g hg).2 (h3 g hg)⟩, h.rs, h.few, h.by_, h.mo_, h.heap⟩
theorem MS.list (h : MS T w sb n L M st mo ba en) : ∃ X, ListAt X w sb L := by
  obtain ⟨rg, f, k0, ⟨pm, sm, c, l, h1⟩, h2, h3⟩ := h.ex
  exact ⟨spX pm sm c l mo ba en, rg, h1.blk, h2⟩
theorem MS.cells (h : MS T w sb n L M st mo ba en) : w.cell? ⟨sb, 5, none⟩ = some (.int .i64 mo) ∧ w.cell? ⟨sb, 6, none⟩ = some (.int .u64 ba) ∧ w.cell? ⟨sb, 7, none⟩ = some (.int .u64 en) := by
  obtain ⟨rg, f, k0, ⟨pm, sm, c, l, h1⟩, h2, h3⟩ := h.ex
  have := h1.blk
  refine ⟨?_, ?_, ?_⟩ <;> simp [World.cell?, this]
theorem MS.cell0 (h : MS T w sb n L M st mo ba en) : ∃ v, w.cell? ⟨sb, 0, none⟩ = some v := by
  obtain ⟨rg, f, k0, ⟨pm, sm, c, l, h1⟩, h2, h3⟩ := h.ex
  have := h1.blk
  exact ⟨rg, by simp [World.cell?, this]⟩
theorem MS.free (h : MS T w sb n L M st mo ba en) (i : Nat) : w.frozen? ⟨sb, i, none⟩ = false := by
  obtain ⟨rg, f, k0, ⟨pm, sm, c, l, h1⟩, h2, h3⟩ := h.ex
  exact h1.free i
theorem off_new {T : Nat → Prop} {w : World} {rg : Value} {L : List Rg} {base : Nat} (hr : Row w base rg L) (hT : ∀ b, w.heap.size ≤ b → T b) : ∀ b, w.heap.size ≤ b → off T rg b := fun b hb => ⟨hT b hb, fun e => by have := (hr.lt b e).2; omega⟩
/-- The list turns, and nothing else. -/
theorem SA.list {T : Nat → Prop} {w w' : World} {sb n k : Nat} {f : Nat → Option Nat} {M st : Nat → Int} {pm sm : Value} {c l : Int} {rg v : Value} {mo ba en : Int} {L' : List Rg} (h : SA ⟨rg, mo, ba, en⟩ (off T rg) w sb n f k M st pm sm c l) (hr : Row w' w.heap.size v L')
    (hb : w'.heap[sb]? = some (.cells #[v, pm, sm, .int .u64 c, .int .u64 l, .int .i64 mo, .int .u64 ba, .int .u64 en] 65 (0, 0))) (hf : Fr (only sb) w w') : SA ⟨v, mo, ba, en⟩ (off T v) w' sb n f k M st pm sm c l := by
  have h1 : SA ⟨rg, mo, ba, en⟩ (off T v) w sb n f k M st pm sm c l := h.among fun b hb hS => ⟨hS.1, fun e => by have := (hr.lt b e).1; omega⟩
  refine SA.cells (Y' := ⟨v, mo, ba, en⟩) h1 (fun x hx hne => hf.block x hx (fun e => hne e)) hb h.lw h.top (h1.pages.kept fun B hB => ?_) (h1.stamps.kept fun B hB => ?_) h.apart
  · obtain ⟨_, es, q, h2⟩ := h1.pages.isMap hB
    rw [hf.at_ h2 (fun e => by have := h.blk; rw [← show B = sb from e, h2] at this; cases this), h2]
  · obtain ⟨_, es, q, h2⟩ := h1.stamps.isMap hB
    rw [hf.at_ h2 (fun e => by have := h.blk; rw [← show B = sb from e, h2] at this; cases this), h2]
/-- Other numbers in the space's block. -/
theorem SA.nums {T : Nat → Prop} {w w' : World} {sb n k : Nat} {f : Nat → Option Nat} {M st : Nat → Int} {pm sm : Value} {c l : Int} {rg : Value} {mo ba en mo' ba' en' : Int} (h : SA ⟨rg, mo, ba, en⟩ (off T rg) w sb n f k M st pm sm c l)
    (hb : w'.heap[sb]? = some (.cells #[rg, pm, sm, .int .u64 c, .int .u64 l, .int .i64 mo', .int .u64 ba', .int .u64 en'] 65 (0, 0))) (hf : Fr (only sb) w w') : SA ⟨rg, mo', ba', en'⟩ (off T rg) w' sb n f k M st pm sm c l := by
  refine SA.cells (Y' := ⟨rg, mo', ba', en'⟩) h (fun x hx hne => hf.block x hx (fun e => hne e)) hb h.lw h.top (h.pages.kept fun B hB => ?_) (h.stamps.kept fun B hB => ?_) h.apart
  · obtain ⟨_, es, q, h2⟩ := h.pages.isMap hB
    rw [hf.at_ h2 (fun e => by have := h.blk; rw [← show B = sb from e, h2] at this; cases this), h2]
  · obtain ⟨_, es, q, h2⟩ := h.stamps.isMap hB
    rw [hf.at_ h2 (fun e => by have := h.blk; rw [← show B = sb from e, h2] at this; cases this), h2]
theorem Fr.only_of {T : Nat → Prop} {w w' : World} {sb : Nat} (h : Fr (only sb) w w') (hT : T sb) : Fr T w w' := h.mono fun k _ e => by rw [show k = sb from e]; exact hT
/-- What a call of the list leaves of the space. -/
theorem MS.laid (h : MS T w sb n L M st mo ba en) {X : Ctx} (hX : ListAt X w sb L) {L' : List Rg} (hl : ListFrom X w.heap.size w' sb L') (hf : Fr (only sb) w w') (hrs : Rs L') (hfew : L'.length ≤ 256) (hT : ∀ b, w.heap.size ≤ b → T b) : MS T w' sb n L' M st mo ba en := by
  obtain ⟨rg, f, k0, ⟨pm, sm, c, l, h1⟩, h2, h3⟩ := h.ex
  obtain ⟨v0, b0, _⟩ := hX
  obtain ⟨v, b1, r1⟩ := hl
  rw [h1.blk] at b0
  injection b0 with b0
  injection b0 with b0 bt
  have e0 : [rg, pm, sm, .int .u64 c, .int .u64 l, .int .i64 mo, .int .u64 ba, .int .u64 en] = v0 :: X.rest := by simpa using congrArg Array.toList b0
  injection e0 with _ e0
  rw [← e0, ← bt] at b1
  refine ⟨⟨v, f, k0, ⟨pm, sm, c, l, h1.list r1 b1 hf⟩, r1.base_ (b2 := 0) (fun g _ => Nat.zero_le g), fun g hg => hT g (r1.lt g hg).1⟩, hrs, hfew, h.by_, h.mo_, h.heap⟩
/-- What a call of the store leaves of the space. -/
theorem MS.stored (h : MS T w sb n L M st mo ba en) {rg : Value} (hr : Row w 0 rg L) (hg : ∀ g, rg.ownBlock = some g → T g) {f : Nat → Option Nat} {k m : Nat} {M' st' : Nat → Int} (hs : StoreAt ⟨rg, mo, ba, en⟩ (off T rg) w' sb m f k M' st') (hf : Fr (off T rg) w w') (hb : ∀ x, 0 ≤ M' x ∧ M' x ≤ 255) : MS T w' sb m L M' st' mo ba en :=
  ⟨⟨rg, f, k, hs, hr.kept (fun g hg => hf.block g (hr.lt g hg).2 (fun e => e.2 hg)), hg⟩, h.rs, h.few, hb, h.mo_, h.heap⟩
theorem Fr.off_of {T : Nat → Prop} {v : Value} {w w' : World} (h : Fr (off T v) w w') : Fr T w w' := h.mono fun _ _ e => e.1
end
/-- All of T but what was made between. -/
def gap (T : Nat → Prop) (lo hi : Nat) : Nat → Prop := fun b => T b ∧ ¬ (lo ≤ b ∧ b < hi)
theorem MS.gap {T : Nat → Prop} {w w' : World} {sb n : Nat} {L : List Rg} {M st : Nat → Int} {mo ba en : Int} (h : MS T w sb n L M st mo ba en) (k : Bl w w') (lo hi : Nat) (hlo : w.heap.size ≤ lo) : MS (gap T lo hi) w' sb n L M st mo ba en :=
  (h.among (U := YtbngjbmfkekdnaaGreatDoor.gap T lo hi) fun b hb e => ⟨e, fun e2 => by omega⟩).bl k
theorem MS.ungap {T : Nat → Prop} {w : World} {sb n : Nat} {L : List Rg} {M st : Nat → Int} {mo ba en : Int} {lo hi : Nat} (h : MS (YtbngjbmfkekdnaaGreatDoor.gap T lo hi) w sb n L M st mo ba en) : MS T w sb n L M st mo ba en := h.among fun b _ e => e.1
theorem gap_new {T : Nat → Prop} {w w' : World} (hT : ∀ b, w.heap.size ≤ b → T b) (lo : Nat) (k : w.heap.size ≤ w'.heap.size) : ∀ b, w'.heap.size ≤ b → gap T lo w'.heap.size b := fun b hb => ⟨hT b (by omega), fun e => by omega⟩
theorem Fr.ungap {T : Nat → Prop} {w w' : World} {lo hi : Nat} (h : Fr (gap T lo hi) w w') : Fr T w w' := h.mono fun _ _ e => e.1
/-! ### New, up, isProt -/
theorem mnew_any (T : Nat → Prop) (m : Int) (w : World) (hT : T w.heap.size) (h0 : 0 ≤ m) (h1 : m ≤ 4096) : Calls Tryz.prog 6 #[.int .i64 m] w fun e w' => e = .returned (addr0 w.heap.size) ∧ MS T w' w.heap.size 0 [] (fun _ => 0) (fun _ => 0) m 0 0 ∧ Bl w w' ∧ w'.heap.size = w.heap.size + 1 := by
  have mx : ∀ ts t W, (Builtin.max_ ts t #[.int .i64 m, .int .i64 0]).run Tryz.prog W = .ok (.int .i64 m) W := fun ts t W => by
    rw [max_run]; congr 2; split <;> omega
  unfold addr0
  go_enter Tryz.func6, Tryz.ntmps6
  go_wp2
  go_ret
  refine ⟨rfl, ⟨⟨.slice none 0 0, fun _ => none, 0, ⟨.map none, .map none, 0, 0, ?_⟩, RowG.nil, fun g hg => by cases hg⟩, Rs.nil, by simp, fun _ => by omega, ⟨h0, h1⟩, by omega⟩, Bl.new _ _, by simp⟩
  exact ⟨heap_alloc_new w _, ⟨hT, fun e => by cases e⟩, by omega, fun _ _ => Int.le_refl _, .inl ⟨rfl, fun _ => rfl, rfl⟩, .inl ⟨rfl, fun _ _ => rfl⟩, fun B h => (by cases h), fun p b h => (by cases h), fun p q b h => (by cases h), fun _ _ _ _ => rfl, fun p b h => (by cases h)⟩
theorem misProt_yes (p : Int) (w : World) (h0 : 0 ≤ p) (h1 : p ≤ 7) : Calls Tryz.prog 25 #[.int .i64 p] w fun x w' => x = .returned (.bool true) ∧ w = w' := by
  go_enter Tryz.func25, Tryz.ntmps25
  go_wp2
  go_ret
  exact ⟨rfl, rfl⟩
theorem misProt_no (p : Int) (w : World) (h : ¬ (0 ≤ p ∧ p ≤ 7)) : Calls Tryz.prog 25 #[.int .i64 p] w fun x w' => x = .returned (.bool false) ∧ w = w' := by
  by_cases h0 : 0 ≤ p
  · have h1 : 7 < p := by omega
    have t1 : decide (p ≤ 7) = false := by simp; omega
    clear h
    go_enter Tryz.func25, Tryz.ntmps25
    go_wp2
    go_ret
    exact ⟨rfl, rfl⟩
  · have h1 : p < 0 := by omega
    clear h
    go_enter Tryz.func25, Tryz.ntmps25
    go_wp2
    go_ret
    exact ⟨rfl, rfl⟩
/-- Rounded up to whole pages; near 2^64 it goes round. -/
def upW (n : Int) : Int := IntKind.u64.wrap (n + 4095) / 4096 * 4096
theorem upW_in {n : Int} (h0 : 0 ≤ n) (h1 : n ≤ 274877906944) : upW n = (n + 4095) / 4096 * 4096 := by unfold upW; rw [IntWalk.u64_in _ (by omega)]
theorem upW_facts (n : Int) : upW n % 4096 = 0 ∧ 0 ≤ upW n ∧ upW n ≤ 18446744073709547520 := by
  unfold upW
  have := wrap_in (n + 4095)
  omega
theorem mup_any (n : Int) (w : World) : Calls Tryz.prog 26 #[.int .u64 n] w fun e w' => e = .returned (.int .u64 (upW n)) ∧ w = w' := by
  go_enter Tryz.func26, Tryz.ntmps26
  go_wp2
  go_ret
  have hw := wrap_in (n + 4095)
  refine ⟨?_, rfl⟩
  show Ending.returned (.int .u64 (IntKind.u64.wrap (IntKind.u64.wrap (n + 4095) - (IntKind.u64.wrap (n + 4095)).tmod 4096))) = _
  unfold upW
  congr 2
  rw [Int.tmod_eq_emod_of_nonneg hw.1, IntWalk.u64_in _ (by omega)]
  omega
end Go.Proofs.YtbngjbmfkekdnaaGreatDoor
