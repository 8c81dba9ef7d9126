/-
  Clear: nothing, some pages, all pages; what is asked of a store that is none.
-/
import Derived.Test.YtpalhkfipnbcnaaPageF
set_option linter.unusedVariables false
set_option linter.unusedSimpArgs false
namespace Go.Proofs.Ytpalhkfipnbcnaa
open Go.RowKit
set_option maxRecDepth 100000
def topped (b : Int) : Int := if b ≤ 274877906944 then b else 274877906944
theorem pwithin_any (a b : Int) (w : World) : Calls Try.prog 83 #[.int .u64 a, .int .u64 b] w fun e w' => e = .returned (span a (topped b)) ∧ Bl w w' := by
  unfold topped
  split
  · exact pwithin_in a b w (by assumption)
  · exact pwithin_out a b w (by omega)
theorem wipe_any {Y : Rest} {S : Nat → Prop} {w : World} {sb n k : Nat} {f : Nat → Option Nat} {M st : Nat → Int} (h : StoreAt Y S w sb n f k M st) (num : Nat) (hnum : num < 67108864) (A B : Int) (hA : 0 ≤ A) (hA1 : A ≤ (num : Int) * 4096) (hB1 : (num : Int) * 4096 + 4096 ≤ B) (hB : B ≤ 274877906944) :
    Calls Try.prog 87 #[.pointer (some ⟨sb, 1, none⟩), .int .u64 (num : Int), span A B] w fun e w' => e = .returned (.tuple #[]) ∧ (∃ k', StoreAt Y S w' sb n (put1 f num none) k' (wiped M (num * 4096) (num * 4096 + 4096)) st ∧ k' + (if (f num).isSome then 1 else 0) = k) ∧ Fr S w w' := by
  obtain ⟨pm, sm, c, l, h⟩ := h
  rcases hf : f num with _ | b
  · refine (wipe_none h num hnum A B hA hA1 hB1 hB hf).mono ?_
    rintro e w' ⟨rfl, bl⟩
    have e1 : put1 f num none = f := by
      funext p; by_cases e : p = num
      · subst e; rw [put1_same, hf]
      · rw [put1_other _ _ _ e]
    have e2 : wiped M (num * 4096) (num * 4096 + 4096) = M := by
      funext x; simp only [wiped]
      split
      · have := h.zero num (x - num * 4096) hf (by omega)
        rw [show num * 4096 + (x - num * 4096) = x by omega] at this
        exact this.symm
      · rfl
    rw [e1, e2]
    exact ⟨rfl, ⟨k, ⟨_, _, _, _, h.bl bl⟩, by simp⟩, Fr.of_bl bl⟩
  · obtain ⟨pb, rfl⟩ : ∃ B, pm = .map (some B) := by
      rcases h.pages with ⟨_, h1, _⟩ | ⟨B, h0, _⟩
      · rw [h1 num] at hf; cases hf
      · exact ⟨B, h0⟩
    refine (wipe_some h num b hnum A B hA hA1 hB1 hB hf).mono ?_
    rintro e w' ⟨rfl, w1, bl, hd⟩
    obtain ⟨k', h1, h2, h3⟩ := (h.bl bl).del (show num < 2 ^ 64 by omega) hd
    rw [hf] at h2
    exact ⟨rfl, ⟨k', ⟨_, _, _, _, h1⟩, h2⟩, (Fr.of_bl bl).trans h3⟩
/-- How many of m pages from a on are held. -/
def hcnt (f : Nat → Option Nat) (a : Nat) : Nat → Nat
  | 0 => 0
  | m + 1 => hcnt f a m + (if (f (a + m)).isSome then 1 else 0)
/-- m pages from a on are given back. -/
def cut (f : Nat → Option Nat) (a m : Nat) : Nat → Option Nat := fun p => if a ≤ p ∧ p < a + m then none else f p
theorem cut_step (f : Nat → Option Nat) (a m : Nat) : put1 (cut f a m) (a + m) none = cut f a (m + 1) := by
  funext p
  by_cases e : p = a + m
  · subst e; rw [put1_same]; simp only [cut]; rw [if_pos (by omega)]
  · rw [put1_other _ _ _ e]; simp only [cut]
    by_cases h : a ≤ p ∧ p < a + m
    · rw [if_pos h, if_pos (by omega)]
    · rw [if_neg h, if_neg (by omega)]
theorem wiped_step (M : Nat → Int) (a m : Nat) : wiped (wiped M (a * 4096) ((a + m) * 4096)) ((a + m) * 4096) ((a + m) * 4096 + 4096) = wiped M (a * 4096) ((a + (m + 1)) * 4096) := by
  funext x
  simp only [wiped]
  by_cases h1 : (a + m) * 4096 ≤ x ∧ x < (a + m) * 4096 + 4096
  · rw [if_pos h1, if_pos (by omega)]
  · rw [if_neg h1]
    by_cases h2 : a * 4096 ≤ x ∧ x < (a + m) * 4096
    · rw [if_pos h2, if_pos (by omega)]
    · rw [if_neg h2, if_neg (by omega)]
set_option maxHeartbeats 2000000 in
theorem clear_empty {w : World} {sb : Nat} (a b : Int) (hab : topped b ≤ a) : Calls Try.prog 70 #[.pointer (some ⟨sb, 1, none⟩), .int .u64 a, .int .u64 b] w fun e w' => e = .returned (.tuple #[]) ∧ Bl w w' := by
  have cw := fun W => pwithin_any a b W
  have ce := fun W => empty_any a (topped b) W
  rw [decide_eq_true hab] at ce
  generalize topped b = c at *
  have CW := Lib.hid cw; clear cw
  have CE := Lib.hid ce; clear ce
  (try unfold addr0 at *); (try unfold span at *)
  go_enter Try.func70, Try.ntmps70
  go_wp2_with fail
  refine (CW.out _).mono ?_
  rintro e w1 ⟨rfl, bl1⟩
  go_wp2_with fail
  refine (CE.out _).mono ?_
  rintro e w2 ⟨rfl, bl2⟩
  go_wp2_with fail
  (try simp only [Exit.inBlock, Exit.then]); refine bodyPost_ret (results_none rfl _ _ _) rfl ?_
  exact ⟨rfl, (bl1.alloc _).trans bl2⟩
set_option maxHeartbeats 2000000 in
theorem clear_nil {w : World} (a b : Int) : Calls Try.prog 70 #[.pointer none, .int .u64 a, .int .u64 b] w fun e w' => e = .returned (.tuple #[]) ∧ Bl w w' := by
  have cw := fun W => pwithin_any a b W
  generalize topped b = c at *
  have CW := Lib.hid cw; clear cw
  (try unfold span at *)
  go_enter Try.func70, Try.ntmps70
  go_wp2_with fail
  refine (CW.out _).mono ?_
  rintro e w1 ⟨rfl, bl1⟩
  go_wp2_with fail
  (try simp only [Exit.inBlock, Exit.then]); refine bodyPost_ret (results_none rfl _ _ _) rfl ?_
  exact ⟨rfl, bl1.alloc _⟩
end Go.Proofs.Ytpalhkfipnbcnaa
