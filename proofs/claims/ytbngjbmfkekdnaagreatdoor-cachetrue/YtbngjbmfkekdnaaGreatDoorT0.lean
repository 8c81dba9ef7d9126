/-
  Plain facts on whole numbers, as words of 64 bits: filled by a sign, products' upper halves, quotients. No program in sight.
-/
import Derived.WalkKit
import Derived.Lib.Hide
set_option linter.unusedVariables false
set_option linter.unusedSimpArgs false
set_option maxHeartbeats 16000000
open Go.Lib (hid)
namespace Go.Proofs.YtbngjbmfkekdnaaGreatDoor
open Go.RowKit

theorem pow_pos' (n:Nat):(0:Int) < 2 ^ n:=Int.pow_pos (by decide)
theorem pow_half (b:Nat) (h:1 ≤ b):(2:Int) ^ b = 2 * 2 ^ (b - 1):=by
  have e:b = 1 + (b - 1):=by omega
  rw [e,Int.pow_add];simp
theorem pow64 (b:Nat) (h:b ≤ 64):(2:Int) ^ (64 - b) * 2 ^ b = 18446744073709551616:=by
  rw [← Int.pow_add,show 64 - b + b = 64 by omega];rfl
theorem pow63 (b:Nat) (h:1 ≤ b) (h':b ≤ 64):(2:Int) ^ (64 - b) * 2 ^ (b - 1) = 9223372036854775808:=by
  rw [← Int.pow_add,show 64 - b + (b - 1) = 63 by omega];rfl

def low (x:Int) (b:Nat):Int:=(x + 2 ^ (b - 1)) % 2 ^ b - 2 ^ (b - 1)
def sx (x:Int) (b:Nat):Int:=low x b % 18446744073709551616

theorem low_lo (x:Int) (b:Nat):-(2 ^ (b - 1)) ≤ low x b:=by
  have h:=Int.emod_nonneg (x + 2 ^ (b - 1)) (Int.ne_of_gt (pow_pos' b))
  unfold low;omega
theorem low_hi (x:Int) (b:Nat) (h:1 ≤ b):low x b < 2 ^ (b - 1):=by
  have h1:=Int.emod_lt_of_pos (x + 2 ^ (b - 1)) (pow_pos' b)
  have h2:=pow_half b h
  unfold low;omega
theorem low_eq (x:Int) (b:Nat):∃ q,x = low x b + 2 ^ b * q:=by
  refine ⟨(x + 2 ^ (b - 1)) / 2 ^ b,?_⟩
  have h:=Int.emod_add_mul_ediv (x + 2 ^ (b - 1)) (2 ^ b)
  unfold low;omega
theorem low_unique (x y q:Int) (b:Nat) (h:1 ≤ b) (he:x = y + 2 ^ b * q) (h1:-(2 ^ (b - 1)) ≤ y) (h2:y < 2 ^ (b - 1)):low x b = y:=by
  have h3:=pow_half b h
  unfold low
  rw [he,show y + 2 ^ b * q + 2 ^ (b - 1) = (y + 2 ^ (b - 1)) + 2 ^ b * q by omega,Int.add_mul_emod_self_left,Int.emod_eq_of_lt (by omega) (by omega)]
  omega
theorem low_mono (p q:Nat) (h:1 ≤ p) (hpq:p ≤ q):(2:Int) ^ (p - 1) ≤ 2 ^ (q - 1)∧(2:Int) ^ q = 2 ^ p * 2 ^ (q - p):=by
  constructor
  · have e:(2:Int) ^ (q - 1) = 2 ^ (p - 1) * 2 ^ (q - p):=by rw [← Int.pow_add];congr 1;omega
    have h1:=pow_pos' (p - 1)
    have h2:=pow_pos' (q - p)
    rw [e]
    have:=Int.mul_le_mul_of_nonneg_left (show (1:Int) ≤ 2 ^ (q - p) by omega) (Int.le_of_lt h1)
    omega
  · rw [← Int.pow_add];congr 1;omega
theorem shifts (x:Int) (b:Nat) (h1:1 ≤ b) (h2:b ≤ 64):IntKind.u64.wrap (wrap64 (IntKind.u64.wrap (x * 2 ^ (64 - b))) / 2 ^ (64 - b)) = sx x b:=by
  have hP:=pow_pos' (64 - b)
  have h64:=pow64 b h2
  have h63:=pow63 b h1 h2
  obtain ⟨q,hq⟩:=low_eq x b
  have hl:=low_lo x b
  have hh:=low_hi x b h1
  have e1:x * 2 ^ (64 - b) = low x b * 2 ^ (64 - b) + 18446744073709551616 * q:=by
    rw [← h64,Int.mul_assoc,Int.mul_comm (2 ^ (64 - b)) (2 ^ b * q),← Int.add_mul,← hq]
  have a1:=Int.mul_le_mul_of_nonneg_right hl (Int.le_of_lt hP)
  have a2:=Int.mul_le_mul_of_nonneg_right (show low x b + 1 ≤ 2 ^ (b - 1) by omega) (Int.le_of_lt hP)
  rw [Int.neg_mul,Int.mul_comm (2 ^ (b - 1)),h63] at a1
  rw [Int.add_mul,Int.mul_comm (2 ^ (b - 1)),h63] at a2
  have e2:wrap64 (IntKind.u64.wrap (x * 2 ^ (64 - b))) = low x b * 2 ^ (64 - b):=by
    rw [IntKind.wrap_u64,e1];unfold wrap64
    generalize low x b * 2 ^ (64 - b) = t at *
    omega
  rw [e2,Int.mul_ediv_cancel _ (Int.ne_of_gt hP),IntKind.wrap_u64]
  rfl

end Go.Proofs.YtbngjbmfkekdnaaGreatDoor
