/-
  Contracts of the small functions of package inst: a run of bits, a number with a sign, what moves pieces out of a word.
-/
import Derived.Test.YtionnhjldcpmjaaGreatDoorKept
import Derived.Deep.QuietTactic
import Derived.BigQuiet
set_option linter.unusedVariables false
namespace Go.Proofs.YtionnhjldcpmjaaGreatDoor
open Go.RowKit

theorem ret_int {k : IntKind} {a b : Int} (h : a = b) : Ending.returned (.int k a) = .returned (.int k b) := by rw [h]
theorem ret_bool {a b : Bool} (h : a = b) : Ending.returned (.bool a) = .returned (.bool b) := by rw [h]
def sextI (x b : Int) : Int := if 1 ≤ b ∧ b ≤ 64 then sx x b.toNat else x

set_option maxHeartbeats 400000 in
theorem sext_in (x : Int) (n : Nat) (w : World) (h1 : (1 : Int) ≤ n) (h2 : (n : Int) ≤ 64) :
    Calls Tryz.prog 74 #[.int .u64 x, .int .i64 n] w fun e w' => e = .returned (.int .u64 (sx x n)) ∧ w = w' := by
  have hs := Lib.hid (shifts x n (by omega) (by omega))
  go_enter Tryz.func74, Tryz.ntmps74
  go_wp2
  go_ret
  exact ⟨ret_int (by rw [hs.out]), rfl⟩

/-- So many bits of s, from one on. -/
def pc (s a m : Nat) : Nat := s / 2 ^ a % 2 ^ m
theorem pc_lt (s a m : Nat) : pc s a m < 2 ^ m := Nat.mod_lt _ (Nat.two_pow_pos m)
theorem pc_le (s a m : Nat) (hs : s < 4294967296) : pc s a m < 4294967296 := Nat.lt_of_le_of_lt (Nat.le_trans (Nat.mod_le _ _) (Nat.div_le_self _ _)) hs

set_option maxHeartbeats 400000 in
theorem piece_any (s a m : Nat) (w : World) (hs : s < 4294967296) (ha : a ≤ 31) (hm : m ≤ 20) :
    Calls Tryz.prog 55 #[.int .u32 s, .int .i64 a, .int .i64 m] w fun e w' => e = .returned (.int .u32 (pc s a m)) ∧ ∃ k, w' = w.drewN k := by
  have h0 : (0 : Int) ≤ (a : Int) := by omega
  have h1 : (0 : Int) ≤ (m : Int) := by omega
  go_enter Tryz.func55, Tryz.ntmps55
  go_wp2_with fail
  go_quiet (fail)
  go_wp2
  go_ret
  refine ⟨ret_int ?_, _, rfl⟩
  have hp : 0 < 2 ^ m := Nat.two_pow_pos m
  have hp2 : 2 ^ m ≤ 2 ^ 20 := Nat.pow_le_pow_right (by decide) hm
  have e1 : ((2 : Int) ^ m - 1) % 4294967296 = ((2 ^ m - 1 : Nat) : Int) := by
    rw [Int.natCast_sub hp, Int.natCast_pow]
    exact Int.emod_eq_of_lt (by have := pow_pos' m; omega) (by have : (2 : Int) ^ m ≤ 2 ^ 20 := (by exact_mod_cast hp2); omega)
  have e2 : (s : Int) / 2 ^ a = ((s / 2 ^ a : Nat) : Int) := by simp
  rw [e1, e2, u32_and_nat _ _ (Nat.lt_of_le_of_lt (Nat.div_le_self _ _) hs) (by omega), Nat.and_two_pow_sub_one_eq_mod]
  rfl

/-- What taker's closure holds: the word. -/
theorem taker_any (s : Nat) (w : World) : Calls Tryz.prog 70 #[.int .u32 s] w fun e w' => e = .returned (.func (.func 81) #[] #[.pointer (some ⟨w.heap.size, 0, none⟩)]) ∧ Has w' w.heap.size 40 #[.int .u32 s] ∧ Kp none w w' := by
  have hmf : ∀ (fn : Fn) (first cap : Array Value) (w : World), (Instr.makeFunc fn first cap).run Tryz.prog w = .ok (.func fn first cap) w := fun _ _ _ _ => rfl
  go_enter Tryz.func70, Tryz.ntmps70
  go_wp2
  go_ret
  exact ⟨rfl, Has.new _ _ _, (Kp.refl _ _).alloc _ _⟩

theorem shl_pc (s a m k : Nat) (hm : m + k ≤ 33) : wrap64 (((pc s a m : Nat) : Int) * 2 ^ k) = ((pc s a m * 2 ^ k : Nat) : Int) := by
  have h1 := pc_lt s a m
  have h2 : pc s a m * 2 ^ k < 2 ^ 33 := by
    calc pc s a m * 2 ^ k < 2 ^ m * 2 ^ k := Nat.mul_lt_mul_of_pos_right h1 (Nat.two_pow_pos k)
      _ = 2 ^ (m + k) := (Nat.pow_add 2 m k).symm
      _ ≤ 2 ^ 33 := Nat.pow_le_pow_right (by decide) hm
  have e : ((pc s a m : Nat) : Int) * 2 ^ k = ((pc s a m * 2 ^ k : Nat) : Int) := by simp
  rw [e]
  generalize pc s a m * 2 ^ k = t at *
  unfold wrap64; omega

/-- A piece of a word, moved to its place in a number. -/
def tk (s a m k : Nat) : Int := (pc s a m * 2 ^ k : Nat)
set_option maxHeartbeats 400000 in
theorem take_any (n : Int) (s a m k c : Nat) (w : World) (hs : s < 4294967296) (ha : a ≤ 31) (hm : m ≤ 20) (hk : k ≤ 20) (hmk : m + k ≤ 33) (hc : Has w c 40 #[.int .u32 s]) :
    Calls Tryz.prog 81 #[.int .i64 n, .int .i64 a, .int .i64 m, .int .i64 k, .pointer (some ⟨c, 0, none⟩)] w fun e w' => e = .returned (.int .i64 (tk s a m k)) ∧ Kp none w w' := by
  have h0 : (0 : Int) ≤ (k : Int) := by omega
  have c0 := hc.cell 0
  simp at c0
  have hl := Lib.hid (shl_pc s a m k hmk)
  go_enter Tryz.func81, Tryz.ntmps81
  go_wp2_with fail
  refine (piece_any s a m _ hs ha hm).mono ?_
  rintro e w' ⟨rfl, q, rfl⟩
  have hb := pc_le s a m hs
  go_wp2
  go_ret
  exact ⟨ret_int hl.out, (Kp.refl _ _).drewN _⟩

theorem sx_back (n : Int) (b : Nat) (h1 : 1 ≤ b) (h2 : b ≤ 64) : wrap64 (sx (IntKind.u64.wrap n) b) = low n b := by
  have e : low (IntKind.u64.wrap n) b = low n b := by
    obtain ⟨q, hq⟩ := low_eq n b
    refine low_unique _ _ (q + 2 ^ (64 - b) * (-(n / 18446744073709551616))) b h1 ?_ (low_lo n b) (low_hi n b h1)
    rw [Int.mul_add, ← Int.mul_assoc, Int.mul_comm (2 ^ b) (2 ^ (64 - b)), pow64 b h2, IntKind.wrap_u64]
    omega
  have hm := (low_mono b 64 h1 h2).1
  have hl := low_lo n b
  have hh := low_hi n b h1
  simp at hm
  unfold sx; rw [e]; unfold wrap64
  omega
set_option maxHeartbeats 400000 in
theorem signed_any (n : Int) (b : Nat) (w : World) (h1 : (1 : Int) ≤ b) (h2 : (b : Int) ≤ 64) :
    Calls Tryz.prog 79 #[.int .i64 n, .int .i64 b] w fun e w' => e = .returned (.int .i64 (low n b)) ∧ w = w' := by
  go_enter Tryz.func79, Tryz.ntmps79
  go_wp2_with fail
  refine (sext_in _ b _ h1 h2).mono ?_
  rintro e w' ⟨rfl, rfl⟩
  go_wp2
  go_ret
  exact ⟨ret_int (sx_back n b (by omega) (by omega)), rfl⟩

end Go.Proofs.YtionnhjldcpmjaaGreatDoor
