/-
  Contract of the reference's pieces: an immediate by pairs of bits.
-/
import Derived.Test.YtfkecgidjicidaaDoorRefA
import Derived.Test.YtfkecgidjicidaaDoorFrames
set_option linter.unusedVariables false
set_option linter.unusedSimpArgs false
namespace Go.Proofs.YtfkecgidjicidaaDoor
open Go.RowKit
/-- What the first j pairs give. -/
def acc (s : Nat) (ps : List (Nat × Nat)) : Nat → Nat
  | 0 => 0
  | j + 1 => acc s ps j * 2 ^ ((ps.getD j (0, 0)).1 + 1 - (ps.getD j (0, 0)).2) + pc s (ps.getD j (0, 0)).2 ((ps.getD j (0, 0)).1 + 1 - (ps.getD j (0, 0)).2)
/-- How many bits the first j pairs have. -/
def bl (ps : List (Nat × Nat)) : Nat → Nat
  | 0 => 0
  | j + 1 => bl ps j + ((ps.getD j (0, 0)).1 + 1 - (ps.getD j (0, 0)).2)
theorem grow_lt {n m q a : Nat} (h : n < 2 ^ m) (ha : a < 2 ^ q) : n * 2 ^ q + a < 2 ^ (m + q) := by
  have h1 : (n + 1) * 2 ^ q ≤ 2 ^ m * 2 ^ q := Nat.mul_le_mul_right _ h
  rw [Nat.pow_add]
  rw [Nat.add_mul] at h1
  omega
theorem acc_lt (s : Nat) (ps : List (Nat × Nat)) : ∀ j, acc s ps j < 2 ^ bl ps j
  | 0 => by simp [acc, bl]
  | j + 1 => grow_lt (acc_lt s ps j) (pc_lt _ _ _)
theorem bl_le (ps : List (Nat × Nat)) : ∀ j k, bl ps j ≤ bl ps (j + k)
  | j, 0 => Nat.le_refl _
  | j, k + 1 => Nat.le_trans (bl_le ps j k) (Nat.le_add_right _ _)
theorem small16 {n m : Nat} (h : n < 2 ^ m) (hm : m ≤ 16) : n < 65536 := Nat.lt_of_lt_of_le h (Nat.pow_le_pow_right (n := 2) (by decide) hm)
theorem pc_one (s a : Nat) : pc s a 1 = s / 2 ^ a % 2 := by unfold pc; simp

/-- What stands in memory: the pairs, one behind the other. -/
def Pairs (w : World) (b : Nat) (ps : List (Nat × Nat)) : Prop := ∀ j, j < ps.length → w.cell? ⟨b, 2 * j, none⟩ = some (.int .i64 ((ps.getD j (0, 0)).1 : Nat)) ∧ w.cell? ⟨b, 2 * j + 1, none⟩ = some (.int .i64 ((ps.getD j (0, 0)).2 : Nat))
def Ranged (ps : List (Nat × Nat)) : Prop := ∀ j, j < ps.length → (ps.getD j (0, 0)).2 ≤ (ps.getD j (0, 0)).1 ∧ (ps.getD j (0, 0)).1 ≤ 15

set_option maxHeartbeats 2000000 in
theorem pieces_any (s : Nat) (ps : List (Nat × Nat)) (z b len cap : Nat) (w : World) (hs : s < 65536) (hlen : 2 * ps.length = len) (hz : z ≤ 12) (hl : len ≤ 100) (hbl : bl ps ps.length ≤ 16) (hP : Pairs w b ps) (hR : Ranged ps) :
    Calls Tryd.prog 14 #[.int .u16 s, .slice (some ⟨b, 0, none⟩) len cap, .int .i64 z] w fun e w' => e = .returned (.int .i64 ((acc s ps ps.length * 2 ^ z : Nat) : Int)) ∧ w = w' := by
  have HP := Lib.hid hP; have HR := Lib.hid hR; clear hP hR
  have HB : Hid (∀ j, j ≤ ps.length → bl ps j ≤ 16) := Lib.hid (fun j hj => by
    have := bl_le ps j (ps.length - j)
    rw [show j + (ps.length - j) = ps.length by omega] at this
    omega)
  have HF := Lib.hid (fun (j : Nat) (w : World) (hj : j ≤ 31) => F_any s j j w (by omega) (Nat.le_refl _) hj)
  clear hbl
  have HL := Lib.hid hlen; clear hlen
  go_enter Tryd.func14, Tryd.ntmps14
  go_wp2
  go_loop [7, 8] (fun n k => ∃ j : Nat, j ≤ ps.length ∧ k = .int .i64 ((2 * j : Nat) : Int) ∧ n = .int .i64 ((acc s ps j : Nat) : Int)) (fun n k => 200 - (intOf k).toNat)
  case atStart => exact ⟨0, by omega, rfl, rfl⟩
  case round =>
    obtain ⟨j, hj, rfl, rfl⟩ := hrel
    by_cases hlt : j < ps.length
    · obtain ⟨c1, c2⟩ := HP.out j hlt
      obtain ⟨r1, r2⟩ := HR.out j hlt
      have HN := Lib.hid (show acc s ps (j + 1) = acc s ps j * 2 ^ ((ps.getD j (0, 0)).1 + 1 - (ps.getD j (0, 0)).2) + pc s (ps.getD j (0, 0)).2 ((ps.getD j (0, 0)).1 + 1 - (ps.getD j (0, 0)).2) from rfl)
      have hA := acc_lt s ps j
      have hm : bl ps j + ((ps.getD j (0, 0)).1 + 1 - (ps.getD j (0, 0)).2) ≤ 16 := HB.out (j + 1) (by omega)
      generalize (ps.getD j (0, 0)).1 = hi at *
      generalize (ps.getD j (0, 0)).2 = lo at *
      generalize acc s ps j = A at *
      generalize bl ps j = m at *
      have HA := Lib.hid hA; clear hA
      obtain ⟨K, hK⟩ : ∃ K : Nat, 2 * j = K := ⟨_, rfl⟩
      rw [hK] at c1 c2 ⊢
      have hK1 : (K : Int) + 1 < (len : Int) := by have := HL.out; omega
      have HKK := Lib.hid hK; clear hK
      go_wp2
      go_loop [7, 9] (fun n c => ∃ i : Nat, i ≤ hi + 1 - lo ∧ c = .int .i64 ((hi : Int) - i) ∧ n = .int .i64 ((A * 2 ^ i + pc s (hi + 1 - i) i : Nat) : Int)) (fun n c => (intOf c + 1).toNat)
      case atStart => exact ⟨0, by omega, by simp, by rw [pc_zero]; simp⟩
      case round =>
        obtain ⟨i, hi', rfl, rfl⟩ := hrel
        by_cases hl2 : i < hi + 1 - lo
        · obtain ⟨d, hd⟩ : ∃ d : Nat, d + i = hi := ⟨hi - i, by omega⟩
          have ed : (hi : Int) - (i : Int) = (d : Int) := by omega
          have ee : hi + 1 - i = d + 1 := by omega
          rw [ed, ee]
          have hb : A * 2 ^ i + pc s (d + 1) i < 65536 := small16 (grow_lt HA.out (pc_lt _ _ _)) (by omega)
          have hst := Lib.hid (show (A * 2 ^ i + pc s (d + 1) i) * 2 + pc s d 1 = A * 2 ^ (i + 1) + pc s d (i + 1) by
            rw [← pc_step s d i, pc_one, Nat.pow_succ, ← Nat.mul_assoc]
            generalize A * 2 ^ i = q
            generalize s / 2 ^ d % 2 = y
            generalize pc s (d + 1) i = x
            omega)
          have hF := Lib.hid (fun w => HF.out d w (by omega))
          rw [show d + 1 - d = 1 by omega] at hF
          have hp1 : pc s d 1 < 2 := pc_lt s d 1
          have hlo : (lo : Int) ≤ (d : Int) := by omega
          have hd15 : (d : Int) ≤ 15 := by omega
          have HD := Lib.hid hd
          have HEE := Lib.hid (show hi + 1 - (i + 1) = d by omega)
          clear ed ee hd
          generalize A * 2 ^ i + pc s (d + 1) i = p at *
          generalize pc s d 1 = g at *
          go_wp2_with fail
          refine (hF.out _).mono ?_
          rintro e w' ⟨rfl, rfl⟩
          go_wp2
          go_round
          case rel =>
            refine ⟨i + 1, by omega, ?_, ?_⟩
            · have := HD.out; first | (congr 1; omega) | omega | (congr 1)
            · rw [HEE.out, ← hst.out]; go_num
          case measure => simp [intOf] <;> omega
        · obtain rfl : i = hi + 1 - lo := by omega
          have e1 : (hi : Int) - ((hi + 1 - lo : Nat) : Int) = (lo : Int) - 1 := by omega
          have e2 : hi + 1 - (hi + 1 - lo) = lo := by omega
          rw [e1, e2]
          clear e1 e2
          have hb : A * 2 ^ (hi + 1 - lo) + pc s lo (hi + 1 - lo) < 65536 := small16 (grow_lt HA.out (pc_lt _ _ _)) hm
          rw [← HN.out] at hb ⊢
          go_wp2
          go_round
          case rel => exact ⟨j + 1, by omega, by have := HKK.out; first | (congr 1; omega) | go_num, rfl⟩
          case measure => have := HL.out; have := HKK.out; simp [intOf]; omega
    · obtain rfl : j = ps.length := by omega
      have hA : acc s ps ps.length < 65536 := small16 (acc_lt s ps _) (HB.out _ (Nat.le_refl _))
      obtain ⟨A, eA⟩ : ∃ A, acc s ps ps.length = A := ⟨_, rfl⟩
      rw [eA] at hA ⊢
      have EA := Lib.hid eA; clear eA
      have e := HL.out
      rw [e]
      have hlen1 : (len : Int) ≤ (len : Int) + 1 := by omega
      clear e
      go_wp2
      go_loop [7, 2] (fun n c => ∃ i : Nat, i ≤ z ∧ c = .int .i64 ((z - i : Nat) : Int) ∧ n = .int .i64 ((A * 2 ^ i : Nat) : Int)) (fun n c => (intOf c).toNat)
      case atStart => exact ⟨0, by omega, by simp, by simp⟩
      case round =>
        obtain ⟨i, hi', rfl, rfl⟩ := hrel
        have hp : A * 2 ^ i < 65536 * 4096 := Nat.mul_lt_mul_of_lt_of_le hA (Nat.pow_le_pow_right (n := 2) (by decide) (show i ≤ 12 by omega)) (by decide)
        by_cases hl2 : i < z
        · obtain ⟨d, hd⟩ : ∃ d : Nat, z - i = d + 1 := ⟨z - i - 1, by omega⟩
          rw [hd]
          have HD := Lib.hid (show z - (i + 1) = d by omega)
          have hd12 : (d : Int) ≤ 12 := by omega
          have hst := Lib.hid (show A * 2 ^ i * 2 = A * 2 ^ (i + 1) by rw [Nat.pow_succ, Nat.mul_assoc])
          clear hd
          generalize A * 2 ^ i = p at *
          go_wp2
          go_round
          case rel =>
            refine ⟨i + 1, by omega, ?_, ?_⟩
            · rw [HD.out]; try go_num
            · rw [← hst.out]; go_num
          case measure => simp [intOf] <;> omega
        · obtain rfl : i = z := by omega
          rw [Nat.sub_self]
          go_wp2
          go_ret
          exact ⟨ret_int (by rw [EA.out]), rfl⟩
end Go.Proofs.YtfkecgidjicidaaDoor
