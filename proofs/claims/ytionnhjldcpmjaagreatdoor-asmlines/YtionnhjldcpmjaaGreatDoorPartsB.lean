/-
  Contracts of the forms' helpers that lay pieces into a word.
-/
import Derived.Test.YtionnhjldcpmjaaGreatDoorPartsA
import Derived.Test.YtionnhjldcpmjaaGreatDoorHead
set_option linter.unusedVariables false
set_option linter.unusedSimpArgs false
namespace Go.Proofs.YtionnhjldcpmjaaGreatDoor
open Go.RowKit

theorem layer_any (t : Nat) (w : World) : Calls Tryz.prog 42 #[.pointer (some ⟨t, 0, none⟩)] w fun e w' => e = .returned (.func (.func 69) #[] #[.pointer (some ⟨w.heap.size, 0, none⟩)]) ∧ Has w' w.heap.size 86 #[.pointer (some ⟨t, 0, none⟩)] ∧ Kp none w w' := by
  have hmf : ∀ (fn : Fn) (first cap : Array Value) (w : World), (Instr.makeFunc fn first cap).run Tryz.prog w = .ok (.func fn first cap) w := fun _ _ _ _ => rfl
  go_enter Tryz.func42, Tryz.ntmps42
  go_wp2
  go_ret
  exact ⟨rfl, Has.new _ _ _, (Kp.refl _ _).alloc _ _⟩

/-- What a piece of a number is, on its way into a word. -/
def gv (n : Int) (m k : Nat) : Nat := (n / 2 ^ k % 2 ^ m).toNat
theorem gv_lt (n : Int) (m k : Nat) : gv n m k < 2 ^ m := by
  have h1 := Int.emod_nonneg (n / 2 ^ k) (Int.ne_of_gt (pow_pos' m))
  have h2 := Int.emod_lt_of_pos (n / 2 ^ k) (pow_pos' m)
  have e : (2 : Int) ^ m = ((2 ^ m : Nat) : Int) := by simp
  unfold gv; rw [e] at h1 h2 ⊢
  omega
/-- The word behind it. -/
def ly (s : Nat) (n : Int) (a m k : Nat) : Nat := s ||| (gv n m k * 2 ^ a)
/-- What the closure hands to piece. -/
theorem gv_pc (n : Int) (m k : Nat) (hm : m ≤ 20) : pc (IntKind.u32.wrap (n / 2 ^ k)).toNat 0 m = gv n m k := by
  have e0 : (2 : Int) ^ m ∣ 4294967296 := ⟨2 ^ (32 - m), by rw [← Int.pow_add, show m + (32 - m) = 32 by omega]; rfl⟩
  have h1 : IntKind.u32.wrap (n / 2 ^ k) % 2 ^ m = n / 2 ^ k % 2 ^ m := by
    rw [IntKind.wrap_u32]; exact Int.emod_emod_of_dvd _ e0
  have h2 : 0 ≤ IntKind.u32.wrap (n / 2 ^ k) := by rw [IntKind.wrap_u32]; omega
  unfold pc gv
  rw [← h1]
  obtain ⟨A, hA⟩ := Int.eq_ofNat_of_zero_le h2
  rw [hA]
  have e : (2 : Int) ^ m = ((2 ^ m : Nat) : Int) := by simp
  rw [e, ← Int.natCast_emod, Int.toNat_natCast, Int.toNat_natCast]
  simp
theorem ly_or (s : Nat) (n : Int) (a m k : Nat) (hs : s < 4294967296) (h : a + m ≤ 32) : bits .or .u32 (s : Int) ((gv n m k : Nat) * 2 ^ a % 4294967296) = (ly s n a m k : Nat) := by
  have h1 : gv n m k * 2 ^ a < 4294967296 := by
    calc gv n m k * 2 ^ a < 2 ^ m * 2 ^ a := Nat.mul_lt_mul_of_pos_right (gv_lt n m k) (Nat.two_pow_pos a)
      _ = 2 ^ (m + a) := (Nat.pow_add 2 m a).symm
      _ ≤ 2 ^ 32 := Nat.pow_le_pow_right (by decide) (by omega)
  have e : ((gv n m k : Nat) : Int) * 2 ^ a = ((gv n m k * 2 ^ a : Nat) : Int) := by simp
  rw [e, Int.emod_eq_of_lt (by omega) (by omega), u32_or_nat _ _ hs h1]
  rfl

theorem ly_lt {s : Nat} {n : Int} {a m k : Nat} (hs : s < 4294967296) (h : a + m ≤ 32) : ly s n a m k < 4294967296 := by
  have h1 : gv n m k * 2 ^ a < 2 ^ 32 := by
    calc gv n m k * 2 ^ a < 2 ^ m * 2 ^ a := Nat.mul_lt_mul_of_pos_right (gv_lt n m k) (Nat.two_pow_pos a)
      _ = 2 ^ (m + a) := (Nat.pow_add 2 m a).symm
      _ ≤ 2 ^ 32 := Nat.pow_le_pow_right (by decide) (by omega)
  exact Nat.or_lt_two_pow (n := 32) hs h1

set_option maxHeartbeats 1000000 in
theorem lay_any (n : Int) (s a m k c t : Nat) (w : World) (hs : s < 4294967296) (ha : a ≤ 31) (hm : m ≤ 20) (hk : k ≤ 20) (hmk : a + m ≤ 32) (hct : c ≠ t) (hc : Has w c 86 #[.pointer (some ⟨t, 0, none⟩)]) (ht : Has w t 40 #[.int .u32 s]) :
    Calls Tryz.prog 69 #[.int .i64 n, .int .i64 a, .int .i64 m, .int .i64 k, .pointer (some ⟨c, 0, none⟩)] w fun e w' => e = .returned (.int .i64 n) ∧ Has w' t 40 #[.int .u32 (ly s n a m k)] ∧ Kp (some t) w w' := by
  have h0 : (0 : Int) ≤ (k : Int) := by omega
  have h1 : (0 : Int) ≤ (a : Int) := by omega
  have c0 := hc.cell 0
  have c1 := ht.cell 0
  have c2 := ht.free 0
  simp at c0 c1
  have hw : ∃ A : Nat, A < 4294967296 ∧ IntKind.u32.wrap (n / 2 ^ k) = (A : Int) ∧ pc A 0 m = gv n m k :=
    ⟨(IntKind.u32.wrap (n / 2 ^ k)).toNat, by rw [IntKind.wrap_u32]; omega, by rw [IntKind.wrap_u32]; omega, gv_pc n m k hm⟩
  obtain ⟨A, hA, hw, hg⟩ := hw
  have HG := Lib.hid hg; clear hg
  have HL := Lib.hid (ly_or s n a m k hs hmk)
  go_enter Tryz.func69, Tryz.ntmps69
  go_wp2_with fail
  refine wp_region_hd 12 (fun w' => Kp none w w' ∧ w'.cell? ⟨c, 0, none⟩ = some (.pointer (some ⟨t, 0, none⟩)) ∧ w'.cell? ⟨t, 0, none⟩ = some (.int .u32 s)) (by kernel_rfl) (by decide) ⟨(Kp.refl _ _).drew, c0, c1⟩ (fun hHeld => ?_)
  refine wpHd_take (i := 0) (v := ?_) rfl (by kernel_rfl) (fun _ _ _ h => h) (Or.inl ⟨by rfl, ?hy⟩) hHeld ?_
  case hy => (intro w hSw; (try dsimp only at hSw); go_split_ands; go_simp; try (with_reducible rfl))
  (try simp only [Act.put, List.setIfInBounds_toArray, List.set_cons_zero, List.set_cons_succ])
  refine wpHd_take (i := 1) (v := ?_) rfl (by kernel_rfl) (fun _ _ _ h => h) (Or.inl ⟨by rfl, ?hy⟩) hHeld ?_
  case hy => (intro w hSw; (try dsimp only at hSw); go_split_ands; go_simp; try (with_reducible rfl))
  (try simp only [Act.put, List.setIfInBounds_toArray, List.set_cons_zero, List.set_cons_succ])
  refine wpHd_take (i := 2) (v := ?_) rfl (by kernel_rfl) (fun _ _ _ h => h) (Or.inl ⟨by rfl, ?hy⟩) hHeld ?_
  case hy => (intro w hSw; (try dsimp only at hSw); go_split_ands; go_simp; try (with_reducible rfl))
  (try simp only [Act.put, List.setIfInBounds_toArray, List.set_cons_zero, List.set_cons_succ])
  refine wpHd_take (i := 3) (v := ?_) rfl (by kernel_rfl) (fun _ _ _ h => h) (Or.inl ⟨by rfl, ?hy⟩) hHeld ?_
  case hy => (intro w hSw; (try dsimp only at hSw); go_split_ands; go_simp; try (with_reducible rfl))
  (try simp only [Act.put, List.setIfInBounds_toArray, List.set_cons_zero, List.set_cons_succ])
  refine wpHd_take (i := 4) (v := ?_) rfl (by kernel_rfl) (fun _ _ _ h => h) (Or.inl ⟨by rfl, ?hy⟩) hHeld ?_
  case hy => (intro w hSw; (try dsimp only at hSw); go_split_ands; go_simp; try (with_reducible rfl))
  (try simp only [Act.put, List.setIfInBounds_toArray, List.set_cons_zero, List.set_cons_succ])
  refine wpHd_take (i := 5) (v := ?_) rfl (by kernel_rfl) (fun _ _ _ h => h) (Or.inl ⟨by rfl, ?hy⟩) hHeld ?_
  case hy => (intro w hSw; (try dsimp only at hSw); go_split_ands; go_simp; try (with_reducible rfl))
  (try simp only [Act.put, List.setIfInBounds_toArray, List.set_cons_zero, List.set_cons_succ])
  refine wpHd_take (i := 6) (v := ?_) rfl (by kernel_rfl) (fun _ _ _ h => h) (Or.inl ⟨by rfl, ?hy⟩) hHeld ?_
  case hy => (intro w hSw; (try dsimp only at hSw); go_split_ands; go_simp; try (with_reducible rfl))
  (try simp only [Act.put, List.setIfInBounds_toArray, List.set_cons_zero, List.set_cons_succ])
  refine wpHd_take (i := 7) (v := ?_) rfl (by kernel_rfl) (fun _ _ _ h => h) (Or.inl ⟨by rfl, ?hy⟩) hHeld ?_
  case hy => (intro w hSw; (try dsimp only at hSw); go_split_ands; go_simp; try (with_reducible rfl))
  (try simp only [Act.put, List.setIfInBounds_toArray, List.set_cons_zero, List.set_cons_succ])
  refine wpHd_take (i := 9) (v := ?_) rfl (by kernel_rfl) (fun _ _ _ h => h) (Or.inl ⟨by rfl, ?hy⟩) hHeld ?_
  case hy => (intro w hSw; (try dsimp only at hSw); go_split_ands; go_simp; try (with_reducible rfl))
  (try simp only [Act.put, List.setIfInBounds_toArray, List.set_cons_zero, List.set_cons_succ])
  refine wpHd_one (i := 8) rfl (by kernel_rfl) (fun K hK => ?_)
  go_simp
  refine (piece_any A 0 m _ hA (by omega) hm).mono ?_
  rintro e w2 ⟨rfl, q, rfl⟩
  refine hK.out _ _ ?_ (fun hHeld => ?_)
  · exact ⟨hHeld.1.drewN _, hHeld.2⟩
  clear hK K
  (try simp only [Act.put, List.setIfInBounds_toArray, List.set_cons_zero, List.set_cons_succ])
  rw [HG.out]
  have hgl := gv_lt n m k
  refine wpHd_take (i := 10) (v := ?_) rfl (by kernel_rfl) (fun _ _ _ h => h) (Or.inl ⟨by rfl, ?hy⟩) hHeld ?_
  case hy => (intro w hSw; (try dsimp only at hSw); go_split_ands; go_simp; try (with_reducible rfl))
  (try simp only [Act.put, List.setIfInBounds_toArray, List.set_cons_zero, List.set_cons_succ])
  refine wpHd_take (i := 11) (v := ?_) rfl (by kernel_rfl) (fun _ _ _ h => h) (Or.inl ⟨by rfl, ?hy⟩) hHeld ?_
  case hy => (intro w hSw; (try dsimp only at hSw); go_split_ands; go_simp; try (with_reducible rfl))
  (try simp only [Act.put, List.setIfInBounds_toArray, List.set_cons_zero, List.set_cons_succ])
  refine ⟨by kernel_rfl, ?_⟩
  simp only [List.drop_succ_cons, List.drop_zero]
  have hk2 := hHeld.1
  obtain ⟨_, cc, ct⟩ := hHeld
  have ht2 : Has (w.drew.drewN q) t 40 #[.int .u32 s] := ht
  have cf := ht2.free 0
  generalize w.drew.drewN q = w3 at *
  go_wp2
  go_ret
  rw [HL.out]
  have := ht2.set 0 (.int .u32 (ly s n a m k))
  exact ⟨rfl, this, (hk2.any (o := some t)).setCell (p := ⟨t, 0, none⟩) (Or.inr rfl) _⟩
end Go.Proofs.YtionnhjldcpmjaaGreatDoor
