/-
  Numerals: the library, and the reference.
-/
import Derived.Test.YtionnhjldcpmjaaGreatDoorAsmF
import Derived.Lib.ItoaMem
import Derived.Lib.ItoaNum
set_option linter.unusedVariables false
set_option linter.unusedSimpArgs false
namespace Go.Proofs.YtionnhjldcpmjaaGreatDoor
open Go.RowKit

open Go.Sort
abbrev byteV : UInt8 → Value := fun (b : UInt8) => Value.int .u8 (b.toNat : Int)
theorem holds_zero0 (w : World) (T : TypeId) (nd : Nat) (hs : nd ≤ 24) : Holds byteV (w.alloc (.cells Lib.zeros24 T)) w.heap.size 0 (Array.replicate nd (0 : UInt8)) := fun j hj => by
  have hj' : j < nd := by simpa using hj
  refine ⟨?_, World.frozen?_alloc_new _ _ _ _⟩
  rw [World.cell?_alloc_new, Lib.zeros24_at _ (by omega), getElem!_pos _ j hj]
  simp
theorem fin_row (w : World) (o : Obj) (dk : Array UInt8) (k : Nat) : Bl w ((putRow byteV (w.alloc o) w.heap.size 0 dk).drewN k) := by
  rw [alloc_eq_grow]
  obtain ⟨os', _, e⟩ := putRow_grow_new byteV w #[o] w.heap.size 0 dk (Nat.le_refl _)
  rw [e]
  exact (Bl.refl w).grow k os'
set_option maxRecDepth 100000 in
set_option maxHeartbeats 2000000 in
theorem fmtI_any (u : Nat) (hu64 : u < 18446744073709551616) (a : Addr) (w : World) (hE : Env a w) :
    Calls Tryz.prog 91 #[.int .u64 u, .int .i64 10] w fun e w' => e = .returned (str (Lib.decDigits u)) ∧ Bl w w' := by
  by_cases hs : u < 100
  · go_enter Tryz.func91, Tryz.ntmps91
    go_wp2_with fail
    refine (Tryz.internal_strconv_small u hs _).mono ?_
    rintro e w' ⟨rfl, rfl⟩
    go_wp2
    go_ret
    exact ⟨rfl, Bl.refl _⟩
  · have hu1 : 1 ≤ u := by omega
    have hnd20 : Lib.nDigits u ≤ 20 := by have := Lib.numDigits_eq u hu1 hu64; split at this <;> omega
    have hb3 : Lib.nDigits u ≤ 24 := by omega
    have hal : Tryz.prog.arrayLen 130 = 24 := by simp [Program.arrayLen, Tryz.underlying130]
    have hsl1 : ∀ W, (Instr.sliceAt 130 (.pointer (some ⟨w.heap.size, 0, none⟩)) none (some (.int .i64 (Lib.nDigits u : Int))) none).run Tryz.prog W = .ok (.slice (some ⟨w.heap.size, 0, none⟩) (Lib.nDigits u) 24) W := fun W => by
      rw [run_sliceAt_array_h W 130 ⟨w.heap.size, 0, none⟩ (by simp [Program.arrayLen, Program.elem, Tryz.underlying130]) .i64 (Lib.nDigits u : Int) (by omega) (by rw [hal]; omega)]
      go_simp
    have hH0 := holds_zero0 w 130 (Lib.nDigits u) (by omega)
    have hfmt := Tryz.internal_strconv_formatBase10 w.heap.size 0 24 u (Array.replicate (Lib.nDigits u) 0) (w.alloc (.cells Lib.zeros24 130)) hH0 (by rw [Array.size_replicate]; exact Lib.lt_pow_nDigits u) hu64 (by rw [Array.size_replicate]; omega)
    rw [Array.size_replicate] at hfmt
    have HH0 := Lib.hid hH0
    have hpow := Lib.tabIs_alloc hE.pow.here (.cells Lib.zeros24 130)
    have HE := Lib.hid hE
    clear hH0 hal hE
    go_enter Tryz.func91, Tryz.ntmps91
    go_wp2_with fail
    refine (Tryz.internal_strconv_numDigits u hu1 hu64 _ hpow).mono ?_
    rintro e w' ⟨rfl, rfl⟩
    go_wp2_with fail
    refine hfmt.mono ?_
    rintro e w' ⟨rfl, k, v', dk, rfl, hF⟩
    have hcv : (convert 38 9 (.slice (some ⟨w.heap.size, 0, none⟩) (Lib.nDigits u) 24)).run Tryz.prog ((putRow byteV (w.alloc (.cells Lib.zeros24 130)) w.heap.size 0 dk).drewN k) = .ok (str (Lib.decDigits u)) ((putRow byteV (w.alloc (.cells Lib.zeros24 130)) w.heap.size 0 dk).drewN k) := by
      have h := run_convert_bytes_back (P := Tryz.prog) ((putRow byteV (w.alloc (.cells Lib.zeros24 130)) w.heap.size 0 dk).drewN k) 38 9 5 ⟨w.heap.size, 0, none⟩ 24 (Lib.decDigits u) Tryz.underlying38 Tryz.underlying5 Tryz.underlying9 (fun j hj => by
        rw [Lib.row_is_numeral hF j hj, Lib.add_plain, World.cell?_drewN]
        exact cell?_putRow byteV _ w.heap.size 0 _ dk HH0.out (by rw [hF.size, Array.size_replicate]) j (by rw [hF.size]; rw [Lib.decDigits_length] at hj; exact hj))
      rw [Lib.decDigits_length] at h
      exact h
    have hbl := Lib.hid (fin_row w (.cells Lib.zeros24 130) dk k)
    generalize (putRow byteV (w.alloc (.cells Lib.zeros24 130)) w.heap.size 0 dk).drewN k = w2 at *
    clear hfmt HH0 hpow hF
    go_wp2
    go_ret
    exact ⟨rfl, hbl.out⟩
theorem fmtU_any (u : Nat) (hu64 : u < 18446744073709551616) (a : Addr) (w : World) (hE : Env a w) :
    Calls Tryz.prog 77 #[.int .u64 u, .int .i64 10] w fun e w' => e = .returned (str (Lib.decDigits u)) ∧ Bl w w' := by
  have hF := fmtI_any u hu64 a w hE
  go_enter Tryz.func77, Tryz.ntmps77
  go_wp2_with fail
  refine hF.mono ?_
  rintro e w' ⟨rfl, k⟩
  have K := Lib.hid k
  clear k hF
  go_wp2
  go_ret
  exact ⟨rfl, K.out⟩
/-! The reference's numerals. -/
theorem itoa_len' (u : Nat) (hu64 : u < 18446744073709551616) : (Lib.decDigits u).length ≤ 21 := by
  rw [Lib.decDigits_length]
  rcases Nat.eq_zero_or_pos u with h | h
  · subst h
    rw [Lib.nDigits_small (by omega)]
    omega
  · have := Lib.numDigits_eq u h hu64
    split at this <;> omega
theorem dec_snoc (u : Nat) (h : 10 ≤ u) : Lib.decDigits u = Lib.decDigits (u / 10) ++ [UInt8.ofNat (48 + u % 10)] := by
  conv => lhs; rw [Lib.decDigits]
  rw [dif_neg (by omega)]
theorem digit_conv (v : Nat) (w : World) : (convert 38 9 (.slice (some ⟨w.heap.size, 0, none⟩) 1 1)).run Tryz.prog (w.alloc (.cells #[.int .u8 (48 + (v : Int) % 10)] 5)) = .ok (str [UInt8.ofNat (48 + v % 10)]) (w.alloc (.cells #[.int .u8 (48 + (v : Int) % 10)] 5)) := by
  refine run_convert_bytes_back (P := Tryz.prog) _ 38 9 5 ⟨w.heap.size, 0, none⟩ 1 [UInt8.ofNat (48 + v % 10)] Tryz.underlying38 Tryz.underlying5 Tryz.underlying9 (fun j hj => ?_)
  obtain rfl : j = 0 := by simpa using hj
  rw [Lib.add_plain, World.cell?_alloc_new]
  have hb : (UInt8.ofNat (48 + v % 10)).toNat = 48 + v % 10 := by rw [UInt8.toNat_ofNat']; omega
  simp only [List.getElem_cons_zero, hb]
  simp
set_option maxRecDepth 100000 in
set_option maxHeartbeats 2000000 in
theorem udec_any (u : Nat) (hu64 : u < 18446744073709551616) (w : World) :
    Calls Tryz.prog 18 #[.int .u64 u] w fun e w' => e = .returned (str (Lib.decDigits u)) ∧ Bl w w' := by
  have hl : (Lib.decDigits u).length ≤ 21 := by
    have h := itoa_len' u hu64
    exact h
  have HL := Lib.hid hl
  clear hl
  go_enter Tryz.func18, Tryz.ntmps18
  go_wp2_with fail
  go_loopw [0, 3] (fun uv sv wr => ∃ (v : Nat) (t : List UInt8), uv = .int .u64 (v : Int) ∧ sv = str t ∧ v < 18446744073709551616 ∧ Hid (Lib.decDigits u = Lib.decDigits v ++ t) ∧ Hid (Bl w wr)) (fun uv sv wr => (intOf uv).toNat)
  case atStart => exact ⟨u, [], rfl, rfl, hu64, Lib.hid (by simp), Lib.hid (Bl.refl _)⟩
  case round =>
    obtain ⟨v, t, rfl, rfl, hv, HT, KW⟩ := hrel
    have hcv := digit_conv v wr
    have htl : t.length ≤ 21 := by
      have h1 := congrArg List.length HT.out
      rw [List.length_append] at h1
      have := HL.out
      omega
    have hadd := add_run [UInt8.ofNat (48 + v % 10)] t ⟨by simp, by omega⟩
    have hK := KW.out.alloc #[.int .u8 (48 + (v : Int) % 10)] 5
    have K1 := Lib.hid hK
    generalize hd : UInt8.ofNat (48 + v % 10) = d at *
    have HD := Lib.hid hd
    clear hK htl hd
    by_cases h0 : v / 10 = 0
    · have hq : (v : Int) / 10 = 0 := by omega
      have hv10 : v < 10 := by omega
      go_wp2
      go_ret
      refine ⟨?_, K1.out⟩
      rw [HT.out, Lib.decDigits, dif_pos hv10, ← HD.out, Nat.mod_eq_of_lt hv10]
      rfl
    · have hq : ((v : Int) / 10 == 0) = false := by simp; omega
      go_wp2
      go_roundw
      case rel =>
        refine ⟨v / 10, [d] ++ t, by go_num, rfl, by omega, Lib.hid ?_, K1⟩
        rw [HT.out, dec_snoc v (by omega), List.append_assoc, HD.out]
      case measure => simp [intOf] <;> omega
set_option maxHeartbeats 1000000 in
theorem dec_any (n : Int) (hn : -9223372036854775808 ≤ n ∧ n ≤ 9223372036854775807) (w : World) :
    Calls Tryz.prog 28 #[.int .i64 n] w fun e w' => e = .returned (str (Lib.itoa n)) ∧ Bl w w' := by
  by_cases h : n < 0
  · obtain ⟨u, rfl⟩ : ∃ u : Nat, n = -(u : Int) := ⟨n.natAbs, by omega⟩
    have hU := udec_any u (by omega) w
    have hl := itoa_len' u (by omega)
    have hadd := add_run [45] (Lib.decDigits u) ⟨by simp, by omega⟩
    rw [Lib.itoa_neg u (by omega)]
    generalize Lib.decDigits u = ds at *
    clear hl
    have hw : IntKind.u64.wrap (IntKind.u64.wrap (-(-(u : Int) + 1)) + 1) = (u : Int) := by simp only [IntKind.wrap_u64]; omega
    go_enter Tryz.func28, Tryz.ntmps28
    go_wp2_with fail
    rw [show (-(-(u : Int) + 1) + 1) = (u : Int) by omega]
    refine hU.mono ?_
    rintro e w' ⟨rfl, k⟩
    have K := Lib.hid k
    clear k hU
    go_wp2
    go_ret
    exact ⟨rfl, K.out⟩
  · obtain ⟨u, rfl⟩ : ∃ u : Nat, n = (u : Int) := ⟨n.toNat, by omega⟩
    have hU := udec_any u (by omega) w
    rw [Lib.itoa_nonneg]
    generalize Lib.decDigits u = ds at *
    go_enter Tryz.func28, Tryz.ntmps28
    go_wp2_with fail
    refine hU.mono ?_
    rintro e w' ⟨rfl, k⟩
    have K := Lib.hid k
    clear k hU
    go_wp2
    go_ret
    exact ⟨rfl, K.out⟩
set_option maxHeartbeats 1000000 in
theorem x_any (n : Int) (hn : -9223372036854775808 ≤ n ∧ n ≤ 9223372036854775807) (w : World) :
    Calls Tryz.prog 29 #[.int .i64 n] w fun e w' => e = .returned (str (120 :: Lib.itoa n)) ∧ Bl w w' := by
  have hU := dec_any n hn w
  have hl := itoa_len n hn
  have hadd := add_run [120] (Lib.itoa n) ⟨by simp, by omega⟩
  generalize Lib.itoa n = ds at *
  clear hl
  go_enter Tryz.func29, Tryz.ntmps29
  go_wp2_with fail
  refine hU.mono ?_
  rintro e w' ⟨rfl, k⟩
  have K := Lib.hid k
  clear k hU
  go_wp2
  go_ret
  exact ⟨rfl, K.out⟩

end Go.Proofs.YtionnhjldcpmjaaGreatDoor
