/-
  Text of a space.
-/
import Derived.Test.YtepffglljmekiaaGreatQ44
set_option linter.unusedVariables false
set_option linter.unusedSimpArgs false
namespace Go.Proofs.YtepffglljmekiaaGreat
open Go.RowKit
set_option maxRecDepth 100000
theorem index_lt (l : List UInt8) (c : UInt8) : Lib.indexByte l c < l.length := by
  induction l with
  | nil => simp [Lib.indexByte]
  | cons b l ih =>
    unfold Lib.indexByte
    simp only [List.length_cons]
    split
    · omega
    · split <;> omega
theorem index_any {w : World} {A : Option Addr} {len cap : Nat} {xs : List Int} (hp : Plain A len cap) (hr : Rd w A xs) (hl : xs.length = len) : Calls Tryz.prog 61 #[.slice A len cap, .int .u8 0] w fun e w' => ∃ i : Int, e = .returned (.int .i64 i) ∧ -1 ≤ i ∧ i < len ∧ w = w' := by
  rcases hp with ⟨rfl, rfl, rfl⟩ | ⟨b, o, rfl⟩
  · refine (Tryz.bytes_IndexByte_nil 0 w).mono ?_
    rintro e w' ⟨rfl, rfl⟩
    exact ⟨-1, rfl, by omega, by omega, rfl⟩
  · refine (Tryz.bytes_IndexByte b o len cap xs 0 w hl fun i hi => ?_).mono ?_
    · obtain ⟨b', o', e, hc⟩ := hr.at_ i (by omega)
      injection e with e
      injection e with e1 e2
      subst e1 e2
      exact hc
    · rintro e w' ⟨rfl, rfl⟩
      have h1 := Lib.indexByte_ge (Lib.bytesOf xs) (0 : Int).toNat.toUInt8
      have h2 := index_lt (Lib.bytesOf xs) (0 : Int).toNat.toUInt8
      rw [show (Lib.bytesOf xs).length = len by simp [Lib.bytesOf, hl]] at h2
      exact ⟨_, rfl, h1, h2, rfl⟩
theorem own_bl {w w' : World} {base e n : Nat} {v : Value} {xs : List Value} (h : w.ownsRow base e 1 v n xs) (k : Bl w w') : w'.ownsRow base e 1 v n xs := by
  refine ⟨h.1, ?_⟩
  rcases h.2 with h2 | ⟨g, cap, cur, h1, h2, h3, h4⟩
  · exact .inl h2
  · exact .inr ⟨g, cap, cur, h1, h2, k.at_ h3, h4⟩
theorem own_plain {w : World} {base e n : Nat} {v : Value} {xs : List Int} (h : w.ownsRow base e 1 v n (asBytes xs)) : ∃ A c, v = .slice A n c ∧ Plain A n c ∧ Rd w A xs ∧ n = xs.length := by
  obtain ⟨A, c, rfl, hr, hn, hc, _⟩ := Rd.of_own h
  refine ⟨A, c, rfl, ?_, hr, hn⟩
  rcases h.2 with ⟨h1, h2⟩ | ⟨g, cap, cur, h1, _⟩
  · injection h1 with h1 h3 h4
    exact .inl ⟨h1, h3, h4⟩
  · injection h1 with h1 h3 h4
    exact .inr ⟨g, 0, h1⟩
theorem Rd.takeB {w : World} {A : Option Addr} {xs : List Int} (h : Rd w A xs) (d : Nat) : Rd w A (xs.take d) := h.take d
set_option maxHeartbeats 4000000 in
theorem mtext_any {T : Nat → Prop} {w : World} {sb n0 : Nat} {L : List Rg} {M st : Nat → Int} {mo ba en : Int} (h : MS T w sb n0 L M st mo ba en) (a : Nat) (m : Int) (ha : a < 2 ^ 64) (hm : m ≤ 10000) :
    Calls Tryz.prog 20 #[addr0 sb, .int .u64 (a : Int), .int .i64 m] w fun e w' => (∃ (s : ByteArray) (r : Int), e = .returned (.tuple #[.string s, .int .i64 r]) ∧ s.size ≤ 10000) ∧ Bl w w' := by
  obtain ⟨i0, hi0, hz0, hz1, hz2⟩ := info_parts infoByte
  have J0 := Lib.hid hi0; clear hi0
  have J1 := Lib.hid hz0; clear hz0
  have J2 := Lib.hid hz1; clear hz1
  have J3 := Lib.hid hz2; clear hz2
  have H := Lib.hid h; clear h
  unfold addr0
  go_enter Tryz.func20, Tryz.ntmps20
  go_wp2_with fail
  go_loopw [1, 2, 8, 9, 10, 11, 12] (fun v1 v2 v8 _ _ _ _ wr => ∃ (c : Nat) (k : Int) (xs : List Int), v1 = .int .u64 (c : Int) ∧ c < 2 ^ 64 ∧ v2 = .int .i64 k ∧ k ≤ 10000 ∧ wr.ownsRow w.heap.size 5 1 v8 xs.length (asBytes xs) ∧ (xs.length + k ≤ 10000 ∨ (xs.length = 0 ∧ k < 0)) ∧ Bl w wr) (fun _ v2 _ _ _ _ _ _ => (intOf v2).toNat)
  case atStart => exact ⟨a, m, [], rfl, ha, rfl, hm, World.ownsRow_nil _ _ _ _, by simp; omega, Bl.refl _⟩
  case round =>
    obtain ⟨c, k, xs, rfl, hc, rfl, hk, hown, hlen, hbl⟩ := hrel
    by_cases hk0 : 0 < k
    · obtain ⟨d, hd⟩ : ∃ d : Nat, (d : Int) = if 4096 - (c : Int) % 4096 < k then 4096 - (c : Int) % 4096 else k := ⟨(if 4096 - (c : Int) % 4096 < k then 4096 - (c : Int) % 4096 else k).toNat, by split <;> omega⟩
      have hmn : ∀ W', (Builtin.min_ #[3, 3] 3 #[.int .i64 k, .int .i64 (4096 - (c : Int) % 4096)]).run Tryz.prog W' = .ok (.int .i64 (d : Int)) W' := by
        intro W'
        rw [min_run, hd]
      have hd0 : (0 : Int) < (d : Int) := by rw [hd]; split <;> omega
      have hd1 : (d : Int) ≤ k := by rw [hd]; split <;> omega
      have hd2 : (d : Int) ≤ 4096 := by rw [hd]; split <;> omega
      clear hd
      have CR := Lib.hid (fun W => rest_any (c : Int) W (by omega))
      have ci := min_any (H.out.bl hbl) c d hc
      have CI := Lib.hid ci; clear ci
      have HO := Lib.hid hown; clear hown
      have HB := Lib.hid hbl; clear hbl
      have HL : Hid (xs.length + k ≤ 10000) := Lib.hid (by omega); clear hlen
      have hcI : (c : Int) ≤ 18446744073709551615 := by omega
      unfold addr0 at *
      go_wp2_with fail
      refine (CR.out _).mono ?_
      rintro e w' ⟨rfl, rfl⟩
      go_wp2_with fail
      refine CI.out.mono ?_
      rintro e w1 ⟨A, len, cap, r, ys, rfl, hrd, hyl, hlc, hlm, hln, hpl, hbd, k1⟩
      clear CI CR hmn
      have HP : Hid (Plain A len cap) := Lib.hid (by rcases hpl with hpl | ⟨b, hb, _⟩; exact .inl hpl; exact .inr ⟨b, 0, hb⟩)
      have HRD := Lib.hid hrd
      have HYL := Lib.hid hyl
      have HLN : Hid (len ≤ d) := Lib.hid (by omega)
      have hlenI : (len : Int) ≤ 4096 := by omega
      have K1 := Lib.hid k1
      clear hrd hyl hlm hln hpl hbd k1
      by_cases hr0 : r = 0
      · subst hr0
        go_wp2_with fail
        refine (index_any HP.out HRD.out HYL.out).mono ?_
        rintro e w' ⟨i, rfl, i0', i1', rfl⟩
        by_cases hi : 0 ≤ i
        · obtain ⟨j, rfl⟩ := Int.eq_ofNat_of_zero_le hi
          have hs2 := slice29to A len cap j (by omega)
          have HJ : Hid (j ≤ len) := Lib.hid (by omega)
          go_wp2_with (at_builtin; refine wpl_append rfl (.tmp 35) (.tmp 38) 27 rfl w.heap.size 5 i0 Tryz.underlying27 J0.out J1.out J2.out J3.out _ xs.length xs rfl (own_bl HO.out K1.out) A j cap (ys.take j) rfl (HRD.out.take j) (by rw [List.length_take, HYL.out]; have := HJ.out; omega) (fun hA => by rcases HP.out with ⟨_, _, h3⟩ | ⟨b, o, h3⟩; exact h3; rw [hA] at h3; cases h3) (by have := HL.out; have := HJ.out; omega) (Nat.le_trans HB.out.size K1.out.size) ?_; intro v2 w3 hown2 hg2; obtain ⟨A2, c2, rfl, hp2, hr2, hn2⟩ := own_plain hown2; have hcv := conv_str hp2 hr2 hn2.symm; have HN2 := Lib.hid hn2; clear hn2 hown2 hr2)
          have hb3 : Bl w w3 := (HB.out.trans K1.out).grown hg2 (Nat.le_trans HB.out.size K1.out.size) (own_block_ge HO.out)
          go_ret2
          refine ⟨⟨_, _, rfl, ?_⟩, hb3⟩
          rw [nums_size, ← HN2.out]; have := HL.out; have := HJ.out; have := HLN.out; omega
        · have hi2 : i < 0 := by omega
          have hw : IntKind.u64.wrap ((c : Int) + (d : Int)) = (((c + d) % 18446744073709551616 : Nat) : Int) := by rw [IntKind.wrap_u64]; omega
          go_wp2_with (at_builtin; refine wpl_append rfl (.tmp 41) (.tmp 42) 27 rfl w.heap.size 5 i0 Tryz.underlying27 J0.out J1.out J2.out J3.out _ xs.length xs rfl (own_bl HO.out K1.out) A len cap ys rfl HRD.out HYL.out (fun hA => by rcases HP.out with ⟨_, _, h3⟩ | ⟨b, o, h3⟩; exact h3; rw [hA] at h3; cases h3) (by have := HL.out; have := HLN.out; omega) (Nat.le_trans HB.out.size K1.out.size) ?_; intro v2 w3 hown2 hg2)
          have hb3 : Bl w w3 := (HB.out.trans K1.out).grown hg2 (Nat.le_trans HB.out.size K1.out.size) (own_block_ge HO.out)
          refine ⟨⟨(c + d) % 18446744073709551616, k - d, xs ++ ys, congrArg (Value.int .u64) (by omega), by omega, rfl, by omega, by rw [List.length_append, HYL.out]; exact hown2, .inl (by rw [List.length_append, HYL.out]; have := HL.out; have := HLN.out; omega), hb3⟩, by simp only [intOf]; omega⟩
      · have t1 : (r != 0) = true := by simp [hr0]
        clear hr0
        go_wp2_with fail
        go_ret2
        exact ⟨⟨_, _, rfl, by decide⟩, HB.out.trans K1.out⟩
    · have hk1 : k ≤ 0 := by omega
      clear hk0
      go_wp2_with fail
      go_ret2
      exact ⟨⟨_, _, rfl, by decide⟩, hbl⟩
end Go.Proofs.YtepffglljmekiaaGreat
