/-
  For every place and every list of bytes: what is laid beyond all places is not there, and what is laid at the last three is there as far as there are places; no more than one page is held: the law PageFar returns true. No condition.
-/
import Derived.Test.YtdfjgfioocdogaaRows
import Derived.Test.YtdfjgfioocdogaaPageL
import Derived.WalkKit
import Derived.ProofKit
import Derived.OpenShut
import Derived.ShutString
import Derived.ChangeOld
import Derived.Below
namespace Go.Proofs.Ytdfjgfioocdogaa.pageFar
open Go.ChangeShapes Go.WideShapes Go.ChangeAt Go.RowKit
open Go.ChangeMaps (open_string shut_string)
set_option linter.unusedVariables false

theorem own : ownKnob Try.prog.godebug = none := by kernel_rfl
theorem laidOut : laidOutB Try.prog = true := by kernel_rfl

/-- WHAT THE WALK IS TOLD OF A SLICE OF INTEGERS THAT CAME IN: it is nil; or it leads to a row of 'cap' cells, the numbers 'zs' (the first 'len' are its elements, the rest its spare room), each fitting its kind. -/
def IsRow (k : IntKind) (w : World) (a : Option Addr) (len cap : Nat) (zs : List Int) : Prop :=
  (a = none ∧ len = 0 ∧ cap = 0 ∧ zs = []) ∨
  ∃ x, a = some x ∧ len ≤ cap ∧ cap ≤ maxLen ∧ zs.length = cap ∧ (∀ i, i < zs.length → w.cell? (x.add i) = some (.int k (zs.getD i 0))) ∧ ∀ n ∈ zs, (Lit.int k n).wf = true

theorem lessBl {S : Nat → Prop} {w w' : World} {sb n k : Nat} {f : Nat → Option Nat} {M : Nat → Int} (h : StoreAt S w sb n f k M) (bl : Bl w w') : StoreAt (less S w.heap.size) w' sb n f k M :=
  (h.among (T := less S w.heap.size) (fun b hb hS => ⟨hS, by omega⟩)).bl bl
theorem cnt_le (f : Nat → Option Nat) (a m : Nat) : cnt f a m ≤ m := by
  induction m with
  | zero => exact Nat.le_refl _
  | succ m ih => simp only [cnt]; split <;> omega
theorem topped_le (b : Int) : topped b ≤ 274877906944 := by unfold topped; split <;> omega
theorem held_zero {f f' : Nat → Option Nat} {k k' a : Nat} (h : Held f f' k k' a 0) : k' = k ∧ ∀ p, (f' p).isSome = (f p).isSome :=
  ⟨h.count, fun p => by rw [h.some_ p, decide_eq_false (by omega)]; simp⟩
theorem cell_add (g i : Nat) : (⟨g, 0, none⟩ : Addr).add i = ⟨g, i, none⟩ := by unfold Addr.add; split <;> simp_all
theorem last3 (xs : List Int) (len i : Nat) (hl : xs.length = len) (h : i < len) : lay (fun _ => 0) 274877906941 (xs.take (room 274877906941 len)) (274877906941 + i) = if i < 3 then xs.getD i 0 else 0 := by
  have hr : room 274877906941 len = min len 3 := rfl
  rw [hr]
  by_cases h3 : i < 3
  · rw [if_pos h3, lay_at _ _ _ _ (by rw [List.length_take]; omega), List.getD_eq_getElem?_getD, List.getD_eq_getElem?_getD, List.getElem?_take_of_lt (by omega)]
  · rw [if_neg h3, lay_out _ _ _ _ (by right; rw [List.length_take]; omega)]

/-! ### The walk: the Go text returns true -/
set_option maxHeartbeats 4000000 in
theorem walk (a0 : Int) (a1 : Option Addr) (len1 cap1 : Nat) (z1 : List Int) (w : World) (w0 : (Lit.int .u64 a0).wf = true) (w1 : IsRow .u8 w a1 len1 cap1 z1) :
    Calls Try.prog 5 #[.int .u64 a0, .slice a1 len1 cap1] w fun e w' => e = .returned (.bool true) ∧ Below w.heap.size w w' := by
  obtain ⟨hr, hl, hc, hlc, hblk⟩ := isRow_rd (show IsRow' .u8 w a1 len1 cap1 z1 from w1)
  clear w1
  generalize z1.take len1 = xs at *
  obtain ⟨ha0, ha1⟩ := u64_bounds w0
  clear w0
  by_cases hbig : 500 < len1
  · have hbI : (500 : Int) < (len1 : Int) := by omega
    clear hr hl hc hlc hblk hbig
    go_enter Try.func5, Try.ntmps5
    go_wp2_with fail
    refine (new_any (from_ w.heap.size) w (Nat.le_refl _)).mono ?_
    rintro e u1 ⟨rfl, _, bl1, _⟩
    unfold addr0
    have BL1 := Lib.hid bl1; clear bl1
    go_wp2_with fail
    refine (answers_any _).mono ?_
    rintro e u2 ⟨rfl, bl2⟩
    have BL2 := Lib.hid bl2; clear bl2
    go_wp2_with fail
    refine (answers_any _).mono ?_
    rintro e u3 ⟨rfl, bl3⟩
    go_wp2_with fail
    go_ret
    exact ⟨rfl, (BL1.out.trans BL2.out).trans bl3⟩
  · have hsm : (len1 : Int) ≤ 500 := by omega
    have hsmN : len1 ≤ 500 := by omega
    have hout : 0 < len1 → ∀ ad, a1 = some ad → ¬ from_ w.heap.size ad.block := fun h0 ad had hs => Nat.not_le_of_lt (hblk ad had (by omega)) hs
    clear hbig hblk
    have HR := Lib.hid hr; clear hr
    have HL := Lib.hid hl; clear hl
    have HC := Lib.hid hc; clear hc
    have HO := Lib.hid hout; clear hout
    by_cases hat : a0 < 274877906944
    · go_enter Try.func5, Try.ntmps5
      go_wp2_with fail
      refine (new_any (from_ w.heap.size) w (Nat.le_refl _)).mono ?_
      rintro e u1 ⟨rfl, h1, bl1, _⟩
      unfold addr0
      have BL1 := Lib.hid bl1; clear bl1
      have H1 := Lib.hid h1; clear h1
      go_wp2_with fail
      refine (answers_any _).mono ?_
      rintro e u2 ⟨rfl, bl2⟩
      have BL2 := Lib.hid bl2; clear bl2
      go_wp2_with fail
      obtain ⟨fa, hfa⟩ : ∃ fa : Nat, (fa : Int) = a0 + 274877906944 := ⟨(a0 + 274877906944).toNat, by omega⟩
      rw [← hfa]
      have hfI : (274877906944 : Int) ≤ (fa : Int) := by omega
      have hfI2 : (fa : Int) ≤ 18446744073709551615 := by omega
      clear hfa hat ha0 ha1
      have bl2 := BL1.out.trans BL2.out
      have st2 := H1.out.bl BL2.out
      have hS2 : ∀ b, u2.heap.size ≤ b → from_ w.heap.size b := fun b hb => Nat.le_trans bl2.size hb
      refine (write_any st2 fa a1 len1 cap1 xs (HR.out.below bl2) HL.out hlc HO.out (by omega) (by omega) (by decide) hS2).mono ?_
      rintro e u3 ⟨rfl, f3, k3, h3, fr3, held3⟩
      have hroom : room fa len1 = 0 := by unfold room; omega
      rw [hroom, List.take_zero] at h3 held3
      rw [lay_nil] at h3
      obtain ⟨hk3, hf3⟩ := held_zero held3
      have fr3' := (Fr.of_bl (S := from_ w.heap.size) bl2).trans fr3
      have H3 := Lib.hid h3; clear h3 st2 hS2 hroom held3 fr3 bl2
      have FR3 := Lib.hid fr3'; clear fr3'
      have HK3 := Lib.hid hk3; clear hk3
      have HF3 := Lib.hid hf3; clear hf3
      go_wp2_with fail
      refine (clear_empty _ _ (Int.le_trans (topped_le _) hfI)).mono ?_
      rintro e u4 ⟨rfl, bl4⟩
      have h4 := H3.out.bl bl4
      have fr4 := FR3.out.trans (Fr.of_bl bl4)
      have H4 := Lib.hid h4; clear h4 bl4
      have FR4 := Lib.hid fr4; clear fr4
      go_wp2_with fail
      refine (read_any H4.out fa 9 (by omega) (by decide) (by decide)).mono ?_
      rintro e u5 ⟨rfl, hg5, bl5⟩
      rw [bytesAt_zero _ _ _ (fun _ _ => rfl)] at hg5
      have fr5 := FR4.out.trans (Fr.of_bl bl5)
      have h5 := lessBl H4.out bl5
      have hgx := lt_at hg5
      have hS5 : ∀ b, u5.heap.size ≤ b → less (from_ w.heap.size) u4.heap.size b := fun b hb => ⟨Nat.le_trans FR4.out.size (by omega), by omega⟩
      have hO5 : 0 < len1 → ∀ ad, a1 = some ad → ¬ less (from_ w.heap.size) u4.heap.size ad.block := fun h0 ad had hs => HO.out h0 ad had hs.1
      have rd5 := HR.out.below (fr5.bl (fun k hk hs => Nat.not_le_of_lt hk hs))
      have H5 := Lib.hid h5; clear h5 bl5
      have FR5 := Lib.hid fr5; clear fr5
      have HG5 := Lib.hid hg5; clear hg5
      have HGX := Lib.hid hgx; clear hgx
      have HS5 := Lib.hid hS5; clear hS5
      have HO5 := Lib.hid hO5; clear hO5
      have RD5 := Lib.hid rd5; clear rd5
      go_wp2_with fail
      refine (write_any H5.out 274877906941 a1 len1 cap1 xs RD5.out HL.out hlc HO5.out (by decide) (by omega) (by show 0 + 2 * pagesOf fa 0 < _; simp [pagesOf]) HS5.out).mono ?_
      rintro e u6 ⟨rfl, f6, k6, h6, fr6, held6⟩
      have hk6 : k6 ≤ 1 := by
        have h1 := held6.count
        have h2 := cnt_le f3 (274877906941 / 4096) (pagesOf 274877906941 (xs.take (room 274877906941 len1)).length)
        have h3 : (xs.take (room 274877906941 len1)).length ≤ 3 := by
          rw [List.length_take]
          have : room 274877906941 len1 ≤ 274877906944 - 274877906941 := Nat.min_le_right _ _
          omega
        have h4 : pagesOf 274877906941 (xs.take (room 274877906941 len1)).length ≤ 1 := by unfold pagesOf; split <;> omega
        have h5 := HK3.out
        omega
      have fr6' := FR5.out.trans (fr6.mono fun _ _ e => e.1)
      have hx6 := fr6.at_ HG5.out (fun e => e.2 rfl)
      have hk6I : (k6 : Int) ≤ 1 := by omega
      have H6 := Lib.hid h6; clear h6 held6 fr6 hk6
      have FR6 := Lib.hid fr6'; clear fr6'
      have HX6 := Lib.hid hx6; clear hx6 HG5 HGX HS5 HO5 RD5 H5 FR5 H4 FR4 H3 FR3 HK3 HF3
      by_cases hz : len1 = 0
      · subst hz
        go_wp2_with fail
        refine (read_none _ _ (by left; decide)).mono ?_
        rintro e u7 ⟨rfl, rfl⟩
        have blu := FR6.out.bl (fun k hk hs => Nat.not_le_of_lt hk hs)
        have BLU := Lib.hid blu; clear blu
        obtain ⟨U, hU⟩ : ∃ U, U = u6 := ⟨_, rfl⟩
        subst hU
        have HU := H6
        have HXU := HX6
        go_wp2_with fail
        refine wp_loop_rounds 1 ?_
        rw [rounds_succ]
        go_wp2_with fail
        go_loopw [11] (fun i wr => ∃ k : Nat, k ≤ 9 ∧ i = .int .i64 k ∧ U = wr) (fun i _ => 9 - (intOf i).toNat)
        case atStart => exact ⟨0, by omega, rfl, rfl⟩
        case round =>
          obtain ⟨k, hk, rfl, rfl⟩ := hrel
          by_cases hlt : k < 9
          · have hcx := row_cell HXU.out k (by simpa using hlt)
            rw [List.getD_eq_getElem?_getD, List.getElem?_replicate, if_pos hlt] at hcx
            simp only [Option.getD_some] at hcx
            have hkI : (k : Int) < 9 := by omega
            go_wp2_with fail
            refine ⟨⟨k + 1, by omega, by go_num, by first | trivial | rfl⟩, ?_⟩
            simp only [intOf]; omega
          · obtain rfl : k = 9 := by omega
            go_wp2_with fail
            refine (held_any HU.out).mono ?_
            rintro e u9 ⟨rfl, rfl⟩
            go_wp2_with fail
            go_ret
            exact ⟨rfl, BLU.out⟩
      · go_wp2_with fail
        refine (read_any H6.out 274877906941 len1 (by decide) (by omega) (by omega)).mono ?_
        rintro e u7 ⟨rfl, hg7, bl7⟩
        have blu := (FR6.out.bl (fun k hk hs => Nat.not_le_of_lt hk hs)).trans bl7
        have rdu := HR.out.below blu
        have hu := H6.out.bl bl7
        have hxu := bl7.at_ HX6.out
        have BLU := Lib.hid blu; clear blu bl7
        have HU := Lib.hid hu; clear hu H6
        have HXU := Lib.hid hxu; clear hxu HX6 FR6
        have HG7 := Lib.hid hg7; clear hg7
        have RDU := Lib.hid rdu; clear rdu
        obtain ⟨U, hU⟩ : ∃ U, U = u7 := ⟨_, rfl⟩
        subst hU
        go_wp2_with fail
        go_loopw [9, 10] (fun i _ wr => ∃ k : Nat, k ≤ len1 ∧ i = .int .i64 k ∧ U = wr) (fun i _ _ => len1 - (intOf i).toNat)
        case atStart => exact ⟨0, by omega, rfl, rfl⟩
        case round =>
          obtain ⟨k, hk, rfl, rfl⟩ := hrel
          by_cases hlt : k < len1
          · have hcy := row_cell HG7.out k (by rw [bytesAt_length]; exact hlt)
            rw [bytesAt_getD _ _ _ _ hlt, last3 xs len1 k HL.out hlt] at hcy
            obtain ⟨bb, off, hA, hcell⟩ := RDU.out.at_ k (by rw [HL.out]; exact hlt)
            subst hA
            have hkI : (k : Int) < (len1 : Int) := by omega
            by_cases h3 : k < 3
            · rw [if_pos h3] at hcy
              have h3I : (k : Int) < 3 := by omega
              generalize xs.getD k 0 = z at *
              clear h3
              go_wp2_with fail
              refine ⟨⟨k + 1, by omega, by go_num, by first | trivial | rfl⟩, ?_⟩
              simp only [intOf]; omega
            · rw [if_neg h3] at hcy
              have h3I : (3 : Int) ≤ (k : Int) := by omega
              clear h3 hcell
              go_wp2_with fail
              refine ⟨⟨k + 1, by omega, by go_num, by first | trivial | rfl⟩, ?_⟩
              simp only [intOf]; omega
          · obtain rfl : k = len1 := by omega
            go_wp2_with fail
            go_loopw [11] (fun i wr => ∃ k : Nat, k ≤ 9 ∧ i = .int .i64 k ∧ U = wr) (fun i _ => 9 - (intOf i).toNat)
            case atStart => exact ⟨0, by omega, rfl, rfl⟩
            case round =>
              obtain ⟨k, hk, rfl, rfl⟩ := hrel
              by_cases hlt : k < 9
              · have hcx := row_cell HXU.out k (by simpa using hlt)
                rw [List.getD_eq_getElem?_getD, List.getElem?_replicate, if_pos hlt] at hcx
                simp only [Option.getD_some] at hcx
                have hkI : (k : Int) < 9 := by omega
                go_wp2_with fail
                refine ⟨⟨k + 1, by omega, by go_num, by first | trivial | rfl⟩, ?_⟩
                simp only [intOf]; omega
              · obtain rfl : k = 9 := by omega
                go_wp2_with fail
                refine (held_any HU.out).mono ?_
                rintro e u9 ⟨rfl, rfl⟩
                go_wp2_with fail
                go_ret
                exact ⟨rfl, BLU.out⟩
    · go_enter Try.func5, Try.ntmps5
      go_wp2_with fail
      refine (new_any (from_ w.heap.size) w (Nat.le_refl _)).mono ?_
      rintro e u1 ⟨rfl, h1, bl1, _⟩
      unfold addr0
      have BL1 := Lib.hid bl1; clear bl1
      have H1 := Lib.hid h1; clear h1
      go_wp2_with fail
      refine (answers_any _).mono ?_
      rintro e u2 ⟨rfl, bl2⟩
      have BL2 := Lib.hid bl2; clear bl2
      go_wp2_with fail
      obtain ⟨fa, hfa⟩ : ∃ fa : Nat, (fa : Int) = a0 := ⟨(a0).toNat, by omega⟩
      rw [← hfa]
      have hfI : (274877906944 : Int) ≤ (fa : Int) := by omega
      have hfI2 : (fa : Int) ≤ 18446744073709551615 := by omega
      clear hfa hat ha0 ha1
      have bl2 := BL1.out.trans BL2.out
      have st2 := H1.out.bl BL2.out
      have hS2 : ∀ b, u2.heap.size ≤ b → from_ w.heap.size b := fun b hb => Nat.le_trans bl2.size hb
      refine (write_any st2 fa a1 len1 cap1 xs (HR.out.below bl2) HL.out hlc HO.out (by omega) (by omega) (by decide) hS2).mono ?_
      rintro e u3 ⟨rfl, f3, k3, h3, fr3, held3⟩
      have hroom : room fa len1 = 0 := by unfold room; omega
      rw [hroom, List.take_zero] at h3 held3
      rw [lay_nil] at h3
      obtain ⟨hk3, hf3⟩ := held_zero held3
      have fr3' := (Fr.of_bl (S := from_ w.heap.size) bl2).trans fr3
      have H3 := Lib.hid h3; clear h3 st2 hS2 hroom held3 fr3 bl2
      have FR3 := Lib.hid fr3'; clear fr3'
      have HK3 := Lib.hid hk3; clear hk3
      have HF3 := Lib.hid hf3; clear hf3
      go_wp2_with fail
      refine (clear_empty _ _ (Int.le_trans (topped_le _) hfI)).mono ?_
      rintro e u4 ⟨rfl, bl4⟩
      have h4 := H3.out.bl bl4
      have fr4 := FR3.out.trans (Fr.of_bl bl4)
      have H4 := Lib.hid h4; clear h4 bl4
      have FR4 := Lib.hid fr4; clear fr4
      go_wp2_with fail
      refine (read_any H4.out fa 9 (by omega) (by decide) (by decide)).mono ?_
      rintro e u5 ⟨rfl, hg5, bl5⟩
      rw [bytesAt_zero _ _ _ (fun _ _ => rfl)] at hg5
      have fr5 := FR4.out.trans (Fr.of_bl bl5)
      have h5 := lessBl H4.out bl5
      have hgx := lt_at hg5
      have hS5 : ∀ b, u5.heap.size ≤ b → less (from_ w.heap.size) u4.heap.size b := fun b hb => ⟨Nat.le_trans FR4.out.size (by omega), by omega⟩
      have hO5 : 0 < len1 → ∀ ad, a1 = some ad → ¬ less (from_ w.heap.size) u4.heap.size ad.block := fun h0 ad had hs => HO.out h0 ad had hs.1
      have rd5 := HR.out.below (fr5.bl (fun k hk hs => Nat.not_le_of_lt hk hs))
      have H5 := Lib.hid h5; clear h5 bl5
      have FR5 := Lib.hid fr5; clear fr5
      have HG5 := Lib.hid hg5; clear hg5
      have HGX := Lib.hid hgx; clear hgx
      have HS5 := Lib.hid hS5; clear hS5
      have HO5 := Lib.hid hO5; clear hO5
      have RD5 := Lib.hid rd5; clear rd5
      go_wp2_with fail
      refine (write_any H5.out 274877906941 a1 len1 cap1 xs RD5.out HL.out hlc HO5.out (by decide) (by omega) (by show 0 + 2 * pagesOf fa 0 < _; simp [pagesOf]) HS5.out).mono ?_
      rintro e u6 ⟨rfl, f6, k6, h6, fr6, held6⟩
      have hk6 : k6 ≤ 1 := by
        have h1 := held6.count
        have h2 := cnt_le f3 (274877906941 / 4096) (pagesOf 274877906941 (xs.take (room 274877906941 len1)).length)
        have h3 : (xs.take (room 274877906941 len1)).length ≤ 3 := by
          rw [List.length_take]
          have : room 274877906941 len1 ≤ 274877906944 - 274877906941 := Nat.min_le_right _ _
          omega
        have h4 : pagesOf 274877906941 (xs.take (room 274877906941 len1)).length ≤ 1 := by unfold pagesOf; split <;> omega
        have h5 := HK3.out
        omega
      have fr6' := FR5.out.trans (fr6.mono fun _ _ e => e.1)
      have hx6 := fr6.at_ HG5.out (fun e => e.2 rfl)
      have hk6I : (k6 : Int) ≤ 1 := by omega
      have H6 := Lib.hid h6; clear h6 held6 fr6 hk6
      have FR6 := Lib.hid fr6'; clear fr6'
      have HX6 := Lib.hid hx6; clear hx6 HG5 HGX HS5 HO5 RD5 H5 FR5 H4 FR4 H3 FR3 HK3 HF3
      by_cases hz : len1 = 0
      · subst hz
        go_wp2_with fail
        refine (read_none _ _ (by left; decide)).mono ?_
        rintro e u7 ⟨rfl, rfl⟩
        have blu := FR6.out.bl (fun k hk hs => Nat.not_le_of_lt hk hs)
        have BLU := Lib.hid blu; clear blu
        obtain ⟨U, hU⟩ : ∃ U, U = u6 := ⟨_, rfl⟩
        subst hU
        have HU := H6
        have HXU := HX6
        go_wp2_with fail
        refine wp_loop_rounds 1 ?_
        rw [rounds_succ]
        go_wp2_with fail
        go_loopw [11] (fun i wr => ∃ k : Nat, k ≤ 9 ∧ i = .int .i64 k ∧ U = wr) (fun i _ => 9 - (intOf i).toNat)
        case atStart => exact ⟨0, by omega, rfl, rfl⟩
        case round =>
          obtain ⟨k, hk, rfl, rfl⟩ := hrel
          by_cases hlt : k < 9
          · have hcx := row_cell HXU.out k (by simpa using hlt)
            rw [List.getD_eq_getElem?_getD, List.getElem?_replicate, if_pos hlt] at hcx
            simp only [Option.getD_some] at hcx
            have hkI : (k : Int) < 9 := by omega
            go_wp2_with fail
            refine ⟨⟨k + 1, by omega, by go_num, by first | trivial | rfl⟩, ?_⟩
            simp only [intOf]; omega
          · obtain rfl : k = 9 := by omega
            go_wp2_with fail
            refine (held_any HU.out).mono ?_
            rintro e u9 ⟨rfl, rfl⟩
            go_wp2_with fail
            go_ret
            exact ⟨rfl, BLU.out⟩
      · go_wp2_with fail
        refine (read_any H6.out 274877906941 len1 (by decide) (by omega) (by omega)).mono ?_
        rintro e u7 ⟨rfl, hg7, bl7⟩
        have blu := (FR6.out.bl (fun k hk hs => Nat.not_le_of_lt hk hs)).trans bl7
        have rdu := HR.out.below blu
        have hu := H6.out.bl bl7
        have hxu := bl7.at_ HX6.out
        have BLU := Lib.hid blu; clear blu bl7
        have HU := Lib.hid hu; clear hu H6
        have HXU := Lib.hid hxu; clear hxu HX6 FR6
        have HG7 := Lib.hid hg7; clear hg7
        have RDU := Lib.hid rdu; clear rdu
        obtain ⟨U, hU⟩ : ∃ U, U = u7 := ⟨_, rfl⟩
        subst hU
        go_wp2_with fail
        go_loopw [9, 10] (fun i _ wr => ∃ k : Nat, k ≤ len1 ∧ i = .int .i64 k ∧ U = wr) (fun i _ _ => len1 - (intOf i).toNat)
        case atStart => exact ⟨0, by omega, rfl, rfl⟩
        case round =>
          obtain ⟨k, hk, rfl, rfl⟩ := hrel
          by_cases hlt : k < len1
          · have hcy := row_cell HG7.out k (by rw [bytesAt_length]; exact hlt)
            rw [bytesAt_getD _ _ _ _ hlt, last3 xs len1 k HL.out hlt] at hcy
            obtain ⟨bb, off, hA, hcell⟩ := RDU.out.at_ k (by rw [HL.out]; exact hlt)
            subst hA
            have hkI : (k : Int) < (len1 : Int) := by omega
            by_cases h3 : k < 3
            · rw [if_pos h3] at hcy
              have h3I : (k : Int) < 3 := by omega
              generalize xs.getD k 0 = z at *
              clear h3
              go_wp2_with fail
              refine ⟨⟨k + 1, by omega, by go_num, by first | trivial | rfl⟩, ?_⟩
              simp only [intOf]; omega
            · rw [if_neg h3] at hcy
              have h3I : (3 : Int) ≤ (k : Int) := by omega
              clear h3 hcell
              go_wp2_with fail
              refine ⟨⟨k + 1, by omega, by go_num, by first | trivial | rfl⟩, ?_⟩
              simp only [intOf]; omega
          · obtain rfl : k = len1 := by omega
            go_wp2_with fail
            go_loopw [11] (fun i wr => ∃ k : Nat, k ≤ 9 ∧ i = .int .i64 k ∧ U = wr) (fun i _ => 9 - (intOf i).toNat)
            case atStart => exact ⟨0, by omega, rfl, rfl⟩
            case round =>
              obtain ⟨k, hk, rfl, rfl⟩ := hrel
              by_cases hlt : k < 9
              · have hcx := row_cell HXU.out k (by simpa using hlt)
                rw [List.getD_eq_getElem?_getD, List.getElem?_replicate, if_pos hlt] at hcx
                simp only [Option.getD_some] at hcx
                have hkI : (k : Int) < 9 := by omega
                go_wp2_with fail
                refine ⟨⟨k + 1, by omega, by go_num, by first | trivial | rfl⟩, ?_⟩
                simp only [intOf]; omega
              · obtain rfl : k = 9 := by omega
                go_wp2_with fail
                refine (held_any HU.out).mono ?_
                rintro e u9 ⟨rfl, rfl⟩
                go_wp2_with fail
                go_ret
                exact ⟨rfl, BLU.out⟩

/-! ### The row's step -/
set_option maxRecDepth 100000 in
theorem lifted (os : Os) (started : os.Started) (H : Type) (enc : TypeId × Value → H) :
    ReturnsInHanded {} Try.checked os 5 .any (Rows.pageFarSpec.pre6 enc Try.prog Try.f5 Rows.pageFarRow.domain false) (Rows.pageFarSpec.post enc Try.prog Try.f5 false true false false) := by
  refine returnsInHanded_of_change (C := Try.checked) own started (by kernel_rfl) Try.func5
    (ChangeSpec.witness6 (enc := enc) (C := Try.checked) false ⟨#[], #[.int .u64 0, .slice none 0 0], []⟩ 8 (by kernel_rfl) (by kernel_rfl) (by kernel_rfl) (by kernel_rfl)) ?_
  intro W base args ds gs before hval0 hW hcnd _
  have hval : ∀ (j : Nat) t v, Try.f5.params[j]? = some t → args[j]? = some v → Value.okWide Try.prog W .any base t v := hval0
  have hW' := hW
  obtain ⟨p, q, hA0, hV, rfl, hfz, hnd⟩ := hW
  have hA : DataW.TrodAll enc Try.prog W 0 (fun _ => true) true Try.f5.params.toList args.toList ds p := hA0
  rw [Try.params5] at hA hval
  obtain ⟨v0, vs0, d0, ds0, p0, q0, hargs, rfl, rfl, h0, r0⟩ := trodAll_cons hA
  obtain ⟨v1, vs1, d1, ds1, p1, q1, rfl, rfl, rfl, h1, r1⟩ := trodAll_cons r0
  obtain ⟨rfl, rfl, rfl⟩ := trodAll_nil r1
  obtain rfl : args = #[v0, v1] := by cases args; simp_all
  obtain ⟨rfl, rfl⟩ := trodVars_none hV
  obtain ⟨a0, rfl, rfl, rfl, w0⟩ := open_int Try.underlying27 (hval 0 27 v0 rfl rfl) h0
  obtain ⟨a1, len1, cap1, rfl⟩ := okWide_slice Try.underlying29 (hval 1 29 v1 rfl rfl)
  have k1 := h1
  have lt1 : ∀ x ∈ p1, x.block < W.heap.size := by obtain ⟨m, hm⟩ := k1; exact DataW.trod_lt m _ _ _ hm
  obtain ⟨z1, w1⟩ : ∃ zs, IsRow .u8 W a1 len1 cap1 zs := by
    obtain ⟨fuel, hf⟩ := h1
    rcases open_ints Try.underlying29 Try.underlying5 (by kernel_rfl) hf with ⟨hcs, _⟩ | ⟨x, l, c, zs, hcs, _, hl, hm, hz, _, hcell, hwz⟩
    · simp [Value.cells] at hcs
      obtain ⟨rfl, rfl, rfl⟩ := hcs
      exact ⟨[], .inl ⟨rfl, rfl, rfl, rfl⟩⟩
    · simp [Value.cells] at hcs
      obtain ⟨rfl, rfl, rfl⟩ := hcs
      exact ⟨zs, .inr ⟨_, rfl, hl, hm, by simpa using hz, hcell, hwz⟩⟩
  clear hA0 hval0
  refine (walk a0 a1 len1 cap1 z1 W w0 w1).mono fun e W' ⟨he, bel⟩ => ?_
  subst he
  exact ⟨_, rfl, _, _, _, [], _, [], hW', trodAll_mk1 (shut_bool Try.underlying4 _), (trodAll_cons_mk (shut_int Try.underlying27 w0) (trodAll_cons_mk (Below.trod laidOut (by kernel_rfl) (of_decide_eq_true (by kernel_rfl)) k1 bel lt1) trodAll_mk0)), rfl, bel.frame _, fun h => by cases h⟩

theorem over : Rows.pageFarRow.holds Try.pinned (OpenSpec.ofChange Rows.pageFarSpec) :=
  OpenClaim.holds_of_wide 5 Try.f5 rfl rfl rfl rfl rfl rfl rfl ⟨rfl, rfl, rfl, rfl, rfl⟩ rfl rfl rfl rfl rfl (by kernel_rfl) Try.func5 (by kernel_rfl)
    (of_decide_eq_true (by kernel_rfl)) (by unfold Func.isWrapper; first | (rw [if_pos (by decide +kernel)]; kernel_rfl) | (rw [if_neg (by decide +kernel)]; exact ⟨rfl, rfl⟩))
    (fun os started H enc _ => lifted os started H enc)

/-- The statement. -/
theorem proved : Rows.PageFarSaid := over
end Go.Proofs.Ytdfjgfioocdogaa.pageFar

namespace Go.Proofs.Ytdfjgfioocdogaa
/-- The statement, proved. -/
theorem pageFar_holds : Rows.PageFarSaid := pageFar.proved
#print axioms pageFar_holds
end Go.Proofs.Ytdfjgfioocdogaa
