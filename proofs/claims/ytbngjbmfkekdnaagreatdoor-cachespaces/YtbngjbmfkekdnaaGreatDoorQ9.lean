/-
  What a Fetch answers, told by the regions and the bytes; the contract of the program's Fetch.
  What a call leaves of the memory that was there: all of it, but perhaps one block. Blocks of a struct, of one cell.
  Contracts of the small functions of package inst: a run of bits, a number with a sign, what moves pieces out of a word.
  Contracts of the reference's small functions: bits of a word, a number with a sign, a place in a list.
  A region that draws its order, whose last operations wait for all the others: the head in whatever order, loads first, then the tail as it stands. No program in sight.
  Contracts of the forms' helpers that lay pieces into a word.
  What a form holds while it runs: its own instruction, its result, and what moves pieces.
-/
import Derived.Test.YtbngjbmfkekdnaaGreatDoorQ8
import Derived.Laws.BitsAll
import Derived.Laws.BitsAllLaws
import Derived.Test.YtbngjbmfkekdnaaGreatDoorRows
import Derived.Test.YtbngjbmfkekdnaaGreatDoorQ6
import Derived.WalkKit
import Derived.WalkSpells
import Derived.WalkLawsBesides
import Derived.Lib.Hide
import Derived.Deep.Draws
import Derived.Below
import Derived.Deep.QuietTactic
import Derived.BigQuiet
import Derived.StillTail
import Derived.OrdersHeld
import Derived.Deep.RegionHeld
set_option linter.unusedVariables false
set_option linter.unusedSimpArgs false
namespace Go.Proofs.YtbngjbmfkekdnaaGreatDoor
open Go.RowKit
set_option maxRecDepth 100000
/-- All of n places may be used so. -/
def Cans (L : List Rg) (p a : Int) (n : Nat) : Prop := ∀ y, a ≤ y → y < a + n → Can L p y
/-- The first of some places that lacks p. -/
def FirstBad (L : List Rg) (p a b x : Int) : Prop := a ≤ x ∧ x < b ∧ ¬ Can L p x ∧ ∀ y, a ≤ y → y < x → Can L p y
theorem FirstBad.one {L : List Rg} {p a b x y : Int} (h : FirstBad L p a b x) (k : FirstBad L p a b y) : x = y := by
  obtain ⟨h1, h2, h3, h4⟩ := h
  obtain ⟨k1, k2, k3, k4⟩ := k
  rcases Int.lt_trichotomy x y with e | e | e
  · exact absurd (k4 x h1 e) h3
  · exact e
  · exact absurd (h4 y k1 e) k3
theorem FirstBad.not {L : List Rg} {p a x : Int} {n : Nat} (h : FirstBad L p a (a + n) x) : ¬ Cans L p a n := fun k => h.2.2.1 (k x h.1 h.2.1)
def HalfIs (L : List Rg) (M : Nat → Int) (a : Nat) (y k x : Int) : Prop := (k = 3 ∧ y = 0 ∧ (a : Int) ≤ x ∧ x < a + (2 : Nat) ∧ ¬ Can L 4 x ∧ ∀ y, (a : Int) ≤ y → y < x → Can L 4 y) ∨ (k = 0 ∧ x = 0 ∧ y = numAt M a 2 ∧ ∀ z, (a : Int) ≤ z → z < a + (2 : Nat) → Can L 4 z)
/-- A Fetch's answer: the word, the fault's kind and place. -/
inductive FetchIs (L : List Rg) (M : Nat → Int) (a : Nat) : Int → Int → Int → Prop
  | odd : a % 2 = 1 → FetchIs L M a 0 3 a
  | bad1 (x : Int) : a % 2 = 0 → FirstBad L 4 a (a + (2 : Nat)) x → FetchIs L M a 0 3 x
  | short : a % 2 = 0 → Cans L 4 a 2 → numAt M a 2 % 4 ≠ 3 → FetchIs L M a (numAt M a 2) 0 0
  | bad2 (x : Int) : a % 2 = 0 → Cans L 4 a 2 → numAt M a 2 % 4 = 3 → FirstBad L 4 ((a + 2 : Nat) : Int) (((a + 2 : Nat) : Int) + (2 : Nat)) x → FetchIs L M a 0 3 x
  | long : a % 2 = 0 → Cans L 4 a 2 → Cans L 4 ((a + 2 : Nat) : Int) 2 → numAt M a 2 % 4 = 3 → FetchIs L M a (numAt M a 4) 0 0
def FetchPost (w : World) (L : List Rg) (M : Nat → Int) (a : Nat) (e : Ending) (w' : World) : Prop := ∃ y k x, e = .returned (.tuple #[.int .u32 y, faultV k x]) ∧ FetchIs L M a y k x ∧ Bl w w'
theorem FetchIs.one {L : List Rg} {M : Nat → Int} {a : Nat} {y k x y' k' x' : Int} (h : FetchIs L M a y k x) (g : FetchIs L M a y' k' x') : y = y' ∧ k = k' ∧ x = x' := by
  cases h with
  | odd h1 =>
    cases g with
    | odd => exact ⟨rfl, rfl, rfl⟩
    | bad1 _ g1 _ => omega
    | short g1 => omega
    | bad2 _ g1 => omega
    | long g1 => omega
  | bad1 _ h1 h2 =>
    cases g with
    | odd => omega
    | bad1 _ g1 g2 => exact ⟨rfl, rfl, h2.one g2⟩
    | short _ g2 => exact absurd g2 h2.not
    | bad2 _ _ g2 => exact absurd g2 h2.not
    | long _ g2 => exact absurd g2 h2.not
  | short h1 h2 h3 =>
    cases g with
    | odd => omega
    | bad1 _ g1 g2 => exact absurd h2 g2.not
    | short _ g2 => exact ⟨rfl, rfl, rfl⟩
    | bad2 _ _ g2 g3 => exact absurd g3 h3
    | long _ g2 _ g3 => exact absurd g3 h3
  | bad2 _ h1 h2 h3 h4 =>
    cases g with
    | odd => omega
    | bad1 _ g1 g2 => exact absurd h2 g2.not
    | short _ g2 g3 => exact absurd h3 g3
    | bad2 _ _ g2 g3 g4 => exact ⟨rfl, rfl, h4.one g4⟩
    | long _ g2 g4 g3 => exact absurd g4 h4.not
  | long h1 h2 h4 h3 =>
    cases g with
    | odd => omega
    | bad1 _ g1 g2 => exact absurd h2 g2.not
    | short _ g2 g3 => exact absurd h3 g3
    | bad2 _ _ g2 g3 g4 => exact absurd h4 g4.not
    | long _ g2 g4 g3 => exact ⟨rfl, rfl, rfl⟩
theorem num2_eq (M : Nat → Int) (a : Nat) : numAt M a 2 = M a + M (a + 1) * 256 := by simp [numAt, getS, bytesAt, List.range_succ]
theorem num4_eq (M : Nat → Int) (a : Nat) : numAt M a 4 = M a + M (a + 1) * 256 + M (a + 2) * 65536 + M (a + 3) * 16777216 := by simp [numAt, getS, bytesAt, List.range_succ]
theorem hnum2 {M : Nat → Int} (h : ∀ x, 0 ≤ M x ∧ M x ≤ 255) (a : Nat) : 0 ≤ numAt M a 2 ∧ numAt M a 2 ≤ 65535 := by
  have h1 := h a
  have h2 := h (a + 1)
  rw [num2_eq]; omega
theorem num42 {M : Nat → Int} (a : Nat) : numAt M a 4 = numAt M a 2 + numAt M (a + 2) 2 * 65536 := by
  rw [num4_eq, num2_eq, num2_eq, show a + 2 + 1 = a + 3 from rfl]; omega
theorem and3 {y : Int} (h0 : 0 ≤ y) (h1 : y ≤ 65535) : bits .and .u32 y 3 = y % 4 := by
  obtain ⟨n, rfl⟩ := Int.eq_ofNat_of_zero_le h0
  have h := u32_and_nat n 3 (by omega) (by decide)
  rw [show ((3 : Nat) : Int) = 3 from rfl] at h
  rw [h, show (3 : Nat) = 2 ^ 2 - 1 from rfl, Nat.and_two_pow_sub_one_eq_mod]
  omega
theorem or16 {u v : Int} (h0 : 0 ≤ u) (h1 : u ≤ 65535) (h2 : 0 ≤ v) (h3 : v ≤ 65535) : bits .or .u32 (u * 65536 % 4294967296) v = v + u * 65536 := by
  obtain ⟨p, rfl⟩ := Int.eq_ofNat_of_zero_le h0
  obtain ⟨q, rfl⟩ := Int.eq_ofNat_of_zero_le h2
  have h := u32_or_nat (p * 65536) q (by omega) (by omega)
  rw [nat_join 16 (p * 65536) q (by show p * 65536 % 65536 = 0; omega) (by show q < 65536; omega)] at h
  rw [show (p : Int) * 65536 % 4294967296 = ((p * 65536 : Nat) : Int) by omega, h]
  omega
section
variable {L : List Rg} {M : Nat → Int} {a : Nat} {y k x y2 k2 x2 : Int}
theorem fetch_bad1 (ho : (a : Int) % 2 = 0) (h : HalfIs L M a y k x) (hk : ¬ k = 0) : FetchIs L M a y k x := by
  rcases h with ⟨rfl, rfl, h⟩ | ⟨h, _⟩
  · exact .bad1 x (by omega) h
  · exact absurd h hk
theorem fetch_short (hb : ∀ x, 0 ≤ M x ∧ M x ≤ 255) (ho : (a : Int) % 2 = 0) (h : HalfIs L M a y 0 x) (h3 : ¬ bits .and .u32 y 3 = 3) : FetchIs L M a y 0 x := by
  rcases h with ⟨h, _⟩ | ⟨_, rfl, rfl, h⟩
  · cases h
  · have := hnum2 hb a
    rw [and3 (by omega) (by omega)] at h3
    exact .short (by omega) h h3
theorem half_two (hb : ∀ x, 0 ≤ M x ∧ M x ≤ 255) (hs : So 0 274877906944 L) (h : HalfIs L M a y 0 x) (h3 : bits .and .u32 y 3 = 3) : Cans L 4 a 2 ∧ numAt M a 2 % 4 = 3 ∧ (a + 2) % 18446744073709551616 = a + 2 ∧ y = numAt M a 2 := by
  rcases h with ⟨h, _⟩ | ⟨_, rfl, rfl, h⟩
  · cases h
  · have := hnum2 hb a
    rw [and3 (by omega) (by omega)] at h3
    have := can_under hs (h (a + 1) (by omega) (by omega))
    exact ⟨h, h3, by omega, rfl⟩
theorem fetch_bad2 (hb : ∀ x, 0 ≤ M x ∧ M x ≤ 255) (hs : So 0 274877906944 L) (ho : (a : Int) % 2 = 0) (h : HalfIs L M a y 0 x) (h3 : bits .and .u32 y 3 = 3) (h2 : HalfIs L M ((a + 2) % 18446744073709551616) y2 k2 x2) (hk : ¬ k2 = 0) : FetchIs L M a 0 k2 x2 := by
  obtain ⟨g1, g2, g3, _⟩ := half_two hb hs h h3
  rw [g3] at h2
  rcases h2 with ⟨rfl, rfl, h⟩ | ⟨h, _⟩
  · exact .bad2 x2 (by omega) g1 g2 h
  · exact absurd h hk
theorem fetch_long (hb : ∀ x, 0 ≤ M x ∧ M x ≤ 255) (hs : So 0 274877906944 L) (ho : (a : Int) % 2 = 0) (h : HalfIs L M a y 0 x) (h3 : bits .and .u32 y 3 = 3) (h2 : HalfIs L M ((a + 2) % 18446744073709551616) y2 0 x2) : FetchIs L M a (bits .or .u32 (y2 * 65536 % 4294967296) y) 0 0 := by
  obtain ⟨g1, g2, g3, rfl⟩ := half_two hb hs h h3
  rw [g3] at h2
  rcases h2 with ⟨h, _⟩ | ⟨_, _, rfl, h⟩
  · cases h
  · have e1 := hnum2 hb a
    have e2 := hnum2 hb (a + 2)
    rw [or16 (by omega) (by omega) (by omega) (by omega), ← num42]
    exact .long (by omega) g1 h g2
end
set_option maxHeartbeats 1000000 in
theorem half_is {T : Nat → Prop} {w : World} {sb n0 : Nat} {L : List Rg} {M st : Nat → Int} {mo ba en : Int} (h : MS T w sb n0 L M st mo ba en) (a : Nat) (ha : a < 2 ^ 64) :
    Calls Tryz.prog 106 #[addr0 sb, .int .u64 (a : Int)] w fun e w' => ∃ y k x, e = .returned (.tuple #[.int .u32 y, faultV k x]) ∧ HalfIs L M a y k x ∧ Bl w w' := by
  have cf := fault_any (h.bl (Bl.new w (.cells #[.int .i64 0, .int .u64 0] 41))) 3 a 2 4 (by omega) (by omega) (by decide)
  have cn := fun W (hW : Bl w W) => number_any (h.bl hW) a 2 ha (by omega) (by omega)
  have hnb0 := hnum2 h.by_ a
  unfold HalfIs
  have HSO := Lib.hid h.so
  have CF := Lib.hid cf; clear cf h
  have CN := Lib.hid cn; clear cn
  generalize numAt M a 2 = N at *
  obtain ⟨n0', n1'⟩ := hnb0
  unfold addr0 at *
  go_enter Tryz.func106, Tryz.ntmps106
  go_wp2_with fail
  refine CF.out.mono ?_
  rintro e w1 ⟨k, x, rfl, hh, kk⟩
  have hb := new2 w w1 _ _ _ kk
  have k1 := (Bl.new w (.cells #[.int .i64 0, .int .u64 0] 41)).trans kk
  clear CF kk
  have HB := Lib.hid hb; clear hb
  have K1 := Lib.hid k1; clear k1
  unfold faultV
  rcases hh with ⟨hk, hh⟩ | ⟨hk, hx, hh⟩
  · subst hk
    have WD := Lib.hid hh
    clear hh
    go_wp2_with fail
    have hb2 := (Bl.new w1 (.cells #[.int .i64 3, .int .u64 x] 41)).at_ HB.out
    obtain ⟨d0, d1⟩ := two_cells hb2
    obtain ⟨d2, d3⟩ := two_cells (heap_alloc_new w1 (.cells #[.int .i64 3, .int .u64 x] 41))
    have f0 : ∀ i, (w1.alloc (.cells #[.int .i64 3, .int .u64 x] 41)).frozen? ⟨w.heap.size, i, none⟩ = false := fun i => by simp [World.frozen?, hb2]
    have f00 := f0 0
    have f01 := f0 1
    have HB2 := Lib.hid hb2; clear hb2
    have K2 := Lib.hid (K1.out.alloc (.cells #[.int .i64 3, .int .u64 x] 41))
    clear HB K1 f0 CN
    generalize w1.alloc (.cells #[.int .i64 3, .int .u64 x] 41) = W at *
    go_region
    all_goals (
      (try go_wp2_with fail)
      (try simp only [Exit.inBlock, Exit.then])
      refine bodyPost_ret (results_tmp_row rfl _ _ w.heap.size 41 _ (0, 0) _ rfl (set2 _ _ HB2.out) Tryz.underlying41 rfl (by kernel_rfl)) rfl ?_
      exact ⟨0, 3, x, rfl, .inl ⟨rfl, rfl, WD.out⟩, (K2.out.drew.set (Nat.le_refl _) _).set (Nat.le_refl _) _⟩)
  · subst hk hx
    have HH := Lib.hid hh; clear hh
    go_wp2_with fail
    refine (CN.out _ (K1.out.alloc _)).mono ?_
    rintro e w2 ⟨rfl, k2⟩
    have hb2 := k2.at_ ((Bl.new w1 (.cells #[.int .i64 0, .int .u64 0] 41)).at_ HB.out)
    obtain ⟨d0, d1⟩ := two_cells hb2
    have f0 : ∀ i, w2.frozen? ⟨w.heap.size, i, none⟩ = false := fun i => by simp [World.frozen?, hb2]
    have f00 := f0 0
    have f01 := f0 1
    have HB2 := Lib.hid hb2; clear hb2
    have K2 := Lib.hid ((K1.out.alloc (.cells #[.int .i64 0, .int .u64 0] 41)).trans k2)
    clear HB K1 f0 CN k2
    go_wp2_with fail
    (try simp only [Exit.inBlock, Exit.then])
    refine bodyPost_ret (results_tmp_row rfl _ _ w.heap.size 41 _ (0, 0) _ rfl (set2 _ _ HB2.out) Tryz.underlying41 rfl (by kernel_rfl)) rfl ?_
    exact ⟨_, 0, 0, rfl, .inr ⟨rfl, rfl, rfl, HH.out⟩, (K2.out.set (Nat.le_refl _) _).set (Nat.le_refl _) _⟩
set_option maxHeartbeats 2000000 in
theorem fetch_is {T : Nat → Prop} {w : World} {sb n0 : Nat} {L : List Rg} {M st : Nat → Int} {mo ba en : Int} (h : MS T w sb n0 L M st mo ba en) (a : Nat) (ha : a < 2 ^ 64) :
    Calls Tryz.prog 81 #[addr0 sb, .int .u64 (a : Int)] w (FetchPost w L M a) := by
  have HBY := Lib.hid h.by_
  have HSO := Lib.hid h.so
  unfold addr0
  by_cases hodd : (a : Int) % 2 = 0
  · have t1 : ((a : Int) % 2 != 0) = false := by simp [hodd]
    have c1 := half_is (h.bl (Bl.new w (.cells #[.int .i64 0, .int .u64 0] 41))) a ha
    have c2 := fun W (hW : Bl w W) => half_is (h.bl hW) ((a + 2) % 18446744073709551616) (by omega)
    have C1 := Lib.hid c1; clear c1
    have C2 := Lib.hid c2; clear c2 h
    have HOD := Lib.hid hodd; clear hodd
    unfold addr0 at *
    go_enter Tryz.func81, Tryz.ntmps81
    go_wp2_with fail
    refine C1.out.mono ?_
    rintro e w1 ⟨y, k, x, rfl, hi, kk⟩
    have HI := Lib.hid hi; clear hi
    have hb := new2 w w1 _ _ _ kk
    have k1 := (Bl.new w (.cells #[.int .i64 0, .int .u64 0] 41)).trans kk
    clear C1 kk
    have hb2 := (Bl.new w1 (.cells #[.int .i64 k, .int .u64 x] 41)).at_ hb
    have hb3 := heap_alloc_new w1 (.cells #[.int .i64 k, .int .u64 x] 41)
    have K2 := Lib.hid (k1.alloc (.cells #[.int .i64 k, .int .u64 x] 41))
    obtain ⟨d0, d1⟩ := two_cells hb2
    obtain ⟨d2, d3⟩ := two_cells hb3
    have fz : ∀ i, (w1.alloc (.cells #[.int .i64 k, .int .u64 x] 41)).frozen? ⟨w.heap.size, i, none⟩ = false := fun i => by simp [World.frozen?, hb2]
    have f00 := fz 0
    have f01 := fz 1
    have HB2 := Lib.hid hb2
    have HB3 := Lib.hid hb3
    have hlt1 : w.heap.size < w1.heap.size := lt_at hb
    clear hb k1 hb2 hb3 fz
    unfold faultV
    by_cases hk : k = 0
    · subst hk
      by_cases hb : bits .and .u32 y 3 = 3
      · have tb : (bits .and .u32 y 3 != 3) = false := by simp [hb]
        have e2 : IntKind.u64.wrap ((a : Int) + 2) = (((a + 2) % 18446744073709551616 : Nat) : Int) := by rw [IntKind.wrap_u64]; omega
        have HBB := Lib.hid hb; clear hb
        have E2 := Lib.hid e2; clear e2
        go_wp2_with fail
        rw [E2.out]
        refine (C2.out _ K2.out).mono ?_
        rintro e w2 ⟨y2, k2, x2, rfl, hi2, kk2⟩
        have HI2 := Lib.hid hi2; clear hi2
        have hb4 := kk2.at_ HB2.out
        have hb5 := kk2.at_ HB3.out
        have K4 := Lib.hid (K2.out.trans kk2)
        clear d0 d1 d2 d3 f00 f01 C2 kk2
        obtain ⟨d0, d1⟩ := two_cells hb4
        obtain ⟨d2, d3⟩ := two_cells hb5
        have fz : ∀ i, w2.frozen? ⟨w.heap.size, i, none⟩ = false := fun i => by simp [World.frozen?, hb4]
        have fy : ∀ i, w2.frozen? ⟨w1.heap.size, i, none⟩ = false := fun i => by simp [World.frozen?, hb5]
        have f10 := fy 0
        have f11 := fy 1
        have hne : w.heap.size ≠ w1.heap.size := by omega
        have hb6 : ((w2.setCell ⟨w1.heap.size, 0, none⟩ (.int .i64 k2)).setCell ⟨w1.heap.size, 1, none⟩ (.int .u64 x2)).heap[w.heap.size]? = some (.cells #[.int .i64 0, .int .u64 0] 41 (0, 0)) := by
          rw [Below.heap_setCell _ _ _ _ hne, Below.heap_setCell _ _ _ _ hne]; exact hb4
        have hb7 := set2 (.int .i64 k2) (.int .u64 x2) hb5
        have hsz : w.heap.size ≤ w1.heap.size := by omega
        have K7 := Lib.hid ((K4.out.set (p := ⟨w1.heap.size, 0, none⟩) hsz (.int .i64 k2)).set (p := ⟨w1.heap.size, 1, none⟩) hsz (.int .u64 x2))
        have HB6 := Lib.hid hb6
        have HB7 := Lib.hid hb7
        clear hb6 hb7 hb4 hb5 fz fy
        unfold faultV
        go_upto_region 7 with (fail)
        clear d0 d1 d2 d3 f10 f11
        generalize (w2.setCell ⟨w1.heap.size, 0, none⟩ (.int .i64 k2)).setCell ⟨w1.heap.size, 1, none⟩ (.int .u64 x2) = W at *
        obtain ⟨d0, d1⟩ := two_cells HB6.out
        obtain ⟨d2, d3⟩ := two_cells HB7.out
        have fz : ∀ i, W.frozen? ⟨w.heap.size, i, none⟩ = false := fun i => by simp [World.frozen?, HB6.out]
        have f00 := fz 0
        have f01 := fz 1
        clear fz
        by_cases hk2 : k2 = 0
        · subst hk2
          go_wp2_with fail
          (try simp only [Exit.inBlock, Exit.then])
          refine bodyPost_ret (results_tmp_row rfl _ _ w.heap.size 41 _ (0, 0) _ rfl (set2 _ _ HB6.out) Tryz.underlying41 rfl (by kernel_rfl)) rfl ?_
          exact ⟨_, 0, 0, rfl, fetch_long HBY.out HSO.out HOD.out HI.out HBB.out HI2.out, (K7.out.set (Nat.le_refl _) _).set (Nat.le_refl _) _⟩
        · have tk : (k2 != 0) = true := by simp [hk2]
          have HK2 := Lib.hid hk2; clear hk2
          go_wp2_with fail
          go_region
          all_goals (
            (try go_wp2_with fail)
            (try simp only [Exit.inBlock, Exit.then])
            refine bodyPost_ret (results_tmp_row rfl _ _ w.heap.size 41 _ (0, 0) _ rfl (set2 _ _ HB6.out) Tryz.underlying41 rfl (by kernel_rfl)) rfl ?_
            exact ⟨0, k2, x2, rfl, fetch_bad2 HBY.out HSO.out HOD.out HI.out HBB.out HI2.out HK2.out, (K7.out.drew.set (Nat.le_refl _) _).set (Nat.le_refl _) _⟩)
      · have tb : (bits .and .u32 y 3 != 3) = true := by simp [hb]
        have HBB := Lib.hid hb; clear hb C2
        go_wp2_with fail
        generalize w1.alloc (.cells #[.int .i64 0, .int .u64 x] 41) = W at *
        go_region
        all_goals (
          (try go_wp2_with fail)
          (try simp only [Exit.inBlock, Exit.then])
          refine bodyPost_ret (results_tmp_row rfl _ _ w.heap.size 41 _ (0, 0) _ rfl (set2 _ _ HB2.out) Tryz.underlying41 rfl (by kernel_rfl)) rfl ?_
          exact ⟨y, 0, x, rfl, fetch_short HBY.out HOD.out HI.out HBB.out, (K2.out.drew.set (Nat.le_refl _) _).set (Nat.le_refl _) _⟩)
    · have tk : (k != 0) = true := by simp [hk]
      have HK := Lib.hid hk; clear hk C2
      go_wp2_with fail
      generalize w1.alloc (.cells #[.int .i64 k, .int .u64 x] 41) = W at *
      go_region
      all_goals (
        (try go_wp2_with fail)
        (try simp only [Exit.inBlock, Exit.then])
        refine bodyPost_ret (results_tmp_row rfl _ _ w.heap.size 41 _ (0, 0) _ rfl (set2 _ _ HB2.out) Tryz.underlying41 rfl (by kernel_rfl)) rfl ?_
        exact ⟨y, k, x, rfl, fetch_bad1 HOD.out HI.out HK.out, (K2.out.drew.set (Nat.le_refl _) _).set (Nat.le_refl _) _⟩)
  · have t1 : ((a : Int) % 2 != 0) = true := by simp [hodd]
    clear h
    go_enter Tryz.func81, Tryz.ntmps81
    go_wp2_with fail
    (try simp only [Exit.inBlock, Exit.then])
    refine bodyPost_ret (results_tmp_row rfl _ _ w.heap.size 41 _ (0, 0) _ rfl (heap_alloc_new w _) Tryz.underlying41 rfl (by kernel_rfl)) rfl ?_
    exact ⟨0, 3, a, rfl, .odd (by omega), Bl.new _ _⟩
end Go.Proofs.YtbngjbmfkekdnaaGreatDoor

set_option linter.unusedVariables false
namespace Go.Proofs.YtbngjbmfkekdnaaGreatDoor.Td
open Go.RowKit

/-- All blocks that were there are as they were, but perhaps block o. -/
structure Kp (o : Option Nat) (w w' : World) : Prop where
  os : w'.os = w.os
  tape : w'.tape = w.tape
  output : w'.output = w.output
  size : w.heap.size ≤ w'.heap.size
  frozen : ∀ a, w'.frozen? a = w.frozen? a
  block : ∀ k, k < w.heap.size → some k ≠ o → w'.heap[k]? = w.heap[k]?

theorem Kp.refl (o : Option Nat) (w : World) : Kp o w w := ⟨rfl, rfl, rfl, Nat.le_refl _, fun _ => rfl, fun _ _ _ => rfl⟩
theorem Kp.trans {o : Option Nat} {a b c : World} (h : Kp o a b) (k : Kp o b c) : Kp o a c :=
  ⟨k.os.trans h.os, k.tape.trans h.tape, k.output.trans h.output, Nat.le_trans h.size k.size, fun x => (k.frozen x).trans (h.frozen x),
   fun i hi hn => (k.block i (Nat.lt_of_lt_of_le hi h.size) hn).trans (h.block i hi hn)⟩
theorem Kp.any {o : Option Nat} {a b : World} (h : Kp none a b) : Kp o a b := ⟨h.os, h.tape, h.output, h.size, h.frozen, fun k hk _ => h.block k hk (by simp)⟩
theorem Kp.drew {o : Option Nat} {a w : World} (h : Kp o a w) : Kp o a w.drew := ⟨h.os, h.tape, h.output, h.size, h.frozen, h.block⟩
theorem Kp.drewN {o : Option Nat} {a w : World} (h : Kp o a w) (n : Nat) : Kp o a (w.drewN n) := ⟨h.os, h.tape, h.output, h.size, h.frozen, h.block⟩
theorem Kp.alloc {o : Option Nat} {a w : World} (h : Kp o a w) (c : Array Value) (t : TypeId) : Kp o a (w.alloc (.cells c t)) :=
  h.trans ⟨rfl, rfl, rfl, by simp, fun x => frozen?_alloc_cells _ _ _ x, fun k hk _ => Below.heap_alloc _ _ _ hk⟩
/-- A store into a block that was not there, or into the one that may turn. -/
theorem Kp.setCell {o : Option Nat} {a w : World} (h : Kp o a w) {p : Addr} (hp : a.heap.size ≤ p.block ∨ some p.block = o) (u : Value) : Kp o a (w.setCell p u) :=
  ⟨h.os, h.tape, h.output, by simpa [World.setCell] using h.size, fun x => (World.frozen?_setCell _ _ _ _).trans (h.frozen x),
   fun k hk hn => (Below.heap_setCell _ _ _ _ (fun e => by subst e; rcases hp with hp | hp; · omega
                                                           · exact hn hp)).trans (h.block k hk hn)⟩
/-- What turned one block that was not there before has turned nothing. -/
theorem Kp.drop {o : Option Nat} {a b c : World} (h : Kp none a b) (k : Kp o b c) (ho : ∀ i, o = some i → a.heap.size ≤ i) : Kp none a c :=
  ⟨k.os.trans h.os, k.tape.trans h.tape, k.output.trans h.output, Nat.le_trans h.size k.size, fun x => (k.frozen x).trans (h.frozen x),
   fun i hi _ => (k.block i (Nat.lt_of_lt_of_le hi h.size) (fun e => by have := ho i e.symm; omega)).trans (h.block i hi (by simp))⟩
theorem Kp.keeps {o : Option Nat} {w w' : World} (h : Kp o w w') {k : Nat} {b : Obj} (hb : w.heap[k]? = some b) (hn : some k ≠ o) : w'.heap[k]? = some b := by
  have hlt : k < w.heap.size := by
    rcases Nat.lt_or_ge k w.heap.size with h | h
    · exact h
    · rw [Array.getElem?_eq_none h] at hb; cases hb
  rw [h.block k hlt hn]; exact hb
theorem Kp.grown {W w' : World} (h : Kp none W w') : Grown W w' := by
  refine ⟨⟨h.os, h.output, fun i hi => ?_⟩, h.frozen, h.size⟩
  rw [h.block i hi (by simp)]
  split <;> simp_all
theorem lt_of_at {w : World} {k : Nat} {b : Obj} (hb : w.heap[k]? = some b) : k < w.heap.size := by
  rcases Nat.lt_or_ge k w.heap.size with h | h
  · exact h
  · rw [Array.getElem?_eq_none h] at hb; cases hb

/-- A block of these cells. -/
def Has (w : World) (b : Nat) (t : TypeId) (cs : Array Value) : Prop := w.heap[b]? = some (.cells cs t (0, 0))
theorem Has.lt {w : World} {b : Nat} {t : TypeId} {cs : Array Value} (h : Has w b t cs) : b < w.heap.size := lt_of_at h
theorem Has.cell {w : World} {b : Nat} {t : TypeId} {cs : Array Value} (h : Has w b t cs) (i : Nat) : w.cell? ⟨b, i, none⟩ = cs[i]? := by
  have h' : w.heap[b]? = some (.cells cs t (0, 0)) := h
  simp [World.cell?, h']
theorem Has.free {w : World} {b : Nat} {t : TypeId} {cs : Array Value} (h : Has w b t cs) (i : Nat) : w.frozen? ⟨b, i, none⟩ = false := by
  have h' : w.heap[b]? = some (.cells cs t (0, 0)) := h
  simp [World.frozen?, h']
theorem Has.kp {o : Option Nat} {w w' : World} {b : Nat} {t : TypeId} {cs : Array Value} (h : Has w b t cs) (k : Kp o w w') (hn : some b ≠ o) : Has w' b t cs := k.keeps h hn
theorem Has.drew {w : World} {b : Nat} {t : TypeId} {cs : Array Value} (h : Has w b t cs) : Has w.drew b t cs := h
theorem Has.new (w : World) (c : Array Value) (t : TypeId) : Has (w.alloc (.cells c t)) w.heap.size t c := (MapKept.heap_alloc w _).1
theorem Has.alloc {w : World} {b : Nat} {t : TypeId} {cs : Array Value} (h : Has w b t cs) (o : Obj) : Has (w.alloc o) b t cs := (Below.heap_alloc _ _ _ h.lt).trans h
theorem Has.other {w : World} {b : Nat} {t : TypeId} {cs : Array Value} (h : Has w b t cs) {p : Addr} (hp : b ≠ p.block) (u : Value) : Has (w.setCell p u) b t cs := (Below.heap_setCell _ _ _ _ hp).trans h
theorem Has.set {w : World} {b : Nat} {t : TypeId} {cs : Array Value} (h : Has w b t cs) (i : Nat) (u : Value) : Has (w.setCell ⟨b, i, none⟩ u) b t (cs.setIfInBounds i u) := by
  have h' : w.heap[b]? = some (.cells cs t (0, 0)) := h
  show (w.setCell ⟨b, i, none⟩ u).heap[b]? = _
  simp only [World.setCell, Array.getElem?_modify, if_pos, h', Option.map_some]
  simp
end Go.Proofs.YtbngjbmfkekdnaaGreatDoor.Td

set_option linter.unusedVariables false
namespace Go.Proofs.YtbngjbmfkekdnaaGreatDoor.Td
open Go.RowKit

theorem ret_int {k : IntKind} {a b : Int} (h : a = b) : Ending.returned (.int k a) = .returned (.int k b) := by rw [h]
theorem ret_bool {a b : Bool} (h : a = b) : Ending.returned (.bool a) = .returned (.bool b) := by rw [h]
def sextI (x b : Int) : Int := if 1 ≤ b ∧ b ≤ 64 then sx x b.toNat else x

set_option maxHeartbeats 400000 in
theorem sext_in (x : Int) (n : Nat) (w : World) (h1 : (1 : Int) ≤ n) (h2 : (n : Int) ≤ 64) :
    Calls Tryz.prog 163 #[.int .u64 x, .int .i64 n] w fun e w' => e = .returned (.int .u64 (sx x n)) ∧ w = w' := by
  have hs := Lib.hid (shifts x n (by omega) (by omega))
  go_enter Tryz.func163, Tryz.ntmps163
  go_wp2
  go_ret
  exact ⟨ret_int (by rw [hs.out]), rfl⟩

/-- So many bits of s, from one on. -/
def pc (s a m : Nat) : Nat := s / 2 ^ a % 2 ^ m
theorem pc_lt (s a m : Nat) : pc s a m < 2 ^ m := Nat.mod_lt _ (Nat.two_pow_pos m)
theorem pc_le (s a m : Nat) (hs : s < 4294967296) : pc s a m < 4294967296 := Nat.lt_of_le_of_lt (Nat.le_trans (Nat.mod_le _ _) (Nat.div_le_self _ _)) hs

set_option maxHeartbeats 400000 in
theorem piece_any (s a m : Nat) (w : World) (hs : s < 4294967296) (ha : a ≤ 31) (hm : m ≤ 20) :
    Calls Tryz.prog 124 #[.int .u32 s, .int .i64 a, .int .i64 m] w fun e w' => e = .returned (.int .u32 (pc s a m)) ∧ ∃ k, w' = w.drewN k := by
  have h0 : (0 : Int) ≤ (a : Int) := by omega
  have h1 : (0 : Int) ≤ (m : Int) := by omega
  go_enter Tryz.func124, Tryz.ntmps124
  go_wp2_with fail
  go_quiet (fail)
  go_wp2
  go_ret
  refine ⟨ret_int ?_, _, rfl⟩
  have hp : 0 < 2 ^ m := Nat.two_pow_pos m
  have hp2 : 2 ^ m ≤ 2 ^ 20 := Nat.pow_le_pow_right (by decide) hm
  have e1 : ((2 : Int) ^ m - 1) % 4294967296 = ((2 ^ m - 1 : Nat) : Int) := by
    rw [Int.natCast_sub hp, Int.natCast_pow]
    exact Int.emod_eq_of_lt (by have := pow_pos' m; omega) (by have : (2 : Int) ^ m ≤ 2 ^ 20 := (by exact_mod_cast hp2); omega)
  have e2 : (s : Int) / 2 ^ a = ((s / 2 ^ a : Nat) : Int) := by simp
  rw [e1, e2, u32_and_nat _ _ (Nat.lt_of_le_of_lt (Nat.div_le_self _ _) hs) (by omega), Nat.and_two_pow_sub_one_eq_mod]
  rfl

/-- What taker's closure holds: the word. -/
theorem taker_any (s : Nat) (w : World) : Calls Tryz.prog 116 #[.int .u32 s] w fun e w' => e = .returned (.func (.func 138) #[] #[.pointer (some ⟨w.heap.size, 0, none⟩)]) ∧ Has w' w.heap.size 37 #[.int .u32 s] ∧ Kp none w w' := by
  have hmf : ∀ (fn : Fn) (first cap : Array Value) (w : World), (Instr.makeFunc fn first cap).run Tryz.prog w = .ok (.func fn first cap) w := fun _ _ _ _ => rfl
  go_enter Tryz.func116, Tryz.ntmps116
  go_wp2
  go_ret
  exact ⟨rfl, Has.new _ _ _, (Kp.refl _ _).alloc _ _⟩

theorem shl_pc (s a m k : Nat) (hm : m + k ≤ 33) : wrap64 (((pc s a m : Nat) : Int) * 2 ^ k) = ((pc s a m * 2 ^ k : Nat) : Int) := by
  have h1 := pc_lt s a m
  have h2 : pc s a m * 2 ^ k < 2 ^ 33 := by
    calc pc s a m * 2 ^ k < 2 ^ m * 2 ^ k := Nat.mul_lt_mul_of_pos_right h1 (Nat.two_pow_pos k)
      _ = 2 ^ (m + k) := (Nat.pow_add 2 m k).symm
      _ ≤ 2 ^ 33 := Nat.pow_le_pow_right (by decide) hm
  have e : ((pc s a m : Nat) : Int) * 2 ^ k = ((pc s a m * 2 ^ k : Nat) : Int) := by simp
  rw [e]
  generalize pc s a m * 2 ^ k = t at *
  unfold wrap64; omega

/-- A piece of a word, moved to its place in a number. -/
def tk (s a m k : Nat) : Int := (pc s a m * 2 ^ k : Nat)
set_option maxHeartbeats 400000 in
theorem take_any (n : Int) (s a m k c : Nat) (w : World) (hs : s < 4294967296) (ha : a ≤ 31) (hm : m ≤ 20) (hk : k ≤ 20) (hmk : m + k ≤ 33) (hc : Has w c 37 #[.int .u32 s]) :
    Calls Tryz.prog 138 #[.int .i64 n, .int .i64 a, .int .i64 m, .int .i64 k, .pointer (some ⟨c, 0, none⟩)] w fun e w' => e = .returned (.int .i64 (tk s a m k)) ∧ Kp none w w' := by
  have h0 : (0 : Int) ≤ (k : Int) := by omega
  have c0 := hc.cell 0
  simp at c0
  have hl := Lib.hid (shl_pc s a m k hmk)
  go_enter Tryz.func138, Tryz.ntmps138
  go_wp2_with fail
  refine (piece_any s a m _ hs ha hm).mono ?_
  rintro e w' ⟨rfl, q, rfl⟩
  have hb := pc_le s a m hs
  go_wp2
  go_ret
  exact ⟨ret_int hl.out, (Kp.refl _ _).drewN _⟩

theorem sx_back (n : Int) (b : Nat) (h1 : 1 ≤ b) (h2 : b ≤ 64) : wrap64 (sx (IntKind.u64.wrap n) b) = low n b := by
  have e : low (IntKind.u64.wrap n) b = low n b := by
    obtain ⟨q, hq⟩ := low_eq n b
    refine low_unique _ _ (q + 2 ^ (64 - b) * (-(n / 18446744073709551616))) b h1 ?_ (low_lo n b) (low_hi n b h1)
    rw [Int.mul_add, ← Int.mul_assoc, Int.mul_comm (2 ^ b) (2 ^ (64 - b)), pow64 b h2, IntKind.wrap_u64]
    omega
  have hm := (low_mono b 64 h1 h2).1
  have hl := low_lo n b
  have hh := low_hi n b h1
  simp at hm
  unfold sx; rw [e]; unfold wrap64
  omega
set_option maxHeartbeats 400000 in
theorem signed_any (n : Int) (b : Nat) (w : World) (h1 : (1 : Int) ≤ b) (h2 : (b : Int) ≤ 64) :
    Calls Tryz.prog 156 #[.int .i64 n, .int .i64 b] w fun e w' => e = .returned (.int .i64 (low n b)) ∧ w = w' := by
  go_enter Tryz.func156, Tryz.ntmps156
  go_wp2_with fail
  refine (sext_in _ b _ h1 h2).mono ?_
  rintro e w' ⟨rfl, rfl⟩
  go_wp2
  go_ret
  exact ⟨ret_int (sx_back n b (by omega) (by omega)), rfl⟩

end Go.Proofs.YtbngjbmfkekdnaaGreatDoor.Td

set_option linter.unusedVariables false
set_option linter.unusedSimpArgs false
namespace Go.Proofs.YtbngjbmfkekdnaaGreatDoor.Td
open Go.RowKit

theorem pc_step (s j k : Nat) : pc s (j + 1) k * 2 + s / 2 ^ j % 2 = pc s j (k + 1) := by
  unfold pc
  have e1 : s / 2 ^ (j + 1) = s / 2 ^ j / 2 := by rw [Nat.pow_succ, Nat.div_div_eq_div_mul]
  have e2 : (2 : Nat) ^ (k + 1) = 2 * 2 ^ k := by rw [Nat.pow_succ, Nat.mul_comm]
  rw [e1, e2, Nat.mod_mul]
  generalize s / 2 ^ j = t
  generalize t / 2 % 2 ^ k = u
  omega
theorem pc_zero (s j : Nat) : pc s j 0 = 0 := by unfold pc; simp [Nat.mod_one]

theorem F_add (p t : Nat) (hp : p < 4294967296) : wrap64 ((p : Int) * 2 + wrap64 ((t : Int).tmod 2)) = ((p * 2 + t % 2 : Nat) : Int) := by
  have e3 : ((t : Int)).tmod 2 = ((t % 2 : Nat) : Int) := by rw [Int.tmod_eq_emod_of_nonneg (by omega)]; simp
  rw [e3]
  unfold wrap64
  omega

set_option maxHeartbeats 1000000 in
theorem F_any (s hi lo : Nat) (w : World) (hs : s < 4294967296) (h1 : lo ≤ hi) (h2 : hi ≤ 31) :
    Calls Tryz.prog 85 #[.int .u32 s, .int .i64 hi, .int .i64 lo] w fun e w' => e = .returned (.int .i64 (pc s lo (hi + 1 - lo))) ∧ w = w' := by
  go_enter Tryz.func85, Tryz.ntmps85
  go_wp2
  go_loop [7, 8] (fun n i => ∃ k : Nat, k ≤ hi + 1 - lo ∧ i = .int .i64 ((hi : Int) - k) ∧ n = .int .i64 (pc s (hi + 1 - k) k)) (fun n i => (intOf i + 1).toNat)
  case atStart => exact ⟨0, by omega, by simp, by rw [pc_zero]; rfl⟩
  case round =>
    obtain ⟨k, hk, rfl, rfl⟩ := hrel
    by_cases hlt : k < hi + 1 - lo
    · obtain ⟨j, hj⟩ : ∃ j : Nat, j + k = hi := ⟨hi - k, by omega⟩
      have ej : (hi : Int) - (k : Int) = (j : Int) := by omega
      have ek : hi + 1 - k = j + 1 := by omega
      rw [ej, ek]
      have hb := pc_le s (j + 1) k hs
      have hst := Lib.hid (pc_step s j k)
      have HJ := Lib.hid hj
      have hj31 : (j : Int) ≤ 31 := by omega
      have hjlo : (lo : Int) ≤ (j : Int) := by omega
      have hdm : Hid ((s : Int) / 2 ^ j = ((s / 2 ^ j : Nat) : Int)) := Lib.hid (by simp)
      clear ej ek hj
      generalize pc s (j + 1) k = p at *
      go_wp2
      go_round
      case rel =>
        refine ⟨k + 1, by omega, ?_, ?_⟩
        · have := HJ.out; first | (congr 1; omega) | omega | (congr 1)
        · have e := HJ.out
          rw [show hi + 1 - (k + 1) = j by omega, ← hst.out]
          rw [hdm.out]
          rw [F_add p (s / 2 ^ j) hb]
      case measure => simp [intOf] <;> omega
    · obtain rfl : k = hi + 1 - lo := by omega
      have e1 : (hi : Int) - ((hi + 1 - lo : Nat) : Int) = (lo : Int) - 1 := by omega
      have e2 : hi + 1 - (hi + 1 - lo) = lo := by omega
      rw [e1, e2]
      clear e1 e2
      go_wp2
      go_ret
      exact ⟨rfl, rfl⟩

theorem low_half (n : Int) (b : Nat) (h1 : 1 ≤ b) (h0 : 0 ≤ n) (h2 : n < 2 ^ b) : low n b = if 2 ^ (b - 1) ≤ n then n - 2 * 2 ^ (b - 1) else n := by
  have hp := pow_half b h1
  have hq := pow_pos' (b - 1)
  split
  · exact low_unique n _ 1 b h1 (by omega) (by omega) (by omega)
  · exact low_unique n _ 0 b h1 (by omega) (by omega) (by omega)

set_option maxHeartbeats 1000000 in
theorem S_hi (n : Int) (b : Nat) (w : World) (h1 : 1 ≤ b) (h32 : b ≤ 32) (h0 : 0 ≤ n) (hn : n < 4294967296) (hge : 2 ^ (b - 1) ≤ n) :
    Calls Tryz.prog 86 #[.int .i64 n, .int .i64 b] w fun e w' => e = .returned (.int .i64 (n - 2 * 2 ^ (b - 1))) ∧ w = w' := by
  have HG := Lib.hid hge; clear hge
  go_enter Tryz.func86, Tryz.ntmps86
  go_wp2
  go_loop [5, 6] (fun x i => ∃ k : Nat, k ≤ b - 1 ∧ i = .int .i64 ((k : Int) + 1) ∧ x = .int .i64 (2 ^ k)) (fun x i => b - (intOf i).toNat)
  case atStart => exact ⟨0, by omega, rfl, rfl⟩
  case round =>
    obtain ⟨k, hk, rfl, rfl⟩ := hrel
    have hkb : (2 : Int) ^ k ≤ 2147483648 := by
      have := (low_mono (k + 1) 32 (by omega) (by omega)).1
      simpa using this
    have hkp := pow_pos' k
    by_cases hlt : k < b - 1
    · have hc : (k : Int) + 1 < (b : Int) := by omega
      have HP := Lib.hid (Int.pow_succ 2 k)
      generalize (2 : Int) ^ k = p at *
      go_wp2
      go_round
      case rel => exact ⟨k + 1, by omega, by first | rfl | (congr 1; omega) | (congr 1), by rw [HP.out]⟩
      case measure => simp [intOf] <;> omega
    · obtain rfl : k = b - 1 := by omega
      have hc : (b : Int) ≤ ((b - 1 : Nat) : Int) + 1 := by omega
      have hge := HG.out
      clear HG
      generalize hp : (2 : Int) ^ (b - 1) = p at *
      have HQ := Lib.hid hp; clear hp
      go_wp2
      go_ret
      exact ⟨ret_int (by rw [HQ.out]), rfl⟩

set_option maxHeartbeats 1000000 in
theorem S_lo (n : Int) (b : Nat) (w : World) (h1 : 1 ≤ b) (h32 : b ≤ 32) (h0 : 0 ≤ n) (hn : n < 4294967296) (hge : n < 2 ^ (b - 1)) :
    Calls Tryz.prog 86 #[.int .i64 n, .int .i64 b] w fun e w' => e = .returned (.int .i64 (n)) ∧ w = w' := by
  have HG := Lib.hid hge; clear hge
  go_enter Tryz.func86, Tryz.ntmps86
  go_wp2
  go_loop [5, 6] (fun x i => ∃ k : Nat, k ≤ b - 1 ∧ i = .int .i64 ((k : Int) + 1) ∧ x = .int .i64 (2 ^ k)) (fun x i => b - (intOf i).toNat)
  case atStart => exact ⟨0, by omega, rfl, rfl⟩
  case round =>
    obtain ⟨k, hk, rfl, rfl⟩ := hrel
    have hkb : (2 : Int) ^ k ≤ 2147483648 := by
      have := (low_mono (k + 1) 32 (by omega) (by omega)).1
      simpa using this
    have hkp := pow_pos' k
    by_cases hlt : k < b - 1
    · have hc : (k : Int) + 1 < (b : Int) := by omega
      have HP := Lib.hid (Int.pow_succ 2 k)
      generalize (2 : Int) ^ k = p at *
      go_wp2
      go_round
      case rel => exact ⟨k + 1, by omega, by first | rfl | (congr 1; omega) | (congr 1), by rw [HP.out]⟩
      case measure => simp [intOf] <;> omega
    · obtain rfl : k = b - 1 := by omega
      have hc : (b : Int) ≤ ((b - 1 : Nat) : Int) + 1 := by omega
      have hge := HG.out
      clear HG
      generalize (2 : Int) ^ (b - 1) = p at *
      go_wp2
      go_ret
      exact ⟨rfl, rfl⟩

theorem S_any (n : Int) (b : Nat) (w : World) (h1 : 1 ≤ b) (h32 : b ≤ 32) (h0 : 0 ≤ n) (h2 : n < 2 ^ b) :
    Calls Tryz.prog 86 #[.int .i64 n, .int .i64 b] w fun e w' => e = .returned (.int .i64 (low n b)) ∧ w = w' := by
  have hn : n < 4294967296 := by
    have := (low_mono (b + 1) 33 (by omega) (by omega)).1
    simp at this
    omega
  rw [low_half n b h1 h0 h2]
  by_cases h : 2 ^ (b - 1) ≤ n
  · rw [if_pos h]; exact S_hi n b w h1 h32 h0 hn h
  · rw [if_neg h]; exact S_lo n b w h1 h32 h0 hn (by omega)

set_option maxHeartbeats 1000000 in
theorem one_any (b : Nat) (zs : List Int) (len cap : Nat) (k : Nat) (w : World) (hlen : zs.length = len) (hl : len ≤ 100) (hc : ∀ i, i < len → w.cell? ⟨b, i, none⟩ = some (.int .i64 (zs.getD i 0))) :
    Calls Tryz.prog 87 #[.slice (some ⟨b, 0, none⟩) len cap, .int .i64 k] w fun e w' => e = .returned (.int .i64 (zs.getD k 0)) ∧ w = w' := by
  have HC := Lib.hid hc; clear hc
  by_cases hk : k < len
  · have h1 := HC.out k hk
    have h2 : (k : Int) < (len : Int) := by omega
    generalize zs.getD k 0 = o at *
    clear hlen
    go_enter Tryz.func87, Tryz.ntmps87
    go_wp2
    go_ret
    exact ⟨rfl, rfl⟩
  · have e : zs.getD k 0 = 0 := by simp [List.getD, List.getElem?_eq_none (show zs.length ≤ k by omega)]
    rw [e]
    have h2 : (len : Int) ≤ (k : Int) := by omega
    clear e hlen
    go_enter Tryz.func87, Tryz.ntmps87
    go_wp2
    go_ret
    exact ⟨rfl, rfl⟩
end Go.Proofs.YtbngjbmfkekdnaaGreatDoor.Td

set_option linter.unusedVariables false
namespace Go.Proofs.YtbngjbmfkekdnaaGreatDoor
open Go

section
variable {P : Program} {ops : Array Oper} {Q : Exit → Act → World → Prop} {md : Region.Mode} {S : World → Prop} {n : Nat} {L : Act → World → Prop}

/-- The head's operations in whatever order, S behind each; behind them L. -/
def wpHd (P : Program) (md : Region.Mode) (ops : Array Oper) (Q : Exit → Act → World → Prop) (S : World → Prop) (n : Nat) (L : Act → World → Prop) : Nat → Array Bool → Act → World → Prop
  | 0, listed, a, w => Region.seqB md ops (ops.size - n) n listed = true ∧ L a w
  | f + 1, listed, a, w => Region.ready md ops listed ≠ [] ∧ ∀ i ∈ Region.ready md ops listed, i < n ∧ wpOp P ops Q i (fun a' w' => S w' ∧ wpHd P md ops Q S n L f (listed.setIfInBounds i true) a' w') a w

theorem wpAny_of_hd (hL : ∀ listed a w, Region.seqB md ops (ops.size - n) n listed = true → L a w → wpAny P md ops Q (ops.size - n) listed a w) :
    ∀ (f : Nat) (listed : Array Bool) (a : Act) (w : World), wpHd P md ops Q S n L f listed a w → wpAny P md ops Q (f + (ops.size - n)) listed a w
  | 0, listed, a, w, h => by rw [Nat.zero_add]; exact hL _ _ _ h.1 h.2
  | f + 1, listed, a, w, h => by
    rw [show f + 1 + (ops.size - n) = (f + (ops.size - n)) + 1 by omega]
    exact ⟨fun h0 => absurd h0 h.1, fun i hi => wpOp_mono (fun a' w' h' => wpAny_of_hd hL f _ a' w' h'.2) (h.2 i hi).2⟩

theorem wpHd_first {i : Nat} {oi : Oper} {v : Value} (hi : ops[i]? = some oi) (hsel : ∀ (j : Nat) (o : Oper) cs b, ops[j]? = some o → o.op ≠ .select cs b)
    (hQ : ∀ c a w, Q (.panic c) (a.put oi.dst v) w → Q (.panic c) a w)
    (hs : Region.sinkB md ops n = true) (hc : Region.chainB md ops n = true) (hn : n < ops.size) (hin : i < n) :
    ∀ (f : Nat) (listed : Array Bool) (a : Act) (w : World), HeadInv md ops n listed →
      (∀ j oj, ops[j]? = some oj → j ≠ i → listed.getD j true = false → (∀ e ∈ oj.after, Region.binds md e = true → e.on ≠ i) → oi.apart ops oj = true) →
      i ∈ Region.ready md ops listed → YieldsIf P ops S oi v a → S w →
      wpHd P md ops Q S n L f (listed.setIfInBounds i true) (a.put oi.dst v) w → wpHd P md ops Q S n L (f + 1) listed a w := by
  intro f
  induction f with
  | zero =>
    intro listed a w inv _ hr hy hS H
    have hun := (mem_ready.1 hr).1
    refine ⟨fun h => (by rw [h] at hr; cases hr), fun j hj => ?_⟩
    have hjn : j < n := by
      rcases Nat.lt_or_ge j n with h | h
      · exact h
      · exact absurd hj (tail_waits hs hc hn inv _ i rfl hin hun j h)
    refine ⟨hjn, ?_⟩
    by_cases hji : j = i
    · subst hji; exact hy.wpOp hi hS ⟨hS, H⟩
    · have := seqB_ready H.1 j (ready_mono hj hji)
      omega
  | succ f ih =>
    intro listed a w inv hfree hr hy hS H
    have hun := (mem_ready.1 hr).1
    refine ⟨fun h => (by rw [h] at hr; cases hr), fun j hj => ?_⟩
    have hjn : j < n := by
      rcases Nat.lt_or_ge j n with h | h
      · exact h
      · exact absurd hj (tail_waits hs hc hn inv _ i rfl hin hun j h)
    refine ⟨hjn, ?_⟩
    by_cases hji : j = i
    · subst hji; exact hy.wpOp hi hS ⟨hS, H⟩
    · have h1 := (H.2 j (ready_mono hj hji)).2
      obtain ⟨hjun, oj, hoj, hall⟩ := mem_ready.1 hj
      have hnot : ∀ e ∈ oj.after, Region.binds md e = true → e.on ≠ i := fun e he hb heq => by
        have h1 := hall e he hb
        rw [heq, getD_both hun] at h1
        cases h1
      have h2 := wpOp_putIf hoj (hfree j oj hoj hji hjun hnot) (fun cs b => hsel i oi cs b hi) (fun cs b => hsel j oj cs b hoj) hQ hy h1
      have hfree' : ∀ k ok, ops[k]? = some ok → k ≠ i → (listed.setIfInBounds j true).getD k true = false →
          (∀ e ∈ ok.after, Region.binds md e = true → e.on ≠ i) → oi.apart ops ok = true := fun k ok hk hki hun hno => by
        refine hfree k ok hk hki ?_ hno
        by_cases hjk : j = k
        · subst hjk; exact hjun
        · rw [getD_set_ne true hjk] at hun; exact hun
      refine wpOp_mono (fun a' w' h3 => ⟨h3.2.1, ih (listed.setIfInBounds j true) a' w' (inv.set hj hjn) hfree' (ready_mono hr (Ne.symm hji)) h3.1 h3.2.1 ?_⟩) h2
      rw [Array.setIfInBounds_comm _ _ hji]
      exact h3.2.2

/-- What is listed is listed with all that it waits for; nothing of the tail is. -/
def headB (md : Region.Mode) (ops : Array Oper) (n : Nat) (listed : Array Bool) : Bool :=
  decide (listed.size = ops.size) &&
  ((List.range ops.size).all fun j => !(listed.getD j false) || match ops[j]? with | some oj => oj.after.all fun e => !(Region.binds md e) || listed.getD e.on false | none => true) &&
  ((List.range ops.size).all fun t => decide (t < n) || !(listed.getD t true))
theorem headB_spec {listed : Array Bool} (h : headB md ops n listed = true) : HeadInv md ops n listed := by
  simp only [headB, Bool.and_eq_true, decide_eq_true_eq, List.all_eq_true, List.mem_range] at h
  obtain ⟨⟨h1, h2⟩, h3⟩ := h
  refine ⟨h1, fun j oj hj hl e he hb => ?_, fun t ht ht' => ?_⟩
  · have := h2 j (Array.getElem?_eq_some_iff.1 hj).1
    rw [hl, hj] at this
    have h5 : (oj.after.all fun e => !(Region.binds md e) || listed.getD e.on false) = true := by simpa only [Bool.not_true, Bool.false_or] using this
    have h4 := Array.all_eq_true_iff_forall_mem.1 h5 e he
    rw [hb] at h4
    simpa only [Bool.not_true, Bool.false_or] using h4
  · have := h3 t ht'
    simp only [Bool.or_eq_true, decide_eq_true_eq, Bool.not_eq_true'] at this
    rcases this with h | h
    · omega
    · exact h

/-- The tail waits, the region chooses nothing, the listed are closed: what each take asks of the text alone. -/
def takeB (md : Region.Mode) (ops : Array Oper) (n : Nat) (listed : Array Bool) (i : Nat) : Bool :=
  Region.noSelect ops && Region.sinkB md ops n && Region.chainB md ops n && decide (n < ops.size) && decide (i < n) && headB md ops n listed && Region.free md ops listed i && (Region.ready md ops listed).contains i

/-- An operation that yields its value in every world that meets S is taken first. -/
theorem wpHd_take {i : Nat} {oi : Oper} {v : Value} {f : Nat} {listed : Array Bool} {a : Act} {w : World} (hi : ops[i]? = some oi) (hB : takeB md ops n listed i = true)
    (hQ : ∀ c a w, Q (.panic c) (a.put oi.dst v) w → Q (.panic c) a w) (hy : YieldsIf P ops S oi v a) (hS : S w)
    (h : wpHd P md ops Q S n L f (listed.setIfInBounds i true) (a.put oi.dst v) w) : wpHd P md ops Q S n L (f + 1) listed a w := by
  simp only [takeB, Bool.and_eq_true, decide_eq_true_eq] at hB
  obtain ⟨⟨⟨⟨⟨⟨⟨h1, h2⟩, h3⟩, h4⟩, h5⟩, h6⟩, h7⟩, h8⟩ := hB
  exact wpHd_first hi (Region.noSelect_spec h1) hQ h2 h3 h4 h5 f listed a w (headB_spec h6) (Region.free_spec hi h7) (by simpa using h8) hy hS h

/-- One operation alone may come up. -/
theorem wpHd_one {i : Nat} {o : Oper} {f : Nat} {listed : Array Bool} {a : Act} {w : World} (ho : ops[i]? = some o) (hB : (decide (Region.ready md ops listed = [i]) && decide (i < n)) = true)
    (h : ∀ K' : Act → World → Prop, Shut (∀ a w, S w → (S w → wpHd P md ops Q S n L f (listed.setIfInBounds i true) a w) → K' a w) → if Region.wanted o (yielded ops a.tmps) = true then Oper.wp P o a w K' Q else K' (a.put o.dst undef) w) :
    wpHd P md ops Q S n L (f + 1) listed a w := by
  simp only [Bool.and_eq_true, decide_eq_true_eq] at hB
  refine ⟨by rw [hB.1]; simp, fun j hj => ?_⟩
  rw [hB.1] at hj
  obtain rfl : j = i := by simpa using hj
  exact ⟨hB.2, wpOp_step ho (fun K' hK => h K' (fun a w hS hW => hK a w ⟨hS, hW hS⟩))⟩

/-- Two operations may come up. -/
theorem wpHd_two {i j : Nat} {o o' : Oper} {f : Nat} {listed : Array Bool} {a : Act} {w : World} (ho : ops[i]? = some o) (ho' : ops[j]? = some o') (hB : (decide (Region.ready md ops listed = [i, j]) && decide (i < n) && decide (j < n)) = true)
    (h : ∀ K' : Act → World → Prop, Shut (∀ a w, S w → (S w → wpHd P md ops Q S n L f (listed.setIfInBounds i true) a w) → K' a w) → if Region.wanted o (yielded ops a.tmps) = true then Oper.wp P o a w K' Q else K' (a.put o.dst undef) w)
    (h' : ∀ K' : Act → World → Prop, Shut (∀ a w, S w → (S w → wpHd P md ops Q S n L f (listed.setIfInBounds j true) a w) → K' a w) → if Region.wanted o' (yielded ops a.tmps) = true then Oper.wp P o' a w K' Q else K' (a.put o'.dst undef) w) :
    wpHd P md ops Q S n L (f + 1) listed a w := by
  simp only [Bool.and_eq_true, decide_eq_true_eq] at hB
  refine ⟨by rw [hB.1.1]; simp, fun x hx => ?_⟩
  rw [hB.1.1] at hx
  rcases List.mem_cons.1 hx with rfl | hx
  · exact ⟨hB.1.2, wpOp_step ho (fun K' hK => h K' (fun a w hS hW => hK a w ⟨hS, hW hS⟩))⟩
  · obtain rfl : x = j := by simpa using hx
    exact ⟨hB.2, wpOp_step ho' (fun K' hK => h' K' (fun a w hS hW => hK a w ⟨hS, hW hS⟩))⟩

/-- The region. -/
theorem wp_region_hd {id : Nat} {l : List Oper} {a : Act} {w : World} (n : Nat) (S : World → Prop) (hm : P.follows .mixedOrders = true) (hn : n < l.length) (hS : S w.drew)
    (h : S w.drew → wpHd P .any l.toArray Q S n (fun a' w' => wpList P l.toArray Q (l.drop n) a' w') n (Array.replicate l.toArray.size false) a w.drew) : (Code.region id l.toArray true).wp P Q a w := by
  have hdl : (l.drop n).length = l.toArray.size - n := by simp
  refine wp_region_any hm ?_
  have := wpAny_of_hd (P := P) (md := .any) (ops := l.toArray) (Q := Q) (S := S) (n := n) (fun listed a' w' hB hL => by
    have := wpAny_of_seq (md := .any) (Q' := Q) (l.drop n) n listed a' w' (fun j => by simp [List.getElem?_drop]) (by rw [hdl]; exact hB) hL
    rwa [hdl] at this) _ _ _ _ (h hS)
  rw [show n + (l.toArray.size - n) = l.toArray.size by simp; omega] at this
  exact this
end
end Go.Proofs.YtbngjbmfkekdnaaGreatDoor

set_option linter.unusedVariables false
set_option linter.unusedSimpArgs false
namespace Go.Proofs.YtbngjbmfkekdnaaGreatDoor.Td
open Go.RowKit

def gv (n : Int) (m k : Nat) : Nat := (n / 2 ^ k % 2 ^ m).toNat
theorem gv_lt (n : Int) (m k : Nat) : gv n m k < 2 ^ m := by
  have h1 := Int.emod_nonneg (n / 2 ^ k) (Int.ne_of_gt (pow_pos' m))
  have h2 := Int.emod_lt_of_pos (n / 2 ^ k) (pow_pos' m)
  have e : (2 : Int) ^ m = ((2 ^ m : Nat) : Int) := by simp
  unfold gv; rw [e] at h1 h2 ⊢
  omega
/-- The word behind it. -/
def ly (s : Nat) (n : Int) (a m k : Nat) : Nat := s ||| (gv n m k * 2 ^ a)
/-- What the closure hands to piece. -/
theorem gv_pc (n : Int) (m k : Nat) (hm : m ≤ 20) : pc (IntKind.u32.wrap (n / 2 ^ k)).toNat 0 m = gv n m k := by
  have e0 : (2 : Int) ^ m ∣ 4294967296 := ⟨2 ^ (32 - m), by rw [← Int.pow_add, show m + (32 - m) = 32 by omega]; rfl⟩
  have h1 : IntKind.u32.wrap (n / 2 ^ k) % 2 ^ m = n / 2 ^ k % 2 ^ m := by
    rw [IntKind.wrap_u32]; exact Int.emod_emod_of_dvd _ e0
  have h2 : 0 ≤ IntKind.u32.wrap (n / 2 ^ k) := by rw [IntKind.wrap_u32]; omega
  unfold pc gv
  rw [← h1]
  obtain ⟨A, hA⟩ := Int.eq_ofNat_of_zero_le h2
  rw [hA]
  have e : (2 : Int) ^ m = ((2 ^ m : Nat) : Int) := by simp
  rw [e, ← Int.natCast_emod, Int.toNat_natCast, Int.toNat_natCast]
  simp
theorem ly_or (s : Nat) (n : Int) (a m k : Nat) (hs : s < 4294967296) (h : a + m ≤ 32) : bits .or .u32 (s : Int) ((gv n m k : Nat) * 2 ^ a % 4294967296) = (ly s n a m k : Nat) := by
  have h1 : gv n m k * 2 ^ a < 4294967296 := by
    calc gv n m k * 2 ^ a < 2 ^ m * 2 ^ a := Nat.mul_lt_mul_of_pos_right (gv_lt n m k) (Nat.two_pow_pos a)
      _ = 2 ^ (m + a) := (Nat.pow_add 2 m a).symm
      _ ≤ 2 ^ 32 := Nat.pow_le_pow_right (by decide) (by omega)
  have e : ((gv n m k : Nat) : Int) * 2 ^ a = ((gv n m k * 2 ^ a : Nat) : Int) := by simp
  rw [e, Int.emod_eq_of_lt (by omega) (by omega), u32_or_nat _ _ hs h1]
  rfl

theorem ly_lt {s : Nat} {n : Int} {a m k : Nat} (hs : s < 4294967296) (h : a + m ≤ 32) : ly s n a m k < 4294967296 := by
  have h1 : gv n m k * 2 ^ a < 2 ^ 32 := by
    calc gv n m k * 2 ^ a < 2 ^ m * 2 ^ a := Nat.mul_lt_mul_of_pos_right (gv_lt n m k) (Nat.two_pow_pos a)
      _ = 2 ^ (m + a) := (Nat.pow_add 2 m a).symm
      _ ≤ 2 ^ 32 := Nat.pow_le_pow_right (by decide) (by omega)
  exact Nat.or_lt_two_pow (n := 32) hs h1

end Go.Proofs.YtbngjbmfkekdnaaGreatDoor.Td

set_option linter.unusedVariables false
namespace Go.Proofs.YtbngjbmfkekdnaaGreatDoor.Td
open Go.RowKit
abbrev I7 (op rd r1 r2 im od sz : Int) : Array Value := #[.int .i64 op, .int .i64 rd, .int .i64 r1, .int .i64 r2, .int .i64 im, .int .i64 od, .int .i64 sz]

/-- Inside a form: its own instruction, its result, and the word that pieces are taken of. -/
structure FrT (w : World) (c s : Nat) (cs : Array Value) (w1 : World) : Prop where
  kp : Kp none w w1
  box : Has w1 w.heap.size 47 cs
  res : Has w1 (w.heap.size + 1) 47 (I7 0 0 0 0 0 0 0)
  mv : Has w1 c 37 #[.int .u32 s]
  lt : c < w.heap.size
theorem FrT.start {w : World} {c s : Nat} (cs : Array Value) (h : Has w c 37 #[.int .u32 s]) :
    FrT w c s cs ((w.alloc (.cells cs 47)).alloc (.cells (I7 0 0 0 0 0 0 0) 47)) :=
  ⟨((Kp.refl _ _).alloc _ _).alloc _ _, (Has.new _ _ _).alloc _, by have := Has.new (w.alloc (.cells cs 47)) (I7 0 0 0 0 0 0 0) 47; simpa using this, (h.alloc _).alloc _, h.lt⟩
theorem FrT.call {w w1 w2 : World} {c s : Nat} {cs : Array Value} (h : FrT w c s cs w1) (k : Kp none w1 w2) : FrT w c s cs w2 :=
  ⟨h.kp.trans k, h.box.kp k (by simp), h.res.kp k (by simp), h.mv.kp k (by simp), h.lt⟩
theorem FrT.set {w w1 : World} {c s : Nat} {cs : Array Value} (h : FrT w c s cs w1) (i : Nat) (u : Value) : FrT w c s (cs.setIfInBounds i u) (w1.setCell ⟨w.heap.size, i, none⟩ u) :=
  ⟨h.kp.setCell (Or.inl (Nat.le_refl _)) _, h.box.set i u, h.res.other (by show w.heap.size + 1 ≠ w.heap.size; omega) _, h.mv.other (by have := h.lt; show c ≠ w.heap.size; omega) _, h.lt⟩
/-- The cells of an instruction's block. -/
theorem Has.seven {w : World} {b : Nat} {op rd r1 r2 im od sz : Int} (h : Has w b 47 (I7 op rd r1 r2 im od sz)) :
    w.cell? ⟨b, 0, none⟩ = some (.int .i64 op) ∧ w.cell? ⟨b, 1, none⟩ = some (.int .i64 rd) ∧ w.cell? ⟨b, 2, none⟩ = some (.int .i64 r1) ∧ w.cell? ⟨b, 3, none⟩ = some (.int .i64 r2) ∧
    w.cell? ⟨b, 4, none⟩ = some (.int .i64 im) ∧ w.cell? ⟨b, 5, none⟩ = some (.int .i64 od) ∧ w.cell? ⟨b, 6, none⟩ = some (.int .i64 sz) :=
  ⟨h.cell 0, h.cell 1, h.cell 2, h.cell 3, h.cell 4, h.cell 5, h.cell 6⟩

theorem FrT.drew {w w1 : World} {c s : Nat} {cs : Array Value} (h : FrT w c s cs w1) : FrT w c s cs w1.drew := ⟨h.kp.drew, h.box, h.res, h.mv, h.lt⟩
theorem Has.seven_set {w : World} {b : Nat} (h : Has w b 47 (I7 0 0 0 0 0 0 0)) (v0 v1 v2 v3 v4 v5 v6 : Value) : Has (((((((w.setCell ⟨b, 0, none⟩ v0).setCell ⟨b, 1, none⟩ v1).setCell ⟨b, 2, none⟩ v2).setCell ⟨b, 3, none⟩ v3).setCell ⟨b, 4, none⟩ v4).setCell ⟨b, 5, none⟩ v5).setCell ⟨b, 6, none⟩ v6) b 47 #[v0, v1, v2, v3, v4, v5, v6] := by
  have := ((((((h.set 0 v0).set 1 v1).set 2 v2).set 3 v3).set 4 v4).set 5 v5).set 6 v6
  exact this
theorem Has.seven_other {w : World} {a b : Nat} {t : TypeId} {cs : Array Value} (h : Has w a t cs) (hn : a ≠ b) (v0 v1 v2 v3 v4 v5 v6 : Value) : Has (((((((w.setCell ⟨b, 0, none⟩ v0).setCell ⟨b, 1, none⟩ v1).setCell ⟨b, 2, none⟩ v2).setCell ⟨b, 3, none⟩ v3).setCell ⟨b, 4, none⟩ v4).setCell ⟨b, 5, none⟩ v5).setCell ⟨b, 6, none⟩ v6) a t cs :=
  ((((((h.other hn v0).other hn v1).other hn v2).other hn v3).other hn v4).other hn v5).other hn v6
theorem Kp.seven_set {o : Option Nat} {a w : World} (h : Kp o a w) {b : Nat} (hb : a.heap.size ≤ b) (v0 v1 v2 v3 v4 v5 v6 : Value) : Kp o a (((((((w.setCell ⟨b, 0, none⟩ v0).setCell ⟨b, 1, none⟩ v1).setCell ⟨b, 2, none⟩ v2).setCell ⟨b, 3, none⟩ v3).setCell ⟨b, 4, none⟩ v4).setCell ⟨b, 5, none⟩ v5).setCell ⟨b, 6, none⟩ v6) :=
  ((((((h.setCell (Or.inl hb) v0).setCell (Or.inl hb) v1).setCell (Or.inl hb) v2).setCell (Or.inl hb) v3).setCell (Or.inl hb) v4).setCell (Or.inl hb) v5).setCell (Or.inl hb) v6

end Go.Proofs.YtbngjbmfkekdnaaGreatDoor.Td
