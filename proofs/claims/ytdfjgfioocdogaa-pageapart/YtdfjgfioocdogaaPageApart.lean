/-
  For every place and all lists of bytes: a copy of a store and the store know nothing of each other, what was handed in and what was handed out may be changed, and a store that is none answers nothing: the law PageApart returns true. No condition.
-/
import Derived.Test.YtdfjgfioocdogaaRows
import Derived.Test.YtdfjgfioocdogaaPageL
import Derived.Test.YtdfjgfioocdogaaHead
import Derived.WalkKit
import Derived.ProofKit
import Derived.OpenShut
import Derived.ShutString
import Derived.ChangeOld
import Derived.Below
namespace Go.Proofs.Ytdfjgfioocdogaa.pageApart
open Go.ChangeShapes Go.WideShapes Go.ChangeAt Go.RowKit
open Go.ChangeMaps (open_string shut_string)
set_option linter.unusedVariables false
set_option linter.unusedSimpArgs false

theorem own : ownKnob Try.prog.godebug = none := by kernel_rfl
theorem laidOut : laidOutB Try.prog = true := by kernel_rfl

/-- WHAT THE WALK IS TOLD OF A SLICE OF INTEGERS THAT CAME IN: it is nil; or it leads to a row of 'cap' cells, the numbers 'zs' (the first 'len' are its elements, the rest its spare room), each fitting its kind. -/
def IsRow (k : IntKind) (w : World) (a : Option Addr) (len cap : Nat) (zs : List Int) : Prop :=
  (a = none ∧ len = 0 ∧ cap = 0 ∧ zs = []) ∨
  ∃ x, a = some x ∧ len ≤ cap ∧ cap ≤ maxLen ∧ zs.length = cap ∧ (∀ i, i < zs.length → w.cell? (x.add i) = some (.int k (zs.getD i 0))) ∧ ∀ n ∈ zs, (Lit.int k n).wf = true

theorem lessBl {S : Nat → Prop} {w w' : World} {sb n k : Nat} {f : Nat → Option Nat} {M : Nat → Int} (h : StoreAt S w sb n f k M) (bl : Bl w w') : StoreAt (less S w.heap.size) w' sb n f k M :=
  (h.among (T := less S w.heap.size) (fun b hb hS => ⟨hS, by omega⟩)).bl bl
theorem cnt_le (f : Nat → Option Nat) (a m : Nat) : cnt f a m ≤ m := by
  induction m with
  | zero => exact Nat.le_refl _
  | succ m ih => simp only [cnt]; split <;> omega
theorem topped_le (b : Int) : topped b ≤ 274877906944 := by unfold topped; split <;> omega
theorem held_zero {f f' : Nat → Option Nat} {k k' a : Nat} (h : Held f f' k k' a 0) : k' = k ∧ ∀ p, (f' p).isSome = (f p).isSome :=
  ⟨h.count, fun p => by rw [h.some_ p, decide_eq_false (by omega)]; simp⟩
theorem cell_add (g i : Nat) : (⟨g, 0, none⟩ : Addr).add i = ⟨g, i, none⟩ := by unfold Addr.add; split <;> simp_all
theorem last3 (xs : List Int) (len i : Nat) (hl : xs.length = len) (h : i < len) : lay (fun _ => 0) 274877906941 (xs.take (room 274877906941 len)) (274877906941 + i) = if i < 3 then xs.getD i 0 else 0 := by
  have hr : room 274877906941 len = min len 3 := rfl
  rw [hr]
  by_cases h3 : i < 3
  · rw [if_pos h3, lay_at _ _ _ _ (by rw [List.length_take]; omega), List.getD_eq_getElem?_getD, List.getD_eq_getElem?_getD, List.getElem?_take_of_lt (by omega)]
  · rw [if_neg h3, lay_out _ _ _ _ (by right; rw [List.length_take]; omega)]
set_option maxRecDepth 100000
theorem lay_first (zs : List Int) (a len : Nat) (M : Nat → Int) (hl : zs.length = len) (h0 : 0 < len) (ha : a < 274877906944) : lay M a (zs.take (room a len)) (a + 0) = zs.getD 0 0 := by
  have hr : 0 < room a len := by unfold room; omega
  rw [lay_at _ _ _ _ (by rw [List.length_take]; omega), List.getD_eq_getElem?_getD, List.getD_eq_getElem?_getD, List.getElem?_take_of_lt hr]
/-- A block of bytes, n of them at least, that may be written. -/
def Own (w : World) (g n : Nat) : Prop := ∃ cur, w.heap[g]? = some (.cells cur 5 (0, 0)) ∧ ∀ i, i < n → ∃ z, cur[i]? = some (.int .u8 z)
theorem Own.cell {w : World} {g n : Nat} (h : Own w g n) (i : Nat) (hi : i < n) : ∃ z, w.cell? ⟨g, i, none⟩ = some (.int .u8 z) := by
  obtain ⟨cur, hg, hc⟩ := h
  rw [cell_of_row _ _ _ _ _ _ hg]
  exact hc i hi
theorem Own.free {w : World} {g n : Nat} (h : Own w g n) (i : Nat) : w.frozen? ⟨g, i, none⟩ = false := by
  obtain ⟨cur, hg, _⟩ := h
  exact frozen_of_row w g i cur 5 hg
theorem Own.lt {w : World} {g n : Nat} (h : Own w g n) : g < w.heap.size := by obtain ⟨cur, hg, _⟩ := h; exact lt_at hg
theorem Own.set {w : World} {g n : Nat} (h : Own w g n) (i : Nat) (z : Int) : Own (w.setCell ⟨g, i, none⟩ (.int .u8 z)) g n := by
  obtain ⟨cur, hg, hc⟩ := h
  refine ⟨_, heap_setCell_same w g i cur 5 _ hg, fun j hj => ?_⟩
  by_cases e : i = j
  · subst e
    obtain ⟨y, hy⟩ := hc i hj
    have hlt : i < cur.size := (Array.getElem?_eq_some_iff.1 hy).1
    exact ⟨z, by rw [Array.getElem?_setIfInBounds, if_pos rfl, if_pos hlt]⟩
  · obtain ⟨y, hy⟩ := hc j hj
    exact ⟨y, by rw [Array.getElem?_setIfInBounds, if_neg e]; exact hy⟩
theorem Own.kept {S : Nat → Prop} {w w' : World} {g n : Nat} (h : Own w g n) (hf : Fr S w w') (hn : ¬ S g) : Own w' g n := by
  obtain ⟨cur, hg, hc⟩ := h
  exact ⟨cur, hf.at_ hg hn, hc⟩
theorem Own.of_bytes {w : World} {g : Nat} {xs : List Int} (h : w.heap[g]? = some (.cells (asBytes xs).toArray 5 (0, 0))) : Own w g xs.length :=
  ⟨_, h, fun i hi => ⟨_, by simp only [List.getElem?_toArray]; exact asBytes_at xs i hi⟩⟩
theorem Rd.of_bytes {w : World} {g : Nat} {xs : List Int} (h : w.heap[g]? = some (.cells (asBytes xs).toArray 5 (0, 0))) : Rd w (some ⟨g, 0, none⟩) xs := by
  intro _
  refine ⟨_, rfl, fun i hi => ?_⟩
  rw [cell_add, cell_of_row _ _ _ _ _ _ h]
  simp only [List.getElem?_toArray]
  exact asBytes_at xs i hi
theorem own_empty (w : World) : (w.alloc (.cells #[] 5)).ownsRow w.heap.size 5 1 (.slice (some ⟨w.heap.size, 0, none⟩) 0 0) 0 (asBytes []) :=
  World.ownsRow_lit w #[] 0 (Nat.le_refl _) (by simp [maxLen]) (by simp)
/-- A new copy of a slice, of the call's own. -/
theorem clone_own (W : World) (A : Option Addr) (len cap : Nat) (xs : List Int) (hr : Rd W A xs) (hl : xs.length = len) (hc : A = none → cap = 0) (hm : len ≤ 5100) (h1 : 1 ≤ len) :
    ∃ g c w1, (Builtin.append_ #[29, 29] 29 #[.slice (some ⟨W.heap.size, 0, none⟩) 0 0, .slice A len cap]).run Try.prog (W.alloc (.cells #[] 5)) = .ok (.slice (some ⟨g, 0, none⟩) len c) w1 ∧ W.heap.size ≤ g ∧ Own w1 g len ∧ len ≤ c ∧ Rd w1 (some ⟨g, 0, none⟩) xs ∧ Bl W w1 := by
  obtain ⟨i0, hi0, hz0, hz1, hz2⟩ := info_parts infoByte
  obtain ⟨v', w', r1, h2, h3⟩ := run_appended (P := Try.prog) (W.alloc (.cells #[] 5)) 29 5 29 W.heap.size i0 Try.underlying29 hi0 hz0 hz1 hz2 _ 0 [] (own_empty W) A len cap xs (hr.below ((Below.refl _ _).alloc (Nat.le_refl _) _)) hl hc (by omega) (by simp)
  have hbl : Bl W w' := ((Below.refl _ _).alloc (Nat.le_refl _) _).grown h3 (by simp) (fun k hk => ((own_empty W).lt k hk).1)
  simp only [List.nil_append, Nat.zero_add] at h2
  rcases h2.2 with ⟨rfl, h0⟩ | ⟨g, cp, cur, rfl, hb, hh, hnc, hcm, hcs, ht⟩
  · omega
  · have hcell : ∀ i, i < len → w'.cell? ⟨g, i, none⟩ = some (.int .u8 (xs.getD i 0)) := fun i hi => by
      have := h2.cells (g := g) rfl i _ (asBytes_at xs i (by omega))
      rwa [cell_add] at this
    refine ⟨g, cp, w', by simpa using r1, hb, ⟨cur, hh, fun i hi => ⟨xs.getD i 0, ?_⟩⟩, hnc, fun _ => ⟨_, rfl, fun i hi => by rw [cell_add]; exact hcell i (by omega)⟩, hbl⟩
    rw [← cell_of_row w' g i cur 5 (0, 0) hh]
    exact hcell i hi

/-! ### The walk: the Go text returns true -/
set_option maxHeartbeats 40000000 in
theorem walk (a0 : Int) (a1 : Option Addr) (len1 cap1 : Nat) (z1 : List Int) (a2 : Option Addr) (len2 cap2 : Nat) (z2 : List Int) (w : World) (w0 : (Lit.int .u64 a0).wf = true) (w1 : IsRow .u8 w a1 len1 cap1 z1) (w2 : IsRow .u8 w a2 len2 cap2 z2) :
    Calls Try.prog 4 #[.int .u64 a0, .slice a1 len1 cap1, .slice a2 len2 cap2] w fun e w' => e = .returned (.bool true) ∧ Below w.heap.size w w' := by
  obtain ⟨hr1, hl1, hc1, hlc1, hblk1⟩ := isRow_rd (show IsRow' .u8 w a1 len1 cap1 z1 from w1)
  obtain ⟨hr2, hl2, hc2, hlc2, hblk2⟩ := isRow_rd (show IsRow' .u8 w a2 len2 cap2 z2 from w2)
  clear w1 w2
  generalize z1.take len1 = xs at *
  generalize z2.take len2 = zs at *
  obtain ⟨ha0, ha1⟩ := u64_bounds w0
  clear w0
  by_cases hb1 : 1000 < len1
  · have hbI : (1000 : Int) < (len1 : Int) := by omega
    clear hr1 hl1 hc1 hlc1 hblk1 hr2 hl2 hc2 hlc2 hblk2 hb1
    go_enter Try.func4, Try.ntmps4
    go_wp2_with fail
    refine (new_any (from_ w.heap.size) w (Nat.le_refl _)).mono ?_
    rintro e u1 ⟨rfl, _, bl1, _⟩
    unfold addr0
    have BL1 := Lib.hid bl1; clear bl1
    go_wp2_with fail
    refine (answers_any _).mono ?_
    rintro e u2 ⟨rfl, bl2⟩
    have BL2 := Lib.hid bl2; clear bl2
    go_wp2_with fail
    refine (answers_any _).mono ?_
    rintro e u3 ⟨rfl, bl3⟩
    go_wp2_with fail
    go_ret
    exact ⟨rfl, (BL1.out.trans BL2.out).trans bl3⟩
  by_cases hb2 : 1000 < len2
  · have hbI : (1000 : Int) < (len2 : Int) := by omega
    have hbJ : (len1 : Int) ≤ 1000 := by omega
    clear hr1 hl1 hc1 hlc1 hblk1 hr2 hl2 hc2 hlc2 hblk2 hb1 hb2
    go_enter Try.func4, Try.ntmps4
    go_wp2_with fail
    refine (new_any (from_ w.heap.size) w (Nat.le_refl _)).mono ?_
    rintro e u1 ⟨rfl, _, bl1, _⟩
    unfold addr0
    have BL1 := Lib.hid bl1; clear bl1
    go_wp2_with fail
    refine (answers_any _).mono ?_
    rintro e u2 ⟨rfl, bl2⟩
    have BL2 := Lib.hid bl2; clear bl2
    go_wp2_with fail
    refine (answers_any _).mono ?_
    rintro e u3 ⟨rfl, bl3⟩
    go_wp2_with fail
    go_ret
    exact ⟨rfl, (BL1.out.trans BL2.out).trans bl3⟩
  by_cases hb3 : len1 = 0
  · subst hb3
    have hbI : (len2 : Int) ≤ 1000 := by omega
    clear hr1 hl1 hc1 hlc1 hblk1 hr2 hl2 hc2 hlc2 hblk2 hb1 hb2
    go_enter Try.func4, Try.ntmps4
    go_wp2_with fail
    refine (new_any (from_ w.heap.size) w (Nat.le_refl _)).mono ?_
    rintro e u1 ⟨rfl, _, bl1, _⟩
    unfold addr0
    have BL1 := Lib.hid bl1; clear bl1
    go_wp2_with fail
    refine (answers_any _).mono ?_
    rintro e u2 ⟨rfl, bl2⟩
    have BL2 := Lib.hid bl2; clear bl2
    go_wp2_with fail
    refine (answers_any _).mono ?_
    rintro e u3 ⟨rfl, bl3⟩
    go_wp2_with fail
    go_ret
    exact ⟨rfl, (BL1.out.trans BL2.out).trans bl3⟩
  have s1 : (len1 : Int) ≤ 1000 := by omega
  have s2 : (len2 : Int) ≤ 1000 := by omega
  have s3 : (0 : Int) < (len1 : Int) := by omega
  have s4 : ((len1 : Int) == 0) = false := by simp; omega
  have n1 : len1 ≤ 1000 := by omega
  have n2 : len2 ≤ 1000 := by omega
  have n3 : 1 ≤ len1 := by omega
  clear hb1 hb2 hb3
  have R1 := Lib.hid hr1; clear hr1
  have R2 := Lib.hid hr2; clear hr2
  have L1 := Lib.hid hl1; clear hl1
  have L2 := Lib.hid hl2; clear hl2
  have C1 := Lib.hid hc1; clear hc1
  have B1 := Lib.hid hblk1; clear hblk1
  have B2 := Lib.hid hblk2; clear hblk2
  go_enter Try.func4, Try.ntmps4
  go_wp2_with fail
  refine (new_any (from_ w.heap.size) w (Nat.le_refl _)).mono ?_
  rintro e u1 ⟨rfl, h1, bl1, _⟩
  unfold addr0
  have BL1 := Lib.hid bl1; clear bl1
  have H1 := Lib.hid h1; clear h1
  go_wp2_with fail
  refine (answers_any _).mono ?_
  rintro e u2 ⟨rfl, bl2⟩
  have BL2 := Lib.hid bl2; clear bl2
  go_wp2_with fail
  refine (near_any a0 _ ha0 ha1).mono ?_
  rintro e u2' ⟨at_, rfl, hat, rfl⟩
  have HAT := Lib.hid hat; clear hat
  have bl2 := BL1.out.trans BL2.out
  obtain ⟨g, cg, u3, run3, hg3, own3, hcg, rd3, bl3⟩ := clone_own u2 a1 len1 cap1 xs (R1.out.below bl2) L1.out C1.out (by omega) n3
  have BLW := Lib.hid bl2; clear bl2
  have OWN3 := Lib.hid own3; clear own3
  have RD3 := Lib.hid rd3; clear rd3
  have BL3 := Lib.hid bl3; clear bl3
  have HG3 := Lib.hid hg3; clear hg3
  go_wp2_with (at_builtin; refine wpl_append_run rfl (.tmp 44) (.tmp 45) 29 rfl _ _ _ rfl rfl run3 ?_)
  clear run3
  have st3 : StoreAt (less (from_ w.heap.size) g) u3 w.heap.size 0 (fun _ => none) 0 (fun _ => 0) := ((H1.out.bl BL2.out).among (T := less (from_ w.heap.size) g) (fun b hb hs => ⟨hs, by have := HG3.out; omega⟩)).bl BL3.out
  have hg3l := OWN3.out.lt
  have hS3 : ∀ b, u3.heap.size ≤ b → less (from_ w.heap.size) g b := fun b hb => ⟨Nat.le_trans (BLW.out.trans BL3.out).size hb, by omega⟩
  refine (write_any st3 at_ (some ⟨g, 0, none⟩) len1 cg xs RD3.out L1.out hcg (fun _ ad had hs => by cases had; exact hs.2 rfl) (by have := HAT.out; omega) (by omega) (by decide) hS3).mono ?_
  rintro e u4 ⟨rfl, f4, k4, h4, fr4, _⟩
  have hpg : pagesOf at_ (xs.take (room at_ len1)).length ≤ 2 := by
    have h0 : (xs.take (room at_ len1)).length ≤ 1000 := by rw [List.length_take, L1.out]; omega
    unfold pagesOf; split <;> omega
  have h4' := h4.mono (m := 10) (by omega)
  have own4 := OWN3.out.kept fr4 (fun e => e.2 rfl)
  have frw4 : Fr (from_ w.heap.size) w u4 := (Fr.of_bl (BLW.out.trans BL3.out)).trans (fr4.mono fun _ _ e => e.1)
  have hgw : w.heap.size ≤ g := Nat.le_trans BLW.out.size HG3.out
  clear h4 hpg st3 hg3l hS3 fr4
  generalize lay (fun _ => 0) at_ (xs.take (room at_ len1)) = M at *
  have H4 := Lib.hid h4'; clear h4'
  have OWN4 := Lib.hid own4; clear own4
  have FR4 := Lib.hid frw4; clear frw4
  have HGW := Lib.hid hgw; clear hgw
  clear H1 BL1 BL2 BLW OWN3 RD3 BL3 HG3 ha0 ha1
  go_wp2_with fail
  go_loopw [9] (fun i wr => ∃ k : Nat, k ≤ len1 ∧ i = .int .i64 k ∧ Own wr g len1 ∧ StoreAt (less (from_ w.heap.size) g) wr w.heap.size 10 f4 k4 M ∧ Fr (from_ w.heap.size) w wr) (fun i _ => len1 - (intOf i).toNat)
  case atStart => exact ⟨0, by omega, rfl, OWN4.out, H4.out, FR4.out⟩
  case round =>
    obtain ⟨k, hk, rfl, hown, hst, hfr⟩ := hrel
    clear OWN4 H4 FR4
    have HOWN := Lib.hid hown; clear hown
    have HST := Lib.hid hst; clear hst
    have HFR := Lib.hid hfr; clear hfr
    by_cases hlt : k < len1
    · obtain ⟨z, hz⟩ := HOWN.out.cell k hlt
      have hfz := HOWN.out.free k
      have hkI : (k : Int) < (len1 : Int) := by omega
      have own5 := HOWN.out.set k (IntKind.u8.wrap (z + 1))
      have frs : Fr (fun b => b = g) wr (wr.setCell ⟨g, k, none⟩ (.int .u8 (IntKind.u8.wrap (z + 1)))) := Fr.set (S := fun b => b = g) (p := ⟨g, k, none⟩) rfl _
      have st5 := HST.out.kept frs (fun b hb e => hb.2 e)
      have fr5 := HFR.out.trans (frs.mono (T := from_ w.heap.size) fun b _ e => by rw [e]; exact HGW.out)
      have OWN5 := Lib.hid own5; clear own5 frs
      have ST5 := Lib.hid st5; clear st5
      have FR5 := Lib.hid fr5; clear fr5
      go_wp2_with fail
      refine ⟨⟨k + 1, by omega, by go_num, OWN5.out, ST5.out, FR5.out⟩, ?_⟩
      simp only [intOf]; omega
    · obtain rfl : k = len1 := by omega
      clear hlt
      obtain ⟨V, hV⟩ : ∃ V, V = wr := ⟨_, rfl⟩
      subst hV
      go_wp2_with fail
      refine (copy_any HST.out (by decide)).mono ?_
      rintro e u6 ⟨cb, f6, k6, rfl, h6, bl6⟩
      unfold addr0
      have hs6 : StoreAt (fun b => less (from_ w.heap.size) g b ∧ b < V.heap.size) u6 w.heap.size 10 f4 k4 M := (HST.out.among (T := fun b => less (from_ w.heap.size) g b ∧ b < V.heap.size) (fun b hb hs => ⟨hs, hb⟩)).bl bl6
      have hc6 : StoreAt (fun b => V.heap.size ≤ b ∧ b < u6.heap.size) u6 cb 10 f6 k6 M := h6.among (T := fun b => V.heap.size ≤ b ∧ b < u6.heap.size) (fun b hb hs => ⟨hs, hb⟩)
      have fr6 := HFR.out.trans (Fr.of_bl bl6)
      have z6 := bl6.size
      have HS6 := Lib.hid hs6; clear hs6 h6 bl6
      have HC6 := Lib.hid hc6; clear hc6
      have FR6 := Lib.hid fr6; clear fr6
      have Z6 := Lib.hid z6; clear z6
      go_wp2_with fail
      refine (read_any HS6.out at_ k (by have := HAT.out; omega) (by omega) (by omega)).mono ?_
      rintro e u7 ⟨rfl, hg7, bl7⟩
      have HG7 := Lib.hid hg7; clear hg7
      have BL7 := Lib.hid bl7; clear bl7
      go_wp2_with fail
      refine (read_any (HS6.out.bl BL7.out) at_ k (by have := HAT.out; omega) (by omega) (by omega)).mono ?_
      rintro e u8 ⟨rfl, hg8, bl8⟩
      have own8 : Own u8 u7.heap.size k := by have := Own.of_bytes hg8; rwa [bytesAt_length] at this
      have bl78 := BL7.out.trans bl8
      have hgb8 := bl8.at_ HG7.out
      have z7 : u6.heap.size < u7.heap.size := lt_at HG7.out
      have OWN8 := Lib.hid own8; clear own8 hg8 bl8
      have BL78 := Lib.hid bl78; clear bl78
      have HGB8 := Lib.hid hgb8; clear hgb8
      have Z7 := Lib.hid z7; clear z7
      have fr8 : Fr (fun b => b = u7.heap.size) u8 u8 := Fr.refl _ _
      have FR8 := Lib.hid fr8; clear fr8
      go_wp2_with fail
      go_loopw [13] (fun i wq => ∃ j : Nat, j ≤ k ∧ i = .int .i64 j ∧ Own wq u7.heap.size k ∧ Fr (fun b => b = u7.heap.size) u8 wq) (fun i _ => k - (intOf i).toNat)
      case atStart => exact ⟨0, by omega, rfl, OWN8.out, FR8.out⟩
      case round =>
        obtain ⟨j, hj, rfl, hown, hfr⟩ := hrel
        clear OWN8 FR8
        have HOW := Lib.hid hown; clear hown
        have HFQ := Lib.hid hfr; clear hfr
        by_cases hlt : j < k
        · obtain ⟨z, hz⟩ := HOW.out.cell j hlt
          have hfz := HOW.out.free j
          have hjI : (j : Int) < (k : Int) := by omega
          have own5 := HOW.out.set j (IntKind.u8.wrap (z + 1))
          have fr5 : Fr (fun b => b = u7.heap.size) u8 (wr.setCell ⟨u7.heap.size, j, none⟩ (.int .u8 (IntKind.u8.wrap (z + 1)))) := HFQ.out.trans (Fr.set (S := fun b => b = u7.heap.size) (p := ⟨u7.heap.size, j, none⟩) rfl _)
          have OWN5 := Lib.hid own5; clear own5
          have FR5 := Lib.hid fr5; clear fr5
          go_wp2_with fail
          refine ⟨⟨j + 1, by omega, by go_num, OWN5.out, FR5.out⟩, ?_⟩
          simp only [intOf]; omega
        · obtain rfl : j = k := by omega
          clear hlt
          obtain ⟨Q, hQ⟩ : ∃ Q, Q = wr := ⟨_, rfl⟩
          subst hQ
          have zV : V.heap.size ≤ u6.heap.size := Z6.out
          have z67 := Z7.out
          have z8 := BL78.out.size
          have zQ := HFQ.out.size
          have z78 : u7.heap.size < u8.heap.size ∨ True := .inr trivial
          have zo := HOW.out.lt
          have sQ := (HS6.out.bl BL78.out).kept HFQ.out (fun b hb e => by have := hb.2; omega)
          have cQ := (HC6.out.bl BL78.out).kept HFQ.out (fun b hb e => by have := hb.2; omega)
          have gQ := HFQ.out.at_ HGB8.out (fun e => by have e : u6.heap.size = u7.heap.size := e; omega)
          have zw : w.heap.size ≤ V.heap.size := HFR.out.size
          have frQ : Fr (from_ w.heap.size) w Q := (FR6.out.trans (Fr.of_bl BL78.out)).trans (HFQ.out.mono fun b _ e => by rw [e]; exact (show w.heap.size ≤ u7.heap.size by omega))
          have hcw : StoreAt (fun b => (V.heap.size ≤ b ∧ b < u6.heap.size) ∨ Q.heap.size ≤ b) Q cb 10 f6 k6 M := cQ.among (T := fun b => (V.heap.size ≤ b ∧ b < u6.heap.size) ∨ Q.heap.size ≤ b) (fun b hb hs => .inl hs)
          have rd2 := R2.out.below (frQ.bl (fun k hk hs => Nat.not_le_of_lt hk hs))
          have hout : 0 < len2 → ∀ ad, a2 = some ad → ¬ ((V.heap.size ≤ ad.block ∧ ad.block < u6.heap.size) ∨ Q.heap.size ≤ ad.block) := fun h0 ad had hs => by
            have h1 := B2.out ad had (by omega)
            rcases hs with hs | hs
            · omega
            · omega
          have SQ := Lib.hid sQ; clear sQ
          have GQ := Lib.hid gQ; clear gQ
          have FRQ := Lib.hid frQ; clear frQ
          have HCW := Lib.hid hcw; clear hcw cQ
          have RD2 := Lib.hid rd2; clear rd2
          have HOUT := Lib.hid hout; clear hout
          go_wp2_with fail
          refine (write_any HCW.out at_ a2 len2 cap2 zs RD2.out L2.out hlc2 HOUT.out (by have := HAT.out; omega) (by omega) (by decide) (fun b hb => .inr hb)).mono ?_
          rintro e u10 ⟨rfl, f10, k10, h10, fr10, _⟩
          have s10 := SQ.out.kept fr10 (fun b hb e => by have := hb.2; rcases e with e | e <;> omega)
          have g10 := fr10.at_ GQ.out (fun e => by rcases e with e | e <;> omega)
          have z10 := fr10.size
          have fr10' := FRQ.out.trans (fr10.mono (T := from_ w.heap.size) fun b _ e => by
            rcases e with e | e
            · exact (show w.heap.size ≤ b by omega)
            · exact (show w.heap.size ≤ b by omega))
          have S10 := Lib.hid s10; clear s10
          have G10 := Lib.hid g10; clear g10
          have H10 := Lib.hid h10; clear h10
          have FR10 := Lib.hid fr10'; clear fr10' fr10
          go_wp2_with fail
          refine (read_any S10.out at_ j (by have := HAT.out; omega) (by omega) (by omega)).mono ?_
          rintro e u11 ⟨rfl, hg11, bl11⟩
          have rdA := Rd.of_bytes hg11
          have rdB := Rd.of_bytes (bl11.at_ G10.out)
          have RDA := Lib.hid rdA; clear rdA hg11
          have RDB := Lib.hid rdB; clear rdB
          have BL11 := Lib.hid bl11; clear bl11
          go_wp2_with fail
          refine (same_any _ _ j _ _ (bytesAt M at_ j) _ RDA.out RDB.out (bytesAt_length _ _ _) (by omega)).mono ?_
          rintro e u12 ⟨rfl, bl12⟩
          have bl1012 := BL11.out.trans bl12
          have z12 := bl1012.size
          have s12 : StoreAt (fun b => (less (from_ w.heap.size) g b ∧ b < V.heap.size) ∨ u12.heap.size ≤ b) u12 w.heap.size 10 f4 k4 M := (S10.out.bl bl1012).among (T := fun b => (less (from_ w.heap.size) g b ∧ b < V.heap.size) ∨ u12.heap.size ≤ b) (fun b hb hs => .inl hs)
          have c12 := (H10.out.bl bl1012).among (T := fun b => V.heap.size ≤ b ∧ b < u12.heap.size) (fun b hb hs => ⟨by rcases hs with hs | hs <;> omega, hb⟩)
          have fr12 := FR10.out.trans (Fr.of_bl bl1012)
          have S12 := Lib.hid s12; clear s12 bl1012 bl12
          have C12 := Lib.hid c12; clear c12
          have FR12 := Lib.hid fr12; clear fr12
          go_wp2_with fail
          refine (clear_all S12.out (fun b hb => .inr hb)).mono ?_
          rintro e u13 ⟨rfl, fr13⟩
          have c13 := C12.out.kept fr13 (fun b hb e => by rcases e with e | e <;> omega)
          have fr13' := FR12.out.trans (fr13.mono (T := from_ w.heap.size) fun b _ e => by
            rcases e with e | e
            · exact e.1.1
            · exact (show w.heap.size ≤ b by omega))
          have C13 := Lib.hid c13; clear c13
          have FR13 := Lib.hid fr13'; clear fr13' fr13
          go_wp2_with fail
          refine (write_nil _ _ _ _ _).mono ?_
          rintro e u14 ⟨rfl, rfl⟩
          go_wp2_with fail
          refine (clear_nil _ _).mono ?_
          rintro e u15 ⟨rfl, bl15⟩
          have BL15 := Lib.hid bl15; clear bl15
          go_wp2_with fail
          refine (touch_nil _ _).mono ?_
          rintro e u16 ⟨rfl, bl16⟩
          have c16 := C13.out.bl (BL15.out.trans bl16)
          have fr16 := FR13.out.trans (Fr.of_bl (BL15.out.trans bl16))
          have rd16 := R2.out.below (fr16.bl (fun k hk hs => Nat.not_le_of_lt hk hs))
          have bl16' := fr16.bl (fun k hk hs => Nat.not_le_of_lt hk hs)
          have C16 := Lib.hid c16; clear c16 bl16 fr16
          have BL16 := Lib.hid bl16'; clear bl16'
          have RD16 := Lib.hid rd16; clear rd16
          clear zV z67 z8 zQ z78 zo zw z10 z12
          clear HOWN HST HFR HS6 HC6 FR6 Z6 HG7 BL7 BL78 HGB8 Z7 HOW HFQ SQ GQ FRQ HCW RD2 HOUT S10 G10 H10 FR10 RDA RDB BL11 S12 C12 FR12 C13 FR13 BL15
          go_wp2_with fail
          have cr := fun W => read_nil (w := W) 0 5
          have ch := fun W => held_nil (w := W)
          have cs := fun W => stamp_none (w := W) 0
          have cc := fun W => copy_nil (w := W)
          have CR := Lib.hid cr; clear cr
          have CH := Lib.hid ch; clear ch
          have CS := Lib.hid cs; clear cs
          have CC := Lib.hid cc; clear cc
          obtain ⟨o0, ho0⟩ : ∃ o0, o0 = zs.getD 0 0 := ⟨_, rfl⟩
          have hoc : ∀ b off, a2 = some ⟨b, off, none⟩ → 0 < len2 → u16.drew.cell? ⟨b, off, none⟩ = some (.int .u8 o0) := fun b off hA h0 => by
            obtain ⟨b', off', hA', hc⟩ := RD16.out.at_ 0 (by rw [L2.out]; exact h0)
            rw [hA] at hA'; cases hA'
            rw [ho0]
            exact hc
          have HO0 := Lib.hid ho0; clear ho0
          have HOC := Lib.hid hoc; clear hoc
          refine wp_region_hd 39 (fun w' => Bl u16 w' ∧ ∀ b off, a2 = some ⟨b, off, none⟩ → 0 < len2 → w'.cell? ⟨b, off, none⟩ = some (.int .u8 o0)) (by kernel_rfl) (by decide) ⟨(Bl.refl _).drew, HOC.out⟩ (fun hHeld => ?_)
          refine wpHd_take (i := 0) (v := ?_) rfl (by kernel_rfl) (fun _ _ _ h => h) (Or.inl ⟨by rfl, ?hy⟩) hHeld ?_
          case hy => (intro w hSw; (try dsimp only at hSw); go_split_ands; go_simp; try (with_reducible rfl))
          (try simp only [Act.put, List.getElem_toArray, List.getElem_cons_zero, List.getElem_cons_succ, List.setIfInBounds_toArray, List.set_cons_zero, List.set_cons_succ])
          refine wpHd_one (i := 1) rfl (by kernel_rfl) (fun K hK => ?_)
          go_simp
          refine (CR.out _).mono ?_
          rintro e w2 ⟨rfl, rfl⟩
          refine hK.out _ _ ?_ (fun hHeld => ?_)
          · exact hHeld
          clear hK K
          (try simp only [Act.put, List.getElem_toArray, List.getElem_cons_zero, List.getElem_cons_succ, List.setIfInBounds_toArray, List.set_cons_zero, List.set_cons_succ])
          refine wpHd_take (i := 2) (v := ?_) rfl (by kernel_rfl) (fun _ _ _ h => h) (Or.inl ⟨by rfl, ?hy⟩) hHeld ?_
          case hy => (intro w hSw; (try dsimp only at hSw); go_split_ands; go_simp; try (with_reducible rfl))
          (try simp only [Act.put, List.getElem_toArray, List.getElem_cons_zero, List.getElem_cons_succ, List.setIfInBounds_toArray, List.set_cons_zero, List.set_cons_succ])
          refine wpHd_take (i := 3) (v := ?_) rfl (by kernel_rfl) (fun _ _ _ h => h) (Or.inl ⟨by rfl, ?hy⟩) hHeld ?_
          case hy => (intro w hSw; (try dsimp only at hSw); go_split_ands; go_simp; try (with_reducible rfl))
          (try simp only [Act.put, List.getElem_toArray, List.getElem_cons_zero, List.getElem_cons_succ, List.setIfInBounds_toArray, List.set_cons_zero, List.set_cons_succ])
          refine wpHd_take (i := 4) (v := ?_) rfl (by kernel_rfl) (fun _ _ _ h => h) (Or.inl ⟨by rfl, ?hy⟩) hHeld ?_
          case hy => (intro w hSw; (try dsimp only at hSw); go_split_ands; go_simp; try (with_reducible rfl))
          (try simp only [Act.put, List.getElem_toArray, List.getElem_cons_zero, List.getElem_cons_succ, List.setIfInBounds_toArray, List.set_cons_zero, List.set_cons_succ])
          refine wpHd_take (i := 5) (v := ?_) rfl (by kernel_rfl) (fun _ _ _ h => h) (Or.inl ⟨by rfl, ?hy⟩) hHeld ?_
          case hy => (intro w hSw; (try dsimp only at hSw); go_split_ands; go_simp; try (with_reducible rfl))
          (try simp only [Act.put, List.getElem_toArray, List.getElem_cons_zero, List.getElem_cons_succ, List.setIfInBounds_toArray, List.set_cons_zero, List.set_cons_succ])
          refine wpHd_one (i := 6) rfl (by kernel_rfl) (fun K hK => ?_)
          go_simp
          refine (CH.out _).mono ?_
          rintro e w2 ⟨rfl, rfl⟩
          refine hK.out _ _ ?_ (fun hHeld => ?_)
          · exact hHeld
          clear hK K
          (try simp only [Act.put, List.getElem_toArray, List.getElem_cons_zero, List.getElem_cons_succ, List.setIfInBounds_toArray, List.set_cons_zero, List.set_cons_succ])
          refine wpHd_take (i := 7) (v := ?_) rfl (by kernel_rfl) (fun _ _ _ h => h) (Or.inl ⟨by rfl, ?hy⟩) hHeld ?_
          case hy => (intro w hSw; (try dsimp only at hSw); go_split_ands; go_simp; try (with_reducible rfl))
          (try simp only [Act.put, List.getElem_toArray, List.getElem_cons_zero, List.getElem_cons_succ, List.setIfInBounds_toArray, List.set_cons_zero, List.set_cons_succ])
          refine wpHd_take (i := 8) (v := ?_) rfl (by kernel_rfl) (fun _ _ _ h => h) (Or.inl ⟨by rfl, ?hy⟩) hHeld ?_
          case hy => (intro w hSw; (try dsimp only at hSw); go_split_ands; go_simp; try (with_reducible rfl))
          (try simp only [Act.put, List.getElem_toArray, List.getElem_cons_zero, List.getElem_cons_succ, List.setIfInBounds_toArray, List.set_cons_zero, List.set_cons_succ])
          refine wpHd_take (i := 9) (v := ?_) rfl (by kernel_rfl) (fun _ _ _ h => h) (Or.inl ⟨by rfl, ?hy⟩) hHeld ?_
          case hy => (intro w hSw; (try dsimp only at hSw); go_split_ands; go_simp; try (with_reducible rfl))
          (try simp only [Act.put, List.getElem_toArray, List.getElem_cons_zero, List.getElem_cons_succ, List.setIfInBounds_toArray, List.set_cons_zero, List.set_cons_succ])
          refine wpHd_take (i := 10) (v := ?_) rfl (by kernel_rfl) (fun _ _ _ h => h) (Or.inl ⟨by rfl, ?hy⟩) hHeld ?_
          case hy => (intro w hSw; (try dsimp only at hSw); go_split_ands; go_simp; try (with_reducible rfl))
          (try simp only [Act.put, List.getElem_toArray, List.getElem_cons_zero, List.getElem_cons_succ, List.setIfInBounds_toArray, List.set_cons_zero, List.set_cons_succ])
          refine wpHd_one (i := 11) rfl (by kernel_rfl) (fun K hK => ?_)
          go_simp
          refine (CS.out _).mono ?_
          rintro e w2 ⟨rfl, rfl⟩
          refine hK.out _ _ ?_ (fun hHeld => ?_)
          · exact hHeld
          clear hK K
          (try simp only [Act.put, List.getElem_toArray, List.getElem_cons_zero, List.getElem_cons_succ, List.setIfInBounds_toArray, List.set_cons_zero, List.set_cons_succ])
          refine wpHd_take (i := 12) (v := ?_) rfl (by kernel_rfl) (fun _ _ _ h => h) (Or.inl ⟨by rfl, ?hy⟩) hHeld ?_
          case hy => (intro w hSw; (try dsimp only at hSw); go_split_ands; go_simp; try (with_reducible rfl))
          (try simp only [Act.put, List.getElem_toArray, List.getElem_cons_zero, List.getElem_cons_succ, List.setIfInBounds_toArray, List.set_cons_zero, List.set_cons_succ])
          refine wpHd_take (i := 13) (v := ?_) rfl (by kernel_rfl) (fun _ _ _ h => h) (Or.inl ⟨by rfl, ?hy⟩) hHeld ?_
          case hy => (intro w hSw; (try dsimp only at hSw); go_split_ands; go_simp; try (with_reducible rfl))
          (try simp only [Act.put, List.getElem_toArray, List.getElem_cons_zero, List.getElem_cons_succ, List.setIfInBounds_toArray, List.set_cons_zero, List.set_cons_succ])
          refine wpHd_take (i := 14) (v := ?_) rfl (by kernel_rfl) (fun _ _ _ h => h) (Or.inl ⟨by rfl, ?hy⟩) hHeld ?_
          case hy => (intro w hSw; (try dsimp only at hSw); go_split_ands; go_simp; try (with_reducible rfl))
          (try simp only [Act.put, List.getElem_toArray, List.getElem_cons_zero, List.getElem_cons_succ, List.setIfInBounds_toArray, List.set_cons_zero, List.set_cons_succ])
          refine wpHd_take (i := 15) (v := ?_) rfl (by kernel_rfl) (fun _ _ _ h => h) (Or.inl ⟨by rfl, ?hy⟩) hHeld ?_
          case hy => (intro w hSw; (try dsimp only at hSw); go_split_ands; go_simp; try (with_reducible rfl))
          (try simp only [Act.put, List.getElem_toArray, List.getElem_cons_zero, List.getElem_cons_succ, List.setIfInBounds_toArray, List.set_cons_zero, List.set_cons_succ])
          refine wpHd_one (i := 16) rfl (by kernel_rfl) (fun K hK => ?_)
          go_simp
          refine (CC.out _).mono ?_
          rintro e w2 ⟨rfl, rfl⟩
          refine hK.out _ _ ?_ (fun hHeld => ?_)
          · exact hHeld
          clear hK K
          (try simp only [Act.put, List.getElem_toArray, List.getElem_cons_zero, List.getElem_cons_succ, List.setIfInBounds_toArray, List.set_cons_zero, List.set_cons_succ])
          refine wpHd_take (i := 17) (v := ?_) rfl (by kernel_rfl) (fun _ _ _ h => h) (Or.inl ⟨by rfl, ?hy⟩) hHeld ?_
          case hy => (intro w hSw; (try dsimp only at hSw); go_split_ands; go_simp; try (with_reducible rfl))
          (try simp only [Act.put, List.getElem_toArray, List.getElem_cons_zero, List.getElem_cons_succ, List.setIfInBounds_toArray, List.set_cons_zero, List.set_cons_succ])
          refine wpHd_take (i := 18) (v := ?_) rfl (by kernel_rfl) (fun _ _ _ h => h) (Or.inl ⟨by rfl, ?hy⟩) hHeld ?_
          case hy => (intro w hSw; (try dsimp only at hSw); go_split_ands; go_simp; try (with_reducible rfl))
          (try simp only [Act.put, List.getElem_toArray, List.getElem_cons_zero, List.getElem_cons_succ, List.setIfInBounds_toArray, List.set_cons_zero, List.set_cons_succ])
          refine wpHd_take (i := 19) (v := ?_) rfl (by kernel_rfl) (fun _ _ _ h => h) (Or.inl ⟨by rfl, ?hy⟩) hHeld ?_
          case hy => (intro w hSw; (try dsimp only at hSw); go_split_ands; go_simp; try (with_reducible rfl))
          (try simp only [Act.put, List.getElem_toArray, List.getElem_cons_zero, List.getElem_cons_succ, List.setIfInBounds_toArray, List.set_cons_zero, List.set_cons_succ])
          refine wpHd_take (i := 20) (v := ?_) rfl (by kernel_rfl) (fun _ _ _ h => h) (Or.inl ⟨by rfl, ?hy⟩) hHeld ?_
          case hy => (intro w hSw; (try dsimp only at hSw); go_split_ands; go_simp; try (with_reducible rfl))
          (try simp only [Act.put, List.getElem_toArray, List.getElem_cons_zero, List.getElem_cons_succ, List.setIfInBounds_toArray, List.set_cons_zero, List.set_cons_succ])
          refine wpHd_take (i := 21) (v := ?_) rfl (by kernel_rfl) (fun _ _ _ h => h) (Or.inl ⟨by rfl, ?hy⟩) hHeld ?_
          case hy => (intro w hSw; (try dsimp only at hSw); go_split_ands; go_simp; try (with_reducible rfl))
          (try simp only [Act.put, List.getElem_toArray, List.getElem_cons_zero, List.getElem_cons_succ, List.setIfInBounds_toArray, List.set_cons_zero, List.set_cons_succ])
          by_cases hz : len2 = 0
          · subst hz
            refine wpHd_take (i := 22) (v := ?_) rfl (by kernel_rfl) (fun _ _ _ h => h) (Or.inl ⟨by rfl, ?hy⟩) hHeld ?_
            case hy => (intro w hSw; (try dsimp only at hSw); go_split_ands; go_simp; try (with_reducible rfl))
            (try simp only [Act.put, List.getElem_toArray, List.getElem_cons_zero, List.getElem_cons_succ, List.setIfInBounds_toArray, List.set_cons_zero, List.set_cons_succ])
            refine wpHd_take (i := 23) (v := ?_) rfl (by kernel_rfl) (fun _ _ _ h => h) (Or.inl ⟨by rfl, ?hy⟩) hHeld ?_
            case hy => (intro w hSw; (try dsimp only at hSw); go_split_ands; go_simp; try (with_reducible rfl))
            (try simp only [Act.put, List.getElem_toArray, List.getElem_cons_zero, List.getElem_cons_succ, List.setIfInBounds_toArray, List.set_cons_zero, List.set_cons_succ])
            refine wpHd_take (i := 24) (v := undef) rfl (by kernel_rfl) (fun _ _ _ h => h) (Or.inr ⟨by rfl, rfl⟩) hHeld ?_
            (try simp only [Act.put, List.getElem_toArray, List.getElem_cons_zero, List.getElem_cons_succ, List.setIfInBounds_toArray, List.set_cons_zero, List.set_cons_succ])
            refine wpHd_take (i := 25) (v := undef) rfl (by kernel_rfl) (fun _ _ _ h => h) (Or.inr ⟨by rfl, rfl⟩) hHeld ?_
            (try simp only [Act.put, List.getElem_toArray, List.getElem_cons_zero, List.getElem_cons_succ, List.setIfInBounds_toArray, List.set_cons_zero, List.set_cons_succ])
            refine wpHd_take (i := 26) (v := ?_) rfl (by kernel_rfl) (fun _ _ _ h => h) (Or.inl ⟨by rfl, ?hy⟩) hHeld ?_
            case hy => (intro w hSw; (try dsimp only at hSw); go_split_ands; go_simp; try (with_reducible rfl))
            (try simp only [Act.put, List.getElem_toArray, List.getElem_cons_zero, List.getElem_cons_succ, List.setIfInBounds_toArray, List.set_cons_zero, List.set_cons_succ])
            refine wpHd_take (i := 27) (v := ?_) rfl (by kernel_rfl) (fun _ _ _ h => h) (Or.inl ⟨by rfl, ?hy⟩) hHeld ?_
            case hy => (intro w hSw; (try dsimp only at hSw); go_split_ands; go_simp; try (with_reducible rfl))
            (try simp only [Act.put, List.getElem_toArray, List.getElem_cons_zero, List.getElem_cons_succ, List.setIfInBounds_toArray, List.set_cons_zero, List.set_cons_succ])
            refine wpHd_take (i := 28) (v := undef) rfl (by kernel_rfl) (fun _ _ _ h => h) (Or.inr ⟨by rfl, rfl⟩) hHeld ?_
            (try simp only [Act.put, List.getElem_toArray, List.getElem_cons_zero, List.getElem_cons_succ, List.setIfInBounds_toArray, List.set_cons_zero, List.set_cons_succ])
            refine wpHd_take (i := 29) (v := undef) rfl (by kernel_rfl) (fun _ _ _ h => h) (Or.inr ⟨by rfl, rfl⟩) hHeld ?_
            (try simp only [Act.put, List.getElem_toArray, List.getElem_cons_zero, List.getElem_cons_succ, List.setIfInBounds_toArray, List.set_cons_zero, List.set_cons_succ])
            refine wpHd_take (i := 30) (v := undef) rfl (by kernel_rfl) (fun _ _ _ h => h) (Or.inr ⟨by rfl, rfl⟩) hHeld ?_
            (try simp only [Act.put, List.getElem_toArray, List.getElem_cons_zero, List.getElem_cons_succ, List.setIfInBounds_toArray, List.set_cons_zero, List.set_cons_succ])
            refine wpHd_take (i := 31) (v := undef) rfl (by kernel_rfl) (fun _ _ _ h => h) (Or.inr ⟨by rfl, rfl⟩) hHeld ?_
            (try simp only [Act.put, List.getElem_toArray, List.getElem_cons_zero, List.getElem_cons_succ, List.setIfInBounds_toArray, List.set_cons_zero, List.set_cons_succ])
            refine wpHd_take (i := 32) (v := undef) rfl (by kernel_rfl) (fun _ _ _ h => h) (Or.inr ⟨by rfl, rfl⟩) hHeld ?_
            (try simp only [Act.put, List.getElem_toArray, List.getElem_cons_zero, List.getElem_cons_succ, List.setIfInBounds_toArray, List.set_cons_zero, List.set_cons_succ])
            refine wpHd_take (i := 33) (v := undef) rfl (by kernel_rfl) (fun _ _ _ h => h) (Or.inr ⟨by rfl, rfl⟩) hHeld ?_
            (try simp only [Act.put, List.getElem_toArray, List.getElem_cons_zero, List.getElem_cons_succ, List.setIfInBounds_toArray, List.set_cons_zero, List.set_cons_succ])
            refine wpHd_take (i := 34) (v := undef) rfl (by kernel_rfl) (fun _ _ _ h => h) (Or.inr ⟨by rfl, rfl⟩) hHeld ?_
            (try simp only [Act.put, List.getElem_toArray, List.getElem_cons_zero, List.getElem_cons_succ, List.setIfInBounds_toArray, List.set_cons_zero, List.set_cons_succ])
            refine wpHd_take (i := 35) (v := undef) rfl (by kernel_rfl) (fun _ _ _ h => h) (Or.inr ⟨by rfl, rfl⟩) hHeld ?_
            (try simp only [Act.put, List.getElem_toArray, List.getElem_cons_zero, List.getElem_cons_succ, List.setIfInBounds_toArray, List.set_cons_zero, List.set_cons_succ])
            refine wpHd_take (i := 36) (v := undef) rfl (by kernel_rfl) (fun _ _ _ h => h) (Or.inr ⟨by rfl, rfl⟩) hHeld ?_
            (try simp only [Act.put, List.getElem_toArray, List.getElem_cons_zero, List.getElem_cons_succ, List.setIfInBounds_toArray, List.set_cons_zero, List.set_cons_succ])
            refine wpHd_take (i := 37) (v := ?_) rfl (by kernel_rfl) (fun _ _ _ h => h) (Or.inl ⟨by rfl, ?hy⟩) hHeld ?_
            case hy => (intro w hSw; (try dsimp only at hSw); go_split_ands; go_simp; try (with_reducible rfl))
            (try simp only [Act.put, List.getElem_toArray, List.getElem_cons_zero, List.getElem_cons_succ, List.setIfInBounds_toArray, List.set_cons_zero, List.set_cons_succ])
            refine wpHd_take (i := 38) (v := ?_) rfl (by kernel_rfl) (fun _ _ _ h => h) (Or.inl ⟨by rfl, ?hy⟩) hHeld ?_
            case hy => (intro w hSw; (try dsimp only at hSw); go_split_ands; go_simp; try (with_reducible rfl))
            (try simp only [Act.put, List.getElem_toArray, List.getElem_cons_zero, List.getElem_cons_succ, List.setIfInBounds_toArray, List.set_cons_zero, List.set_cons_succ])
            refine ⟨by kernel_rfl, ?_⟩
            simp only [List.drop_succ_cons, List.drop_zero]
            go_wp2
            go_ret
            exact ⟨rfl, BL16.out.trans hHeld.1⟩
          · have hne : ((len2 : Int) == 0) = false := by simp; omega
            have h0 : 0 < len2 := by omega
            have h0I : (0 : Int) < (len2 : Int) := by omega
            refine wpHd_take (i := 22) (v := ?_) rfl (by kernel_rfl) (fun _ _ _ h => h) (Or.inl ⟨by rfl, ?hy⟩) hHeld ?_
            case hy => (intro w hSw; (try dsimp only at hSw); go_split_ands; go_simp; try (with_reducible rfl))
            (try simp only [Act.put, List.getElem_toArray, List.getElem_cons_zero, List.getElem_cons_succ, List.setIfInBounds_toArray, List.set_cons_zero, List.set_cons_succ])
            refine wpHd_take (i := 23) (v := ?_) rfl (by kernel_rfl) (fun _ _ _ h => h) (Or.inl ⟨by rfl, ?hy⟩) hHeld ?_
            case hy => (intro w hSw; (try dsimp only at hSw); go_split_ands; go_simp; try (with_reducible rfl))
            (try simp only [Act.put, List.getElem_toArray, List.getElem_cons_zero, List.getElem_cons_succ, List.setIfInBounds_toArray, List.set_cons_zero, List.set_cons_succ])
            by_cases hge : (274877906944 : Int) ≤ (at_ : Int)
            · refine wpHd_take (i := 24) (v := ?_) rfl (by kernel_rfl) (fun _ _ _ h => h) (Or.inl ⟨by rfl, ?hy⟩) hHeld ?_
              case hy => (intro w hSw; (try dsimp only at hSw); go_split_ands; go_simp; try (with_reducible rfl))
              (try simp only [Act.put, List.getElem_toArray, List.getElem_cons_zero, List.getElem_cons_succ, List.setIfInBounds_toArray, List.set_cons_zero, List.set_cons_succ])
              refine wpHd_take (i := 25) (v := ?_) rfl (by kernel_rfl) (fun _ _ _ h => h) (Or.inl ⟨by rfl, ?hy⟩) hHeld ?_
              case hy => (intro w hSw; (try dsimp only at hSw); go_split_ands; go_simp; try (with_reducible rfl))
              (try simp only [Act.put, List.getElem_toArray, List.getElem_cons_zero, List.getElem_cons_succ, List.setIfInBounds_toArray, List.set_cons_zero, List.set_cons_succ])
              refine wpHd_take (i := 26) (v := ?_) rfl (by kernel_rfl) (fun _ _ _ h => h) (Or.inl ⟨by rfl, ?hy⟩) hHeld ?_
              case hy => (intro w hSw; (try dsimp only at hSw); go_split_ands; go_simp; try (with_reducible rfl))
              (try simp only [Act.put, List.getElem_toArray, List.getElem_cons_zero, List.getElem_cons_succ, List.setIfInBounds_toArray, List.set_cons_zero, List.set_cons_succ])
              refine wpHd_take (i := 27) (v := ?_) rfl (by kernel_rfl) (fun _ _ _ h => h) (Or.inl ⟨by rfl, ?hy⟩) hHeld ?_
              case hy => (intro w hSw; (try dsimp only at hSw); go_split_ands; go_simp; try (with_reducible rfl))
              (try simp only [Act.put, List.getElem_toArray, List.getElem_cons_zero, List.getElem_cons_succ, List.setIfInBounds_toArray, List.set_cons_zero, List.set_cons_succ])
              refine wpHd_take (i := 28) (v := undef) rfl (by kernel_rfl) (fun _ _ _ h => h) (Or.inr ⟨by rfl, rfl⟩) hHeld ?_
              (try simp only [Act.put, List.getElem_toArray, List.getElem_cons_zero, List.getElem_cons_succ, List.setIfInBounds_toArray, List.set_cons_zero, List.set_cons_succ])
              refine wpHd_take (i := 29) (v := undef) rfl (by kernel_rfl) (fun _ _ _ h => h) (Or.inr ⟨by rfl, rfl⟩) hHeld ?_
              (try simp only [Act.put, List.getElem_toArray, List.getElem_cons_zero, List.getElem_cons_succ, List.setIfInBounds_toArray, List.set_cons_zero, List.set_cons_succ])
              refine wpHd_take (i := 30) (v := undef) rfl (by kernel_rfl) (fun _ _ _ h => h) (Or.inr ⟨by rfl, rfl⟩) hHeld ?_
              (try simp only [Act.put, List.getElem_toArray, List.getElem_cons_zero, List.getElem_cons_succ, List.setIfInBounds_toArray, List.set_cons_zero, List.set_cons_succ])
              refine wpHd_take (i := 31) (v := undef) rfl (by kernel_rfl) (fun _ _ _ h => h) (Or.inr ⟨by rfl, rfl⟩) hHeld ?_
              (try simp only [Act.put, List.getElem_toArray, List.getElem_cons_zero, List.getElem_cons_succ, List.setIfInBounds_toArray, List.set_cons_zero, List.set_cons_succ])
              refine wpHd_take (i := 32) (v := undef) rfl (by kernel_rfl) (fun _ _ _ h => h) (Or.inr ⟨by rfl, rfl⟩) hHeld ?_
              (try simp only [Act.put, List.getElem_toArray, List.getElem_cons_zero, List.getElem_cons_succ, List.setIfInBounds_toArray, List.set_cons_zero, List.set_cons_succ])
              refine wpHd_take (i := 33) (v := undef) rfl (by kernel_rfl) (fun _ _ _ h => h) (Or.inr ⟨by rfl, rfl⟩) hHeld ?_
              (try simp only [Act.put, List.getElem_toArray, List.getElem_cons_zero, List.getElem_cons_succ, List.setIfInBounds_toArray, List.set_cons_zero, List.set_cons_succ])
              refine wpHd_take (i := 34) (v := undef) rfl (by kernel_rfl) (fun _ _ _ h => h) (Or.inr ⟨by rfl, rfl⟩) hHeld ?_
              (try simp only [Act.put, List.getElem_toArray, List.getElem_cons_zero, List.getElem_cons_succ, List.setIfInBounds_toArray, List.set_cons_zero, List.set_cons_succ])
              refine wpHd_take (i := 35) (v := undef) rfl (by kernel_rfl) (fun _ _ _ h => h) (Or.inr ⟨by rfl, rfl⟩) hHeld ?_
              (try simp only [Act.put, List.getElem_toArray, List.getElem_cons_zero, List.getElem_cons_succ, List.setIfInBounds_toArray, List.set_cons_zero, List.set_cons_succ])
              refine wpHd_take (i := 36) (v := undef) rfl (by kernel_rfl) (fun _ _ _ h => h) (Or.inr ⟨by rfl, rfl⟩) hHeld ?_
              (try simp only [Act.put, List.getElem_toArray, List.getElem_cons_zero, List.getElem_cons_succ, List.setIfInBounds_toArray, List.set_cons_zero, List.set_cons_succ])
              refine wpHd_take (i := 37) (v := ?_) rfl (by kernel_rfl) (fun _ _ _ h => h) (Or.inl ⟨by rfl, ?hy⟩) hHeld ?_
              case hy => (intro w hSw; (try dsimp only at hSw); go_split_ands; go_simp; try (with_reducible rfl))
              (try simp only [Act.put, List.getElem_toArray, List.getElem_cons_zero, List.getElem_cons_succ, List.setIfInBounds_toArray, List.set_cons_zero, List.set_cons_succ])
              refine wpHd_take (i := 38) (v := ?_) rfl (by kernel_rfl) (fun _ _ _ h => h) (Or.inl ⟨by rfl, ?hy⟩) hHeld ?_
              case hy => (intro w hSw; (try dsimp only at hSw); go_split_ands; go_simp; try (with_reducible rfl))
              (try simp only [Act.put, List.getElem_toArray, List.getElem_cons_zero, List.getElem_cons_succ, List.setIfInBounds_toArray, List.set_cons_zero, List.set_cons_succ])
              refine ⟨by kernel_rfl, ?_⟩
              simp only [List.drop_succ_cons, List.drop_zero]
              go_wp2
              go_ret
              exact ⟨rfl, BL16.out.trans hHeld.1⟩
            · have hlt : (at_ : Int) < 274877906944 := by omega
              refine wpHd_take (i := 24) (v := ?_) rfl (by kernel_rfl) (fun _ _ _ h => h) (Or.inl ⟨by rfl, ?hy⟩) hHeld ?_
              case hy => (intro w hSw; (try dsimp only at hSw); go_split_ands; go_simp; try (with_reducible rfl))
              (try simp only [Act.put, List.getElem_toArray, List.getElem_cons_zero, List.getElem_cons_succ, List.setIfInBounds_toArray, List.set_cons_zero, List.set_cons_succ])
              refine wpHd_take (i := 25) (v := ?_) rfl (by kernel_rfl) (fun _ _ _ h => h) (Or.inl ⟨by rfl, ?hy⟩) hHeld ?_
              case hy => (intro w hSw; (try dsimp only at hSw); go_split_ands; go_simp; try (with_reducible rfl))
              (try simp only [Act.put, List.getElem_toArray, List.getElem_cons_zero, List.getElem_cons_succ, List.setIfInBounds_toArray, List.set_cons_zero, List.set_cons_succ])
              refine wpHd_take (i := 26) (v := ?_) rfl (by kernel_rfl) (fun _ _ _ h => h) (Or.inl ⟨by rfl, ?hy⟩) hHeld ?_
              case hy => (intro w hSw; (try dsimp only at hSw); go_split_ands; go_simp; try (with_reducible rfl))
              (try simp only [Act.put, List.getElem_toArray, List.getElem_cons_zero, List.getElem_cons_succ, List.setIfInBounds_toArray, List.set_cons_zero, List.set_cons_succ])
              refine wpHd_take (i := 27) (v := ?_) rfl (by kernel_rfl) (fun _ _ _ h => h) (Or.inl ⟨by rfl, ?hy⟩) hHeld ?_
              case hy => (intro w hSw; (try dsimp only at hSw); go_split_ands; go_simp; try (with_reducible rfl))
              (try simp only [Act.put, List.getElem_toArray, List.getElem_cons_zero, List.getElem_cons_succ, List.setIfInBounds_toArray, List.set_cons_zero, List.set_cons_succ])
              have HLT := Lib.hid hlt; clear hlt hge
              refine wpHd_take (i := 28) (v := ?_) rfl (by kernel_rfl) (fun _ _ _ h => h) (Or.inl ⟨by rfl, ?hy⟩) hHeld ?_
              case hy => (intro w hSw; (try dsimp only at hSw); go_split_ands; go_simp; try (with_reducible rfl))
              (try simp only [Act.put, List.getElem_toArray, List.getElem_cons_zero, List.getElem_cons_succ, List.setIfInBounds_toArray, List.set_cons_zero, List.set_cons_succ])
              refine wpHd_take (i := 29) (v := ?_) rfl (by kernel_rfl) (fun _ _ _ h => h) (Or.inl ⟨by rfl, ?hy⟩) hHeld ?_
              case hy => (intro w hSw; (try dsimp only at hSw); go_split_ands; go_simp; try (with_reducible rfl))
              (try simp only [Act.put, List.getElem_toArray, List.getElem_cons_zero, List.getElem_cons_succ, List.setIfInBounds_toArray, List.set_cons_zero, List.set_cons_succ])
              obtain ⟨ob, ooff, hA2, _⟩ := RD16.out.at_ 0 (by rw [L2.out]; exact h0)
              subst hA2
              refine wpHd_take (i := 33) (v := ?_) rfl (by kernel_rfl) (fun _ _ _ h => h) (Or.inl ⟨by rfl, ?hy⟩) hHeld ?_
              case hy => (intro w hSw; (try dsimp only at hSw); go_split_ands; go_simp; try (with_reducible rfl))
              (try simp only [Act.put, List.getElem_toArray, List.getElem_cons_zero, List.getElem_cons_succ, List.setIfInBounds_toArray, List.set_cons_zero, List.set_cons_succ])
              refine wpHd_take (i := 34) (v := ?_) rfl (by kernel_rfl) (fun _ _ _ h => h) (Or.inl ⟨by rfl, ?hy⟩) hHeld ?_
              case hy => (intro w hSw; (try dsimp only at hSw); go_split_ands; go_simp; try (with_reducible rfl))
              (try simp only [Act.put, List.getElem_toArray, List.getElem_cons_zero, List.getElem_cons_succ, List.setIfInBounds_toArray, List.set_cons_zero, List.set_cons_succ])
              refine wpHd_take (i := 35) (v := ?_) rfl (by kernel_rfl) (fun _ _ _ h => h) (Or.inl ⟨by rfl, ?hy⟩) hHeld ?_
              case hy => (intro w hSw; have hc := hSw.2 _ _ rfl h0; go_simp; try (with_reducible rfl))
              (try simp only [Act.put, List.getElem_toArray, List.getElem_cons_zero, List.getElem_cons_succ, List.setIfInBounds_toArray, List.set_cons_zero, List.set_cons_succ])
              refine wpHd_one (i := 30) rfl (by kernel_rfl) (fun K hK => ?_)
              go_simp
              refine (read_any (C16.out.bl hHeld.1) at_ 1 (by have := HLT.out; omega) (by decide) (by decide)).mono ?_
              rintro e w2 ⟨rfl, hg2, bl2⟩
              refine hK.out _ _ ?_ (fun hHeld => ?_)
              · exact ⟨hHeld.1.trans bl2, fun b off hA h0 => by have := hHeld.2 b off hA h0; rw [bl2.cell (block_lt_of_cell this)]; exact this⟩
              clear hK K
              (try simp only [Act.put, List.getElem_toArray, List.getElem_cons_zero, List.getElem_cons_succ, List.setIfInBounds_toArray, List.set_cons_zero, List.set_cons_succ])
              have hcr := row_cell hg2 0 (by rw [bytesAt_length]; decide)
              rw [bytesAt_getD _ _ _ _ (by decide), lay_first zs at_ len2 M L2.out h0 (by have := HLT.out; omega), ← HO0.out] at hcr
              have hcr2 : w2.cell? ⟨u16.heap.size, 0, none⟩ = some (.int .u8 o0) := hcr
              clear hg2 hcr
              refine wpHd_one (i := 31) rfl (by kernel_rfl) (fun K hK => ?_)
              go_simp
              refine hK.out _ _ hHeld (fun hHeld => ?_)
              clear hK K
              (try simp only [Act.put, List.getElem_toArray, List.getElem_cons_zero, List.getElem_cons_succ, List.setIfInBounds_toArray, List.set_cons_zero, List.set_cons_succ])
              refine wpHd_one (i := 32) rfl (by kernel_rfl) (fun K hK => ?_)
              go_simp
              refine hK.out _ _ hHeld (fun hHeld => ?_)
              clear hK K
              (try simp only [Act.put, List.getElem_toArray, List.getElem_cons_zero, List.getElem_cons_succ, List.setIfInBounds_toArray, List.set_cons_zero, List.set_cons_succ])
              refine wpHd_take (i := 36) (v := ?_) rfl (by kernel_rfl) (fun _ _ _ h => h) (Or.inl ⟨by rfl, ?hy⟩) hHeld ?_
              case hy => (intro w hSw; (try dsimp only at hSw); go_split_ands; go_simp; try (with_reducible rfl))
              (try simp only [Act.put, List.getElem_toArray, List.getElem_cons_zero, List.getElem_cons_succ, List.setIfInBounds_toArray, List.set_cons_zero, List.set_cons_succ])
              refine wpHd_take (i := 37) (v := ?_) rfl (by kernel_rfl) (fun _ _ _ h => h) (Or.inl ⟨by rfl, ?hy⟩) hHeld ?_
              case hy => (intro w hSw; (try dsimp only at hSw); go_split_ands; go_simp; try (with_reducible rfl))
              (try simp only [Act.put, List.getElem_toArray, List.getElem_cons_zero, List.getElem_cons_succ, List.setIfInBounds_toArray, List.set_cons_zero, List.set_cons_succ])
              refine wpHd_take (i := 38) (v := ?_) rfl (by kernel_rfl) (fun _ _ _ h => h) (Or.inl ⟨by rfl, ?hy⟩) hHeld ?_
              case hy => (intro w hSw; (try dsimp only at hSw); go_split_ands; go_simp; try (with_reducible rfl))
              (try simp only [Act.put, List.getElem_toArray, List.getElem_cons_zero, List.getElem_cons_succ, List.setIfInBounds_toArray, List.set_cons_zero, List.set_cons_succ])
              refine ⟨by kernel_rfl, ?_⟩
              simp only [List.drop_succ_cons, List.drop_zero]
              go_wp2
              go_ret
              exact ⟨rfl, BL16.out.trans hHeld.1⟩

/-! ### The row's step -/
set_option maxRecDepth 100000 in
theorem lifted (os : Os) (started : os.Started) (H : Type) (enc : TypeId × Value → H) :
    ReturnsInHanded {} Try.checked os 4 .any (Rows.pageApartSpec.pre6 enc Try.prog Try.f4 Rows.pageApartRow.domain false) (Rows.pageApartSpec.post enc Try.prog Try.f4 false true false false) := by
  refine returnsInHanded_of_change (C := Try.checked) own started (by kernel_rfl) Try.func4
    (ChangeSpec.witness6 (enc := enc) (C := Try.checked) false ⟨#[], #[.int .u64 0, .slice none 0 0, .slice none 0 0], []⟩ 8 (by kernel_rfl) (by kernel_rfl) (by kernel_rfl) (by kernel_rfl)) ?_
  intro W base args ds gs before hval0 hW hcnd _
  have hval : ∀ (j : Nat) t v, Try.f4.params[j]? = some t → args[j]? = some v → Value.okWide Try.prog W .any base t v := hval0
  have hW' := hW
  obtain ⟨p, q, hA0, hV, rfl, hfz, hnd⟩ := hW
  have hA : DataW.TrodAll enc Try.prog W 0 (fun _ => true) true Try.f4.params.toList args.toList ds p := hA0
  rw [Try.params4] at hA hval
  obtain ⟨v0, vs0, d0, ds0, p0, q0, hargs, rfl, rfl, h0, r0⟩ := trodAll_cons hA
  obtain ⟨v1, vs1, d1, ds1, p1, q1, rfl, rfl, rfl, h1, r1⟩ := trodAll_cons r0
  obtain ⟨v2, vs2, d2, ds2, p2, q2, rfl, rfl, rfl, h2, r2⟩ := trodAll_cons r1
  obtain ⟨rfl, rfl, rfl⟩ := trodAll_nil r2
  obtain rfl : args = #[v0, v1, v2] := by cases args; simp_all
  obtain ⟨rfl, rfl⟩ := trodVars_none hV
  obtain ⟨a0, rfl, rfl, rfl, w0⟩ := open_int Try.underlying27 (hval 0 27 v0 rfl rfl) h0
  obtain ⟨a1, len1, cap1, rfl⟩ := okWide_slice Try.underlying29 (hval 1 29 v1 rfl rfl)
  have k1 := h1
  have lt1 : ∀ x ∈ p1, x.block < W.heap.size := by obtain ⟨m, hm⟩ := k1; exact DataW.trod_lt m _ _ _ hm
  obtain ⟨z1, w1⟩ : ∃ zs, IsRow .u8 W a1 len1 cap1 zs := by
    obtain ⟨fuel, hf⟩ := h1
    rcases open_ints Try.underlying29 Try.underlying5 (by kernel_rfl) hf with ⟨hcs, _⟩ | ⟨x, l, c, zs, hcs, _, hl, hm, hz, _, hcell, hwz⟩
    · simp [Value.cells] at hcs
      obtain ⟨rfl, rfl, rfl⟩ := hcs
      exact ⟨[], .inl ⟨rfl, rfl, rfl, rfl⟩⟩
    · simp [Value.cells] at hcs
      obtain ⟨rfl, rfl, rfl⟩ := hcs
      exact ⟨zs, .inr ⟨_, rfl, hl, hm, by simpa using hz, hcell, hwz⟩⟩
  obtain ⟨a2, len2, cap2, rfl⟩ := okWide_slice Try.underlying29 (hval 2 29 v2 rfl rfl)
  have k2 := h2
  have lt2 : ∀ x ∈ p2, x.block < W.heap.size := by obtain ⟨m, hm⟩ := k2; exact DataW.trod_lt m _ _ _ hm
  obtain ⟨z2, w2⟩ : ∃ zs, IsRow .u8 W a2 len2 cap2 zs := by
    obtain ⟨fuel, hf⟩ := h2
    rcases open_ints Try.underlying29 Try.underlying5 (by kernel_rfl) hf with ⟨hcs, _⟩ | ⟨x, l, c, zs, hcs, _, hl, hm, hz, _, hcell, hwz⟩
    · simp [Value.cells] at hcs
      obtain ⟨rfl, rfl, rfl⟩ := hcs
      exact ⟨[], .inl ⟨rfl, rfl, rfl, rfl⟩⟩
    · simp [Value.cells] at hcs
      obtain ⟨rfl, rfl, rfl⟩ := hcs
      exact ⟨zs, .inr ⟨_, rfl, hl, hm, by simpa using hz, hcell, hwz⟩⟩
  clear hA0 hval0
  refine (walk a0 a1 len1 cap1 z1 a2 len2 cap2 z2 W w0 w1 w2).mono fun e W' ⟨he, bel⟩ => ?_
  subst he
  exact ⟨_, rfl, _, _, _, [], _, [], hW', trodAll_mk1 (shut_bool Try.underlying4 _), (trodAll_cons_mk (shut_int Try.underlying27 w0) (trodAll_cons_mk (Below.trod laidOut (by kernel_rfl) (of_decide_eq_true (by kernel_rfl)) k1 bel lt1) (trodAll_cons_mk (Below.trod laidOut (by kernel_rfl) (of_decide_eq_true (by kernel_rfl)) k2 bel lt2) trodAll_mk0))), rfl, bel.frame _, fun h => by cases h⟩

theorem over : Rows.pageApartRow.holds Try.pinned (OpenSpec.ofChange Rows.pageApartSpec) :=
  OpenClaim.holds_of_wide 4 Try.f4 rfl rfl rfl rfl rfl rfl rfl ⟨rfl, rfl, rfl, rfl, rfl⟩ rfl rfl rfl rfl rfl (by kernel_rfl) Try.func4 (by kernel_rfl)
    (of_decide_eq_true (by kernel_rfl)) (by unfold Func.isWrapper; first | (rw [if_pos (by decide +kernel)]; kernel_rfl) | (rw [if_neg (by decide +kernel)]; exact ⟨rfl, rfl⟩))
    (fun os started H enc _ => lifted os started H enc)

/-- The statement. -/
theorem proved : Rows.PageApartSaid := over
end Go.Proofs.Ytdfjgfioocdogaa.pageApart

namespace Go.Proofs.Ytdfjgfioocdogaa
/-- The statement, proved. -/
theorem pageApart_holds : Rows.PageApartSaid := pageApart.proved
#print axioms pageApart_holds
end Go.Proofs.Ytdfjgfioocdogaa
