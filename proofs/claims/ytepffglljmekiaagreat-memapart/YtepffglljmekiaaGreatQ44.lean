/-
  Numbers as texts by the reference; an answer as a text.
  DERIVED: THE SHELF's CONTRACTS AT THIS DUMP, IN PLAIN WORDS (tools/lay-plain.mjs out of 'TryzShelf.lean', which tools/lay-shelf.mjs wrote): THE SAME DECLARATIONS UNDER THE SAME NAMES: 'import', 'namespace', 'open', 'def', 'theorem' AND NOTHING ELSE: no command of the shelf's: FOR A HAND-IN. Each laying: the table of numbers ('.._ren') and one theorem, a field a fact of the dump's own or the kernel's comparison; each contract: ONE APPLICATION.
-/
import Derived.Test.YtepffglljmekiaaGreatQ43
import Derived.Laws.Concat
import Derived.Laws.BytesArg
import Derived.Lib.ConvBytes
import Derived.Deep.RegionHeld3
import Derived.Shelf.Bytes.IndexByte
import Derived.Test.YtepffglljmekiaaGreatProg
set_option linter.unusedVariables false
set_option linter.unusedSimpArgs false
namespace Go.Proofs.YtepffglljmekiaaGreat
open Go.RowKit
set_option maxRecDepth 100000
/-- A slice's address is none, or the head of some cells. -/
def Plain (A : Option Addr) (len cap : Nat) : Prop := (A = none ∧ len = 0 ∧ cap = 0) ∨ ∃ b o, A = some ⟨b, o, none⟩
theorem conv_str {w : World} {A : Option Addr} {len cap : Nat} {xs : List Int} (hp : Plain A len cap) (hr : Rd w A xs) (hl : xs.length = len) : (convert 27 9 (.slice A len cap)).run Tryz.prog w = .ok (.string (strOfNums xs)) w := by
  rcases hp with ⟨rfl, rfl, rfl⟩ | ⟨b, o, rfl⟩
  · obtain rfl : xs = [] := List.eq_nil_of_length_eq_zero hl
    exact run_convert_bytes_nil w 27 5 Tryz.underlying27 Tryz.underlying5 0 0 9 Tryz.underlying9
  · refine run_convert_bytes_arg w 27 5 Tryz.underlying27 Tryz.underlying5 b o len cap xs hl (fun i hi => ?_) 9 Tryz.underlying9
    obtain ⟨b', o', e, hc⟩ := hr.at_ i (by omega)
    injection e with e
    injection e with e1 e2
    subst e1 e2
    exact hc
theorem nums_size (xs : List Int) : (strOfNums xs).size = xs.length := by simp [strOfNums, ByteArray.size]
/-- The digits of u ahead of what is there. -/
def udS : Nat → Int → List UInt8 → List UInt8
  | 0, _, acc => acc
  | n + 1, u, acc => if u / 10 = 0 then UInt8.ofNat (48 + u % 10).toNat :: acc else udS n (u / 10) (UInt8.ofNat (48 + u % 10).toNat :: acc)
theorem udS_len (n : Nat) : ∀ u acc, (udS n u acc).length ≤ n + acc.length := by
  induction n with
  | zero => intro u acc; simp [udS]
  | succ n ih =>
    intro u acc
    simp only [udS]
    split
    · simp; omega
    · have := ih (u / 10) (UInt8.ofNat (48 + u % 10).toNat :: acc)
      simp only [List.length_cons] at this
      omega
def strL (l : List UInt8) : Value := .string ⟨l.toArray⟩
theorem add_runL (x y : List UInt8) (h : x.length ≤ 5000000 ∧ y.length ≤ 5000000) (w : World) : (Op.stringOp .add ⟨x.toArray⟩ ⟨y.toArray⟩).run Tryz.prog w = .ok (.string ⟨(x ++ y).toArray⟩) w :=
  run_string_add_lists w x y (by omega) (by omega)
theorem one_str (w : World) (y : Int) (cap : Nat) : (convert 27 9 (.slice (some ⟨w.heap.size, 0, none⟩) 1 cap)).run Tryz.prog (w.alloc (.cells #[.int .u8 y] 5)) = .ok (.string ⟨[UInt8.ofNat y.toNat].toArray⟩) (w.alloc (.cells #[.int .u8 y] 5)) := by
  have := conv_str (w := w.alloc (.cells #[.int .u8 y] 5)) (A := some ⟨w.heap.size, 0, none⟩) (len := 1) (cap := cap) (xs := [y]) (.inr ⟨_, _, rfl⟩) (one_cell w y) rfl
  exact this
set_option maxHeartbeats 1000000 in
theorem udec_any (x : Int) (w : World) (h0 : 0 ≤ x) (h1 : x ≤ 18446744073709551615) : Calls Tryz.prog 88 #[.int .u64 x] w fun e w' => e = .returned (strL (udS 20 x [])) ∧ Bl w w' := by
  obtain ⟨R, hR⟩ : ∃ R, R = udS 20 x [] := ⟨_, rfl⟩
  rw [← hR]
  go_enter Tryz.func88, Tryz.ntmps88
  go_wp2_with fail
  go_loopw [0, 3] (fun v0 v3 wr => ∃ (u : Int) (k : Nat) (acc : List UInt8), v0 = .int .u64 u ∧ v3 = .string ⟨acc.toArray⟩ ∧ 0 ≤ u ∧ u ≤ 18446744073709551615 ∧ k < 20 ∧ u < 10 ^ (20 - k) ∧ acc.length = k ∧ udS (20 - k) u acc = R ∧ Bl w wr) (fun v0 _ _ => (intOf v0).toNat)
  case atStart => exact ⟨x, 0, [], rfl, rfl, h0, h1, by omega, by omega, rfl, hR.symm, Bl.refl _⟩
  case round =>
    obtain ⟨u, k, acc, rfl, rfl, u0, u1, hk, hu, hlen, heq, hbl⟩ := hrel
    clear hR
    obtain ⟨q, hq⟩ : ∃ q, q = 20 - k - 1 := ⟨_, rfl⟩
    have e20 : 20 - k = q + 1 := by omega
    rw [e20] at hu heq
    simp only [udS] at heq
    have hpow : (10 : Int) ^ (q + 1) = 10 ^ q * 10 := Int.pow_succ _ _
    rw [hpow] at hu
    have hur : 0 ≤ u % 10 ∧ u % 10 ≤ 9 := by omega
    have hw1 : IntKind.u8.wrap (48 + u % 10) = 48 + u % 10 := by rw [IntKind.wrap_u8]; omega
    have hw2 : IntKind.u8.wrap (u % 10) = u % 10 := by rw [IntKind.wrap_u8]; omega
    have hcv := one_str wr (48 + u % 10) 1
    have had := fun W => add_runL [UInt8.ofNat (48 + u % 10).toNat] acc ⟨by simp, by omega⟩ W
    simp only [List.singleton_append] at had
    generalize UInt8.ofNat (48 + u % 10).toNat = c at *
    obtain ⟨u', hu'⟩ : ∃ u', u' = u / 10 := ⟨_, rfl⟩
    rw [← hu'] at heq
    by_cases hz : u' = 0
    · have hz2 : u / 10 = 0 := by omega
      rw [if_pos hz] at heq
      go_wp2_with fail
      go_ret
      exact ⟨by rw [← heq]; rfl, hbl.alloc _⟩
    · have hz2 : (u / 10 == 0) = false := by simp; omega
      rw [if_neg hz] at heq
      have hq0 : q ≠ 0 := by rintro rfl; simp at hu; omega
      have HB := Lib.hid hbl
      have HEQ := Lib.hid heq; clear heq hbl
      have HU : Hid (u < 10 ^ q * 10) := Lib.hid hu; clear hu hpow
      have HK : Hid (q = 20 - k - 1) := Lib.hid hq; clear hq e20
      have HL := Lib.hid hlen; clear hlen hz
      go_wp2_with fail
      refine ⟨⟨u', k + 1, c :: acc, by rw [hu'], rfl, by omega, by omega, by have := HK.out; omega, ?_, by simp [HL.out], ?_, HB.out.alloc _⟩, ?_⟩; rotate_left 2; (simp only [intOf]; have hz3 := hz2; simp only [beq_eq_false_iff_ne, ne_eq] at hz3; omega)
      · have e : 20 - (k + 1) = q := by have := HK.out; omega
        rw [e]; have := HU.out; omega
      · have e : 20 - (k + 1) = q := by have := HK.out; omega
        rw [e]; exact HEQ.out
/-- The text of a number with its sign. -/
def decS (n : Int) : List UInt8 := if n < 0 then [45] ++ udS 20 (IntKind.u64.wrap (IntKind.u64.wrap (wrap64 (-(wrap64 (n + 1)))) + 1)) [] else udS 20 (IntKind.u64.wrap n) []
theorem decS_len (n : Int) : (decS n).length ≤ 21 := by
  unfold decS
  split
  · have := udS_len 20 (IntKind.u64.wrap (IntKind.u64.wrap (wrap64 (-(wrap64 (n + 1)))) + 1)) []
    simp at *; omega
  · have := udS_len 20 (IntKind.u64.wrap n) []
    simp at *; omega
set_option maxHeartbeats 1000000 in
theorem dec_any (n : Int) (w : World) : Calls Tryz.prog 89 #[.int .i64 n] w fun e w' => e = .returned (strL (decS n)) ∧ Bl w w' := by
  unfold decS
  by_cases hn : n < 0
  · rw [if_pos hn]
    obtain ⟨y, hy⟩ : ∃ y, y = IntKind.u64.wrap (IntKind.u64.wrap (wrap64 (-(wrap64 (n + 1)))) + 1) := ⟨_, rfl⟩
    have hyb := wrap_in (IntKind.u64.wrap (wrap64 (-(wrap64 (n + 1)))) + 1)
    rw [← hy] at hyb ⊢
    have cu := fun W => udec_any y W hyb.1 (by have := hyb.2; omega)
    have CU := Lib.hid cu; clear cu
    have had := fun W => add_runL [45] (udS 20 y []) ⟨by decide, by have := udS_len 20 y []; simp at this; omega⟩ W
    generalize udS 20 y [] = D at *
    go_enter Tryz.func89, Tryz.ntmps89
    go_wp2_with fail
    have ey : IntKind.u64.wrap (IntKind.u64.wrap (wrap64 (-wrap64 (n + 1))) + 1) = y := hy.symm
    rw [ey]
    refine (CU.out _).mono ?_
    rintro e w' ⟨rfl, k⟩
    generalize IntKind.u64.wrap (IntKind.u64.wrap (wrap64 (-wrap64 (n + 1))) + 1) = q at *
    subst ey
    clear hy hyb CU
    unfold strL
    go_wp2_with fail
    go_ret
    exact ⟨rfl, k⟩
  · rw [if_neg hn]
    have hyb := wrap_in n
    have cu := fun W => udec_any (IntKind.u64.wrap n) W hyb.1 (by have := hyb.2; omega)
    have CU := Lib.hid cu; clear cu
    generalize udS 20 (IntKind.u64.wrap n) [] = D at *
    go_enter Tryz.func89, Tryz.ntmps89
    go_wp2_with fail
    refine (CU.out _).mono ?_
    rintro e w' ⟨rfl, k⟩
    unfold strL
    go_wp2_with fail
    go_ret
    exact ⟨rfl, k⟩
theorem keepT {w : World} {b : Nat} {k x : Int} {s : Value} {v : ByteArray} {w1 w2 : World} (h : w1.cell? ⟨b, 0, none⟩ = some (.int .i64 k) ∧ w1.cell? ⟨b, 1, none⟩ = some (.int .u64 x) ∧ (∀ W, Bl w1 W → (convert 27 9 s).run Tryz.prog W = .ok (.string v) W) ∧ (convert 27 9 s).run Tryz.prog w1 = .ok (.string v) w1 ∧ Bl w w1) (kk : Bl w1 w2) : w2.cell? ⟨b, 0, none⟩ = some (.int .i64 k) ∧ w2.cell? ⟨b, 1, none⟩ = some (.int .u64 x) ∧ (∀ W, Bl w2 W → (convert 27 9 s).run Tryz.prog W = .ok (.string v) W) ∧ (convert 27 9 s).run Tryz.prog w2 = .ok (.string v) w2 ∧ Bl w w2 :=
  ⟨kk.cell' h.1, kk.cell' h.2.1, fun W hW => h.2.2.1 W (kk.trans hW), h.2.2.1 _ kk, h.2.2.2.2.trans kk⟩
set_option maxHeartbeats 4000000 in
theorem told_any {w : World} (x e k a : Int) (A : Option Addr) (len cap : Nat) (xs : List Int) (hx0 : 0 ≤ x) (hx1 : x ≤ 18446744073709551615) (ha0 : 0 ≤ a) (ha1 : a ≤ 18446744073709551615) (hp : Plain A len cap) (hr : Rd w A xs) (hl : xs.length = len) (hm : len ≤ 4194304) :
    Calls Tryz.prog 49 #[.int .u64 x, .int .i64 e, faultV k a, .slice A len cap] w fun r w' => (∃ s, r = .returned (.string s)) ∧ Bl w w' := by
  have hcv : ∀ W, Bl w W → (convert 27 9 (.slice A len cap)).run Tryz.prog W = .ok (.string (strOfNums xs)) W := fun W hW => conv_str hp (hr.below hW) hl
  have HCV := Lib.hid hcv; clear hcv
  have hsz : (strOfNums xs) = ⟨(xs.map fun n => UInt8.ofNat n.toNat).toArray⟩ := rfl
  obtain ⟨z, hz⟩ : ∃ z, z = xs.map fun n => UInt8.ofNat n.toNat := ⟨_, rfl⟩
  have hzl : z.length ≤ 4194304 := by rw [hz, List.length_map]; omega
  rw [hsz, ← hz] at HCV
  clear hsz hz hr hp hl
  have cu1 := fun W => udec_any x W hx0 hx1
  have cu2 := fun W => udec_any a W ha0 ha1
  have cd1 := fun W => dec_any e W
  have cd2 := fun W => dec_any k W
  have l1 := udS_len 20 x []
  have l2 := udS_len 20 a []
  have l3 := decS_len e
  have l4 := decS_len k
  simp only [List.length_nil, Nat.add_zero] at l1 l2
  generalize udS 20 x [] = D1 at *
  generalize udS 20 a [] = D2 at *
  generalize decS e = D3 at *
  generalize decS k = D4 at *
  have CU1 := Lib.hid cu1; clear cu1
  have CU2 := Lib.hid cu2; clear cu2
  have CD1 := Lib.hid cd1; clear cd1
  have CD2 := Lib.hid cd2; clear cd2
  unfold strL faultV at *
  obtain ⟨y1, a1, m1⟩ : ∃ y : List UInt8, (∀ W, (Op.stringOp .add ⟨D1.toArray⟩ ⟨#[32]⟩).run Tryz.prog W = .ok (.string ⟨y.toArray⟩) W) ∧ y.length ≤ 100 := ⟨D1 ++ [32], fun W => add_runL D1 [32] ⟨by omega, by decide⟩ W, by simp; omega⟩
  obtain ⟨y2, a2, m2⟩ : ∃ y : List UInt8, (∀ W, (Op.stringOp .add ⟨y1.toArray⟩ ⟨D3.toArray⟩).run Tryz.prog W = .ok (.string ⟨y.toArray⟩) W) ∧ y.length ≤ 200 := ⟨y1 ++ D3, fun W => add_runL y1 D3 ⟨by omega, by omega⟩ W, by simp; omega⟩
  obtain ⟨y3, a3, m3⟩ : ∃ y : List UInt8, (∀ W, (Op.stringOp .add ⟨y2.toArray⟩ ⟨#[32]⟩).run Tryz.prog W = .ok (.string ⟨y.toArray⟩) W) ∧ y.length ≤ 300 := ⟨y2 ++ [32], fun W => add_runL y2 [32] ⟨by omega, by decide⟩ W, by simp; omega⟩
  obtain ⟨y4, a4, m4⟩ : ∃ y : List UInt8, (∀ W, (Op.stringOp .add ⟨y3.toArray⟩ ⟨D4.toArray⟩).run Tryz.prog W = .ok (.string ⟨y.toArray⟩) W) ∧ y.length ≤ 400 := ⟨y3 ++ D4, fun W => add_runL y3 D4 ⟨by omega, by omega⟩ W, by simp; omega⟩
  obtain ⟨y5, a5, m5⟩ : ∃ y : List UInt8, (∀ W, (Op.stringOp .add ⟨y4.toArray⟩ ⟨#[32]⟩).run Tryz.prog W = .ok (.string ⟨y.toArray⟩) W) ∧ y.length ≤ 500 := ⟨y4 ++ [32], fun W => add_runL y4 [32] ⟨by omega, by decide⟩ W, by simp; omega⟩
  obtain ⟨y6, a6, m6⟩ : ∃ y : List UInt8, (∀ W, (Op.stringOp .add ⟨y5.toArray⟩ ⟨D2.toArray⟩).run Tryz.prog W = .ok (.string ⟨y.toArray⟩) W) ∧ y.length ≤ 600 := ⟨y5 ++ D2, fun W => add_runL y5 D2 ⟨by omega, by omega⟩ W, by simp; omega⟩
  obtain ⟨y7, a7, m7⟩ : ∃ y : List UInt8, (∀ W, (Op.stringOp .add ⟨y6.toArray⟩ ⟨#[32]⟩).run Tryz.prog W = .ok (.string ⟨y.toArray⟩) W) ∧ y.length ≤ 700 := ⟨y6 ++ [32], fun W => add_runL y6 [32] ⟨by omega, by decide⟩ W, by simp; omega⟩
  obtain ⟨y8, a8⟩ : ∃ y : List UInt8, (∀ W, (Op.stringOp .add ⟨y7.toArray⟩ ⟨z.toArray⟩).run Tryz.prog W = .ok (.string ⟨y.toArray⟩) W) := ⟨y7 ++ z, fun W => add_runL y7 z ⟨by omega, by omega⟩ W⟩
  clear m1 m2 m3 m4 m5 m6 m7 l1 l2 l3 l4 hzl
  obtain ⟨d0, d1⟩ := two_cells (heap_alloc_new w (.cells #[.int .i64 k, .int .u64 a] 50))
  have kn := Bl.new w (.cells #[.int .i64 k, .int .u64 a] 50)
  go_enter Tryz.func49, Tryz.ntmps49
  go_wp2_with fail
  have hS : (w.alloc (.cells #[.int .i64 k, .int .u64 a] 50)).cell? ⟨w.heap.size, 0, none⟩ = some (.int .i64 k) ∧ (w.alloc (.cells #[.int .i64 k, .int .u64 a] 50)).cell? ⟨w.heap.size, 1, none⟩ = some (.int .u64 a) ∧ (∀ W, Bl (w.alloc (.cells #[.int .i64 k, .int .u64 a] 50)) W → (convert 27 9 (.slice A len cap)).run Tryz.prog W = .ok (.string ⟨z.toArray⟩) W) ∧ (convert 27 9 (.slice A len cap)).run Tryz.prog (w.alloc (.cells #[.int .i64 k, .int .u64 a] 50)) = .ok (.string ⟨z.toArray⟩) (w.alloc (.cells #[.int .i64 k, .int .u64 a] 50)) ∧ Bl w (w.alloc (.cells #[.int .i64 k, .int .u64 a] 50)) :=
    ⟨d0, d1, fun W hW => HCV.out W (kn.trans hW), HCV.out _ kn, kn⟩
  clear d0 d1 kn
  generalize w.alloc (.cells #[.int .i64 k, .int .u64 a] 50) = W0 at *
  generalize w.heap.size = b at *
  go_region_held3 (fun w' => w'.cell? ⟨b, 0, none⟩ = some (.int .i64 k) ∧ w'.cell? ⟨b, 1, none⟩ = some (.int .u64 a) ∧ (∀ W, Bl w' W → (convert 27 9 (.slice A len cap)).run Tryz.prog W = .ok (.string ⟨z.toArray⟩) W) ∧ (convert 27 9 (.slice A len cap)).run Tryz.prog w' = .ok (.string ⟨z.toArray⟩) w' ∧ Bl w w') (first | assumption | exact keepT hS ((Bl.refl W0).drewN 1)) (first | (go_at_call 88; with_reducible refine (CU1.out _).mono ?_; rintro e w9 ⟨rfl, k9⟩; have hkk := keepT (by assumption) k9) | (go_at_call 88; with_reducible refine (CU2.out _).mono ?_; rintro e w9 ⟨rfl, k9⟩; have hkk := keepT (by assumption) k9) | (go_at_call 89; with_reducible refine (CD1.out _).mono ?_; rintro e w9 ⟨rfl, k9⟩; have hkk := keepT (by assumption) k9) | (go_at_call 89; with_reducible refine (CD2.out _).mono ?_; rintro e w9 ⟨rfl, k9⟩; have hkk := keepT (by assumption) k9))
  all_goals (
    go_wp2_with fail
    go_ret
    exact ⟨⟨_, rfl⟩, hkk.2.2.2.2⟩)
end Go.Proofs.YtepffglljmekiaaGreat

namespace Go.Proofs
open Go.Shelf
def Tryz.lays187_ren : Go.Shelf.Ren := ⟨fun | 187 => 61 | 255 => 97 | n => n, fun | 37 => 27 | 5 => 5 | 3 => 3 | n => n, fun | n => n⟩
theorem Tryz.lays187 : Go.Proofs.Lays.n187 Tryz.prog Tryz.lays187_ren := {
  mixed := by kernel_rfl
  f187 := Tryz.func61.trans (congrArg some (by kernel_rfl))
  f255 := Tryz.func97.trans (congrArg some (by kernel_rfl))
  t3 := Tryz.underlying3
  a3 := Tryz.isAgg3
  z3 := Tryz.sizeOf3
  v3 := Tryz.zeroValue3
  t5 := Tryz.underlying5
  a5 := Tryz.isAgg5
  z5 := Tryz.sizeOf5
  v5 := Tryz.zeroValue5
  t37 := Tryz.underlying27
  a37 := Tryz.isAgg27
  z37 := Tryz.sizeOf27
  v37 := Tryz.zeroValue27 }
/-- bytes.IndexByte: "IndexByte returns the index of the first instance of c in b, or -1 if c is not present in b.": IT RETURNS 'Lib.indexByte (the bytes of b) c'; the world is as it was. 'xs': the numbers that the slice's cells hold. (LAID: no walk: one application.) -/
theorem Tryz.bytes_IndexByte (b o n c : Nat) (xs : List Int) (cv : Int) (w : World) (hx : xs.length = n) (hc : ∀ i, i < n → w.cell? ⟨b, o + i, none⟩ = some (.int .u8 (xs.getD i 0))) :
    Calls Tryz.prog 61 #[.slice (some ⟨b, o, none⟩) n c, .int .u8 cv] w fun e w' => e = .returned (.int .i64 (Lib.indexByte (Lib.bytesOf xs) cv.toNat.toUInt8)) ∧ w' = w := Any.bytes_IndexByte Tryz.lays187 b o n c xs cv w hx hc
/-- bytes.IndexByte AT nil: -1. (LAID: no walk: one application.) -/
theorem Tryz.bytes_IndexByte_nil (cv : Int) (w : World) :
    Calls Tryz.prog 61 #[.slice none 0 0, .int .u8 cv] w fun e w' => e = .returned (.int .i64 (-1)) ∧ w' = w := Any.bytes_IndexByte_nil Tryz.lays187 cv w
end Go.Proofs
