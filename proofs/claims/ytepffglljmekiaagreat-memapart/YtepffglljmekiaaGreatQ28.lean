/-
  Pages of a space; what a program that does nothing does not answer.
  Touch of a store.
-/
import Derived.Test.YtepffglljmekiaaGreatQ27
import Derived.Test.YtepffglljmekiaaGreatQ19
set_option linter.unusedVariables false
set_option linter.unusedSimpArgs false
namespace Go.Proofs.YtepffglljmekiaaGreat
open Go.RowKit
set_option maxRecDepth 100000
set_option maxHeartbeats 1000000 in
theorem mpages_any {T : Nat → Prop} {w : World} {sb n : Nat} {L : List Rg} {M st : Nat → Int} {mo ba en : Int} (h : MS T w sb n L M st mo ba en) : Calls Tryz.prog 29 #[addr0 sb] w (IntPost w (tot L / 4096)) := by
  obtain ⟨X, hX⟩ := h.list
  have cp := pages_any hX h.so (by have := h.few; omega)
  have CP := Lib.hid cp; clear cp hX h
  unfold addr0 at *
  go_enter Tryz.func29, Tryz.ntmps29
  go_wp2_with fail
  refine CP.out.mono ?_
  rintro e w' ⟨rfl, k⟩
  have K := Lib.hid k; clear k
  go_wp2_with fail
  go_ret
  exact ⟨rfl, K.out⟩
def from_ (lo : Nat) : Nat → Prop := fun b => lo ≤ b
theorem Fr.from_bl {w w1 w2 : World} (k : Bl w w1) (f : Fr (from_ w.heap.size) w1 w2) : Bl w w2 := ⟨f.os.trans k.os, f.tape.trans k.tape, f.output.trans k.output, Nat.le_trans k.size f.size, fun b hb => (f.block b (Nat.lt_of_lt_of_le hb k.size) (fun e => by have : w.heap.size ≤ b := e; omega)).trans (k.block b hb)⟩
theorem kind_run (k x : Int) (w : World) : (Instr.field 50 (.agg #[.int .i64 k, .int .u64 x]) 0).run Tryz.prog w = .ok (.int .i64 k) w := by kernel_rfl
/-- A new space with one span mapped, at a fixed place. -/
theorem mmap_new {T : Nat → Prop} {w : World} {sb n : Nat} {M st : Nat → Int} {mo ba en : Int} (h : MS T w sb n [] M st mo ba en) (a b : Nat) (size p : Int) (h1 : 0 < size) (h2 : size ≤ 274877906944) (hp0 : 0 ≤ p) (hp1 : p ≤ 7) (hb : (b : Int) = a + (size + 4095) / 4096 * 4096) (hs : Span (a : Int) (b : Int)) (hm : (b : Int) - a ≤ mo * 4096) (hn : n < 80000000) (hT : ∀ b, w.heap.size ≤ b → T b) :
    Calls Tryz.prog 16 #[addr0 sb, .int .u64 (a : Int), .int .u64 size, .int .i64 p, .bool true] w fun e w' => e = .returned (.tuple #[.int .u64 (a : Int), .int .i64 0]) ∧ ClearPost T w sb n [⟨a, b, p⟩] M st mo ba en a b w' := by
  have hs4 := hs.2.2.2
  refine (mmap_fixed h a size p (by have := hs.2.2.1; omega) (by omega) ⟨hs.1, by omega, h2, hp0, hp1⟩ hn hT b (by rw [IntWalk.u64_in _ (by omega)]; exact hb)).mono ?_
  rintro e w' ⟨r, rfl, hl⟩
  rw [LayAny, layL_new] at hl
  rcases hl with ⟨rfl, _, _, _, _, _, hc⟩ | ⟨_, hx, _⟩ | ⟨_, _, hx, _⟩
  · exact ⟨by rw [if_pos rfl], hc⟩
  · exact absurd ⟨hs, hp0, hp1⟩ hx
  · rcases hx with hx | hx
    · simp at hx
    · simp only [tot] at hx; omega
set_option maxHeartbeats 2000000 in
theorem manswers_any (w : World) : Calls Tryz.prog 6 #[] w (BoolPost w true) := by
  have hT : ∀ b, w.heap.size ≤ b → from_ w.heap.size b := fun b hb => hb
  have cn := mnew_any (from_ w.heap.size) 5 w (Nat.le_refl _) (by omega) (by omega)
  have CN := Lib.hid cn; clear cn
  have HT := Lib.hid hT; clear hT
  go_enter Tryz.func6, Tryz.ntmps6
  go_wp2_with fail
  refine CN.out.mono ?_
  rintro e w1 ⟨rfl, h1, k1, hs1⟩
  have cm := mmap_new h1 4096 8192 1 3 (by omega) (by omega) (by omega) (by omega) (by omega) ⟨by omega, by omega, by omega, by omega⟩ (by omega) (by omega) (fun b hb => HT.out b (by omega))
  have CM := Lib.hid cm; clear cm
  have K1 := Lib.hid k1; clear k1 h1 CN
  unfold addr0 at *
  go_wp2_with fail
  refine CM.out.mono ?_
  rintro e w2 ⟨rfl, st2, h2, r2, f2⟩
  have H2 := Lib.hid h2; clear h2 CM
  have K2 := Lib.hid (Fr.from_bl K1.out f2); clear f2 r2
  have cs := mstore_any H2.out 4096 8 77 (by omega) (by omega) (by omega) (fun b hb => HT.out b (Nat.le_trans K2.out.size hb))
  have CS := Lib.hid cs; clear cs
  unfold addr0 at *
  go_wp2_with fail
  refine CS.out.mono ?_
  rintro e w3 ⟨k, y, rfl, hh⟩
  rcases hh with ⟨_, hy1, hy2, hno, _⟩ | ⟨rfl, rfl, _, st3, h3, _, f3⟩
  · exact absurd ⟨3, ⟨⟨4096, 8192, 3⟩, by simp, by simp at hy1; simp; omega, by simp at hy2; simp; omega, rfl⟩, by decide⟩ hno
  · have K3 := Lib.hid (Fr.from_bl K2.out f3); clear f3
    have cp := mpages_any h3
    have CP := Lib.hid cp; clear cp h3 CS
    unfold faultV
    unfold addr0 at *
    have hfk := fun W => kind_run 0 0 W
    go_wp2_with fail
    refine CP.out.mono ?_
    rintro e w4 ⟨rfl, k4⟩
    have K4 := Lib.hid (K3.out.trans k4); clear k4
    have ht : tot [⟨((4096 : Nat) : Int), ((8192 : Nat) : Int), 3⟩] / 4096 = 1 := by decide
    rw [ht]
    go_wp2_with fail
    go_ret
    exact ⟨rfl, K4.out⟩
end Go.Proofs.YtepffglljmekiaaGreat

set_option linter.unusedVariables false
set_option linter.unusedSimpArgs false
namespace Go.Proofs.YtepffglljmekiaaGreat
open Go.RowKit
set_option maxRecDepth 100000
/-- The stamps of a span, few pages or many. -/
theorem stampAll_any {Y : Rest} {S : Nat → Prop} {w : World} {sb n k : Nat} {f : Nat → Option Nat} {M st : Nat → Int} (h : StoreAt Y S w sb n f k M st) (a b : Nat) (hab : a < b) (hc : b ≤ 274877906944) (hn : n < 80000000) (hS : ∀ b, w.heap.size ≤ b → S b) :
    Calls Tryz.prog 108 #[.pointer (some ⟨sb, 1, none⟩), span (a : Int) (b : Int)] w fun e w' => e = .returned (.tuple #[]) ∧ (∃ st', StoreAt Y S w' sb (n + 8192) f k M st' ∧ Rise st st' (fun p => a / 4096 ≤ p ∧ p ≤ (b - 1) / 4096)) ∧ Fr S w w' := by
  by_cases hw : (b - 1) / 4096 - a / 4096 < 4096
  · exact stampAll_narrow h a b hab hc hw (by omega) hS
  · refine (stampAll_wide h (a : Int) (b : Int) (by omega) (by omega) (by omega) (by omega) (by omega)).mono ?_
    rintro e w' ⟨rfl, ⟨st', h1, h2⟩, h3⟩
    exact ⟨rfl, ⟨st', h1.mono (by omega), h2.mono fun _ _ => trivial⟩, h3⟩
set_option maxHeartbeats 2000000 in
theorem touch_any {Y : Rest} {S : Nat → Prop} {w : World} {sb n k : Nat} {f : Nat → Option Nat} {M st : Nat → Int} (h : StoreAt Y S w sb n f k M st) (a b : Nat) (hab : a < b) (hc : b ≤ 274877906944) (hn : n < 80000000) (hS : ∀ b, w.heap.size ≤ b → S b) :
    Calls Tryz.prog 70 #[.pointer (some ⟨sb, 1, none⟩), .int .u64 (a : Int), .int .u64 (b : Int)] w fun e w' => e = .returned (.tuple #[]) ∧ (∃ st', StoreAt Y S w' sb (n + 8192) f k M st' ∧ Rise st st' (fun p => a / 4096 ≤ p ∧ p ≤ (b - 1) / 4096)) ∧ Fr S w w' := by
  have cw := fun W => pwithin_in (a : Int) (b : Int) W (by omega)
  have ce := fun W => empty_any (a : Int) (b : Int) W
  rw [decide_eq_false (by omega)] at ce
  have cst := fun (W : World) (S' : Nat → Prop) (hW : StoreAt Y S' W sb n f k M st) (hS' : ∀ b, W.heap.size ≤ b → S' b) => stampAll_any hW a b hab hc hn hS'
  have HH := Lib.hid h; clear h
  have HS := Lib.hid hS; clear hS
  have CW := Lib.hid cw; clear cw
  have CE := Lib.hid ce; clear ce
  have CST := Lib.hid cst; clear cst
  generalize (a : Int) = A at *
  generalize (b : Int) = B at *
  unfold span at *
  go_enter Tryz.func70, Tryz.ntmps70
  go_wp2_with fail
  refine (CW.out _).mono ?_
  rintro e w1 ⟨rfl, bl1⟩
  have h1 : StoreAt Y (less S w1.heap.size) (w1.alloc (box48 A B)) sb n f k M st := (HH.out.bl bl1).less _
  have hS1 : ∀ b, w1.heap.size ≤ b → S b := fun b hb => HS.out b (Nat.le_trans bl1.size hb)
  have fr1 : Fr (less S w1.heap.size) (w1.alloc (box48 A B)) (w1.alloc (box48 A B)) := Fr.refl _ _
  have FR1 := Lib.hid fr1; clear fr1
  have H1 := Lib.hid h1; clear h1
  have HS1 := Lib.hid hS1; clear hS1
  have BL1 := Lib.hid bl1; clear bl1
  go_wp2_with fail
  refine (CE.out _).mono ?_
  rintro e w2 ⟨rfl, bl2⟩
  have fr2 := FR1.out.trans (Fr.of_bl bl2)
  have h2 := H1.out.bl bl2
  obtain ⟨c0, c1⟩ := two_cells (box_at fr2)
  have FR2 := Lib.hid fr2; clear fr2 FR1 bl2
  have H2 := Lib.hid h2; clear h2 H1
  go_wp2_with fail
  refine (CST.out _ _ H2.out (less_new HS1.out FR2.out.size)).mono ?_
  rintro e w3 ⟨rfl, ⟨st', h3, r3⟩, fr3⟩
  have FR3 := Lib.hid (FR2.out.trans fr3)
  have H3 := Lib.hid (h3.among (T := S) (fun _ _ e => e.1))
  have R3 := Lib.hid r3
  clear c0 c1 h3 r3 fr3
  go_wp2_with fail
  go_end0
  exact ⟨rfl, ⟨st', H3.out, R3.out⟩, (Fr.of_bl BL1.out).trans FR3.out.unless⟩
end Go.Proofs.YtepffglljmekiaaGreat
