/-
  What a word is, in plain numbers; the contract of Decode, a form each.
-/
import Derived.Test.YtionnhjldcpmjaaGreatDoorLookC
set_option linter.unusedVariables false
set_option linter.unusedSimpArgs false
namespace Go.Proofs.YtionnhjldcpmjaaGreatDoor
set_option maxRecDepth 100000
open Go.RowKit

/-- An instruction. -/
structure Ins where
  op : Int
  rd : Int
  r1 : Int
  r2 : Int
  im : Int
  od : Int
  sz : Int
deriving DecidableEq
abbrev Ins.cells (i : Ins) : Array Value := I7 i.op i.rd i.r1 i.r2 i.im i.od i.sz
def zeroI : Ins := ⟨0, 0, 0, 0, 0, 0, 0⟩
/-- The parts that a form has. -/
def parts (o : Int) (s : Nat) : Fm → Ins
  | .up => ⟨o, (tk s 7 5 0), 0, 0, (low (tk s 12 20 12) 32), 0, 4⟩
  | .jp => ⟨o, (tk s 7 5 0), 0, 0, (low (bits .or .i64 (bits .or .i64 (bits .or .i64 (tk s 31 1 20) (tk s 12 8 12)) (tk s 20 1 11)) (tk s 21 10 1)) 21), 0, 4⟩
  | .im => ⟨o, (tk s 7 5 0), (tk s 15 5 0), 0, (low (tk s 20 12 0) 12), 0, 4⟩
  | .br => ⟨o, 0, (tk s 15 5 0), (tk s 20 5 0), (low (bits .or .i64 (bits .or .i64 (bits .or .i64 (tk s 31 1 12) (tk s 7 1 11)) (tk s 25 6 5)) (tk s 8 4 1)) 13), 0, 4⟩
  | .st => ⟨o, 0, (tk s 15 5 0), (tk s 20 5 0), (low (bits .or .i64 (tk s 25 7 5) (tk s 7 5 0)) 12), 0, 4⟩
  | .rg => ⟨o, (tk s 7 5 0), (tk s 15 5 0), (tk s 20 5 0), 0, 0, 4⟩
  | .am => ⟨o, (tk s 7 5 0), (tk s 15 5 0), (tk s 20 5 0), 0, (tk s 25 2 0), 4⟩
  | .ba => ⟨o, 0, 0, 0, 0, 0, 4⟩
  | .sh m => ⟨o, (tk s 7 5 0), (tk s 15 5 0), 0, (tk s 20 m 0), 0, 4⟩
  | .no => zeroI

theorem results_two {fn : Func} {p u : Tmp} (h : fn.results = #[.cell p 28, .tmp u]) (tmps : Array Value) (w : World) (g : Nat) (v0 v1 v2 v3 v4 v5 v6 : Value)
    (hp : tmps.getD p undef = .pointer (some ⟨g, 0, none⟩)) (hg : Has w g 28 #[v0, v1, v2, v3, v4, v5, v6]) :
    (results fn tmps).run Tryz.prog w = .ok (.tuple #[.agg #[v0, v1, v2, v3, v4, v5, v6], tmps.getD u undef]) w := by
  have hr := run_loadVar_row (P := Tryz.prog) w g 28 28 #[v0, v1, v2, v3, v4, v5, v6] (0, 0) _ hg Tryz.underlying28 rfl (by kernel_rfl)
  rw [results_cell_tmp h, hp]
  simp [asAddr, Result.andThen, hr]

set_option maxHeartbeats 1000000 in
theorem decode_zero (s : Nat) (w : World) (fm : Fm) (hT : Tabs w) (hl : ∀ w, Tabs w → Calls Tryz.prog 41 #[.int .u32 s] w (LookPost s w 0 fm)) :
    Calls Tryz.prog 43 #[.int .u32 s] w fun e w' => e = .returned (.tuple #[.agg (I7 0 0 0 0 0 0 0), .bool false]) ∧ Kp none w w' := by
  have HL := Lib.hid hl; clear hl
  have k0 := (Kp.refl none w).alloc (I7 0 0 0 0 0 0 0) 28
  have h0 := Has.new w (I7 0 0 0 0 0 0 0) 28
  have T0 := hT.kp k0
  clear hT
  go_enter Tryz.func43, Tryz.ntmps43
  go_wp2_with fail
  refine (HL.out _ T0).mono ?_
  rintro e w1 ⟨v, rfl, _, k1⟩
  have h1 := h0.kp k1 (by simp)
  have K1 := k0.trans k1
  clear k0 k1 h0 T0
  obtain ⟨b0, b1, b2, b3, b4, b5, b6⟩ := h1.seven
  have z := h1.free
  go_wp2
  (try simp only [Exit.inBlock, Exit.then])
  refine bodyPost_ret (results_two rfl _ _ w.heap.size _ _ _ _ _ _ _ rfl (h1.seven_set _ _ _ _ _ _ _)) rfl ⟨rfl, ?_⟩
  exact K1.seven_set (Nat.le_refl _) _ _ _ _ _ _ _

set_option maxHeartbeats 1000000 in
theorem decode_up (s : Nat) (w : World) (o : Int) (hs : s < 4294967296) (ho : (o == 0) = false) (hT : Tabs w) (hl : ∀ w, Tabs w → Calls Tryz.prog 41 #[.int .u32 s] w (LookPost s w o .up)) :
    Calls Tryz.prog 43 #[.int .u32 s] w fun e w' => e = .returned (.tuple #[.agg (I7 o (tk s 7 5 0) 0 0 (low (tk s 12 20 12) 32) 0 4), .bool true]) ∧ Kp none w w' := by
  have HL := Lib.hid hl; clear hl
  have k0 := (Kp.refl none w).alloc (I7 0 0 0 0 0 0 0) 28
  have h0 := Has.new w (I7 0 0 0 0 0 0 0) 28
  have T0 := hT.kp k0
  clear hT
  go_enter Tryz.func43, Tryz.ntmps43
  go_wp2_with fail
  refine (HL.out _ T0).mono ?_
  rintro e w1 ⟨v, rfl, rfl, k1⟩
  have h1 := h0.kp k1 (by simp)
  have K1 := k0.trans k1
  clear k0 k1 h0 T0
  go_wp2_with fail
  refine (taker_any s _).mono ?_
  rintro e w2 ⟨rfl, h2, k2⟩
  go_wp2_with fail
  refine (upper_take o 0 0 0 0 0 4 s _ _ hs h2).mono ?_
  rintro e w3 ⟨rfl, k3⟩
  have h3 := (h1.kp k2 (by simp)).kp k3 (by simp)
  have K3 := (K1.trans k2).trans k3
  clear k2 k3 h1 h2 K1
  obtain ⟨b0, b1, b2, b3, b4, b5, b6⟩ := h3.seven
  have z := h3.free
  go_wp2
  (try simp only [Exit.inBlock, Exit.then])
  refine bodyPost_ret (results_two rfl _ _ w.heap.size _ _ _ _ _ _ _ rfl (h3.seven_set _ _ _ _ _ _ _)) rfl ⟨rfl, ?_⟩
  exact K3.seven_set (Nat.le_refl _) _ _ _ _ _ _ _

set_option maxHeartbeats 1000000 in
theorem decode_jp (s : Nat) (w : World) (o : Int) (hs : s < 4294967296) (ho : (o == 0) = false) (hT : Tabs w) (hl : ∀ w, Tabs w → Calls Tryz.prog 41 #[.int .u32 s] w (LookPost s w o .jp)) :
    Calls Tryz.prog 43 #[.int .u32 s] w fun e w' => e = .returned (.tuple #[.agg (I7 o (tk s 7 5 0) 0 0 (low (bits .or .i64 (bits .or .i64 (bits .or .i64 (tk s 31 1 20) (tk s 12 8 12)) (tk s 20 1 11)) (tk s 21 10 1)) 21) 0 4), .bool true]) ∧ Kp none w w' := by
  have HL := Lib.hid hl; clear hl
  have k0 := (Kp.refl none w).alloc (I7 0 0 0 0 0 0 0) 28
  have h0 := Has.new w (I7 0 0 0 0 0 0 0) 28
  have T0 := hT.kp k0
  clear hT
  go_enter Tryz.func43, Tryz.ntmps43
  go_wp2_with fail
  refine (HL.out _ T0).mono ?_
  rintro e w1 ⟨v, rfl, rfl, k1⟩
  have h1 := h0.kp k1 (by simp)
  have K1 := k0.trans k1
  clear k0 k1 h0 T0
  go_wp2_with fail
  refine (taker_any s _).mono ?_
  rintro e w2 ⟨rfl, h2, k2⟩
  go_wp2_with fail
  refine (jump_take o 0 0 0 0 0 4 s _ _ hs h2).mono ?_
  rintro e w3 ⟨rfl, k3⟩
  have h3 := (h1.kp k2 (by simp)).kp k3 (by simp)
  have K3 := (K1.trans k2).trans k3
  clear k2 k3 h1 h2 K1
  obtain ⟨b0, b1, b2, b3, b4, b5, b6⟩ := h3.seven
  have z := h3.free
  go_wp2
  (try simp only [Exit.inBlock, Exit.then])
  refine bodyPost_ret (results_two rfl _ _ w.heap.size _ _ _ _ _ _ _ rfl (h3.seven_set _ _ _ _ _ _ _)) rfl ⟨rfl, ?_⟩
  exact K3.seven_set (Nat.le_refl _) _ _ _ _ _ _ _

set_option maxHeartbeats 1000000 in
theorem decode_im (s : Nat) (w : World) (o : Int) (hs : s < 4294967296) (ho : (o == 0) = false) (hT : Tabs w) (hl : ∀ w, Tabs w → Calls Tryz.prog 41 #[.int .u32 s] w (LookPost s w o .im)) :
    Calls Tryz.prog 43 #[.int .u32 s] w fun e w' => e = .returned (.tuple #[.agg (I7 o (tk s 7 5 0) (tk s 15 5 0) 0 (low (tk s 20 12 0) 12) 0 4), .bool true]) ∧ Kp none w w' := by
  have HL := Lib.hid hl; clear hl
  have k0 := (Kp.refl none w).alloc (I7 0 0 0 0 0 0 0) 28
  have h0 := Has.new w (I7 0 0 0 0 0 0 0) 28
  have T0 := hT.kp k0
  clear hT
  go_enter Tryz.func43, Tryz.ntmps43
  go_wp2_with fail
  refine (HL.out _ T0).mono ?_
  rintro e w1 ⟨v, rfl, rfl, k1⟩
  have h1 := h0.kp k1 (by simp)
  have K1 := k0.trans k1
  clear k0 k1 h0 T0
  go_wp2_with fail
  refine (taker_any s _).mono ?_
  rintro e w2 ⟨rfl, h2, k2⟩
  go_wp2_with fail
  refine (immediate_take o 0 0 0 0 0 4 s _ _ hs h2).mono ?_
  rintro e w3 ⟨rfl, k3⟩
  have h3 := (h1.kp k2 (by simp)).kp k3 (by simp)
  have K3 := (K1.trans k2).trans k3
  clear k2 k3 h1 h2 K1
  obtain ⟨b0, b1, b2, b3, b4, b5, b6⟩ := h3.seven
  have z := h3.free
  go_wp2
  (try simp only [Exit.inBlock, Exit.then])
  refine bodyPost_ret (results_two rfl _ _ w.heap.size _ _ _ _ _ _ _ rfl (h3.seven_set _ _ _ _ _ _ _)) rfl ⟨rfl, ?_⟩
  exact K3.seven_set (Nat.le_refl _) _ _ _ _ _ _ _

set_option maxHeartbeats 1000000 in
theorem decode_br (s : Nat) (w : World) (o : Int) (hs : s < 4294967296) (ho : (o == 0) = false) (hT : Tabs w) (hl : ∀ w, Tabs w → Calls Tryz.prog 41 #[.int .u32 s] w (LookPost s w o .br)) :
    Calls Tryz.prog 43 #[.int .u32 s] w fun e w' => e = .returned (.tuple #[.agg (I7 o 0 (tk s 15 5 0) (tk s 20 5 0) (low (bits .or .i64 (bits .or .i64 (bits .or .i64 (tk s 31 1 12) (tk s 7 1 11)) (tk s 25 6 5)) (tk s 8 4 1)) 13) 0 4), .bool true]) ∧ Kp none w w' := by
  have HL := Lib.hid hl; clear hl
  have k0 := (Kp.refl none w).alloc (I7 0 0 0 0 0 0 0) 28
  have h0 := Has.new w (I7 0 0 0 0 0 0 0) 28
  have T0 := hT.kp k0
  clear hT
  go_enter Tryz.func43, Tryz.ntmps43
  go_wp2_with fail
  refine (HL.out _ T0).mono ?_
  rintro e w1 ⟨v, rfl, rfl, k1⟩
  have h1 := h0.kp k1 (by simp)
  have K1 := k0.trans k1
  clear k0 k1 h0 T0
  go_wp2_with fail
  refine (taker_any s _).mono ?_
  rintro e w2 ⟨rfl, h2, k2⟩
  go_wp2_with fail
  refine (branch_take o 0 0 0 0 0 4 s _ _ hs h2).mono ?_
  rintro e w3 ⟨rfl, k3⟩
  have h3 := (h1.kp k2 (by simp)).kp k3 (by simp)
  have K3 := (K1.trans k2).trans k3
  clear k2 k3 h1 h2 K1
  obtain ⟨b0, b1, b2, b3, b4, b5, b6⟩ := h3.seven
  have z := h3.free
  go_wp2
  (try simp only [Exit.inBlock, Exit.then])
  refine bodyPost_ret (results_two rfl _ _ w.heap.size _ _ _ _ _ _ _ rfl (h3.seven_set _ _ _ _ _ _ _)) rfl ⟨rfl, ?_⟩
  exact K3.seven_set (Nat.le_refl _) _ _ _ _ _ _ _

set_option maxHeartbeats 1000000 in
theorem decode_st (s : Nat) (w : World) (o : Int) (hs : s < 4294967296) (ho : (o == 0) = false) (hT : Tabs w) (hl : ∀ w, Tabs w → Calls Tryz.prog 41 #[.int .u32 s] w (LookPost s w o .st)) :
    Calls Tryz.prog 43 #[.int .u32 s] w fun e w' => e = .returned (.tuple #[.agg (I7 o 0 (tk s 15 5 0) (tk s 20 5 0) (low (bits .or .i64 (tk s 25 7 5) (tk s 7 5 0)) 12) 0 4), .bool true]) ∧ Kp none w w' := by
  have HL := Lib.hid hl; clear hl
  have k0 := (Kp.refl none w).alloc (I7 0 0 0 0 0 0 0) 28
  have h0 := Has.new w (I7 0 0 0 0 0 0 0) 28
  have T0 := hT.kp k0
  clear hT
  go_enter Tryz.func43, Tryz.ntmps43
  go_wp2_with fail
  refine (HL.out _ T0).mono ?_
  rintro e w1 ⟨v, rfl, rfl, k1⟩
  have h1 := h0.kp k1 (by simp)
  have K1 := k0.trans k1
  clear k0 k1 h0 T0
  go_wp2_with fail
  refine (taker_any s _).mono ?_
  rintro e w2 ⟨rfl, h2, k2⟩
  go_wp2_with fail
  refine (store_take o 0 0 0 0 0 4 s _ _ hs h2).mono ?_
  rintro e w3 ⟨rfl, k3⟩
  have h3 := (h1.kp k2 (by simp)).kp k3 (by simp)
  have K3 := (K1.trans k2).trans k3
  clear k2 k3 h1 h2 K1
  obtain ⟨b0, b1, b2, b3, b4, b5, b6⟩ := h3.seven
  have z := h3.free
  go_wp2
  (try simp only [Exit.inBlock, Exit.then])
  refine bodyPost_ret (results_two rfl _ _ w.heap.size _ _ _ _ _ _ _ rfl (h3.seven_set _ _ _ _ _ _ _)) rfl ⟨rfl, ?_⟩
  exact K3.seven_set (Nat.le_refl _) _ _ _ _ _ _ _

set_option maxHeartbeats 1000000 in
theorem decode_rg (s : Nat) (w : World) (o : Int) (hs : s < 4294967296) (ho : (o == 0) = false) (hT : Tabs w) (hl : ∀ w, Tabs w → Calls Tryz.prog 41 #[.int .u32 s] w (LookPost s w o .rg)) :
    Calls Tryz.prog 43 #[.int .u32 s] w fun e w' => e = .returned (.tuple #[.agg (I7 o (tk s 7 5 0) (tk s 15 5 0) (tk s 20 5 0) 0 0 4), .bool true]) ∧ Kp none w w' := by
  have HL := Lib.hid hl; clear hl
  have k0 := (Kp.refl none w).alloc (I7 0 0 0 0 0 0 0) 28
  have h0 := Has.new w (I7 0 0 0 0 0 0 0) 28
  have T0 := hT.kp k0
  clear hT
  go_enter Tryz.func43, Tryz.ntmps43
  go_wp2_with fail
  refine (HL.out _ T0).mono ?_
  rintro e w1 ⟨v, rfl, rfl, k1⟩
  have h1 := h0.kp k1 (by simp)
  have K1 := k0.trans k1
  clear k0 k1 h0 T0
  go_wp2_with fail
  refine (taker_any s _).mono ?_
  rintro e w2 ⟨rfl, h2, k2⟩
  go_wp2_with fail
  refine (registers_take o 0 0 0 0 0 4 s _ _ hs h2).mono ?_
  rintro e w3 ⟨rfl, k3⟩
  have h3 := (h1.kp k2 (by simp)).kp k3 (by simp)
  have K3 := (K1.trans k2).trans k3
  clear k2 k3 h1 h2 K1
  obtain ⟨b0, b1, b2, b3, b4, b5, b6⟩ := h3.seven
  have z := h3.free
  go_wp2
  (try simp only [Exit.inBlock, Exit.then])
  refine bodyPost_ret (results_two rfl _ _ w.heap.size _ _ _ _ _ _ _ rfl (h3.seven_set _ _ _ _ _ _ _)) rfl ⟨rfl, ?_⟩
  exact K3.seven_set (Nat.le_refl _) _ _ _ _ _ _ _

set_option maxHeartbeats 1000000 in
theorem decode_am (s : Nat) (w : World) (o : Int) (hs : s < 4294967296) (ho : (o == 0) = false) (hT : Tabs w) (hl : ∀ w, Tabs w → Calls Tryz.prog 41 #[.int .u32 s] w (LookPost s w o .am)) :
    Calls Tryz.prog 43 #[.int .u32 s] w fun e w' => e = .returned (.tuple #[.agg (I7 o (tk s 7 5 0) (tk s 15 5 0) (tk s 20 5 0) 0 (tk s 25 2 0) 4), .bool true]) ∧ Kp none w w' := by
  have HL := Lib.hid hl; clear hl
  have k0 := (Kp.refl none w).alloc (I7 0 0 0 0 0 0 0) 28
  have h0 := Has.new w (I7 0 0 0 0 0 0 0) 28
  have T0 := hT.kp k0
  clear hT
  go_enter Tryz.func43, Tryz.ntmps43
  go_wp2_with fail
  refine (HL.out _ T0).mono ?_
  rintro e w1 ⟨v, rfl, rfl, k1⟩
  have h1 := h0.kp k1 (by simp)
  have K1 := k0.trans k1
  clear k0 k1 h0 T0
  go_wp2_with fail
  refine (taker_any s _).mono ?_
  rintro e w2 ⟨rfl, h2, k2⟩
  go_wp2_with fail
  refine (atomic_take o 0 0 0 0 0 4 s _ _ hs h2).mono ?_
  rintro e w3 ⟨rfl, k3⟩
  have h3 := (h1.kp k2 (by simp)).kp k3 (by simp)
  have K3 := (K1.trans k2).trans k3
  clear k2 k3 h1 h2 K1
  obtain ⟨b0, b1, b2, b3, b4, b5, b6⟩ := h3.seven
  have z := h3.free
  go_wp2
  (try simp only [Exit.inBlock, Exit.then])
  refine bodyPost_ret (results_two rfl _ _ w.heap.size _ _ _ _ _ _ _ rfl (h3.seven_set _ _ _ _ _ _ _)) rfl ⟨rfl, ?_⟩
  exact K3.seven_set (Nat.le_refl _) _ _ _ _ _ _ _

set_option maxHeartbeats 1000000 in
theorem decode_ba (s : Nat) (w : World) (o : Int) (hs : s < 4294967296) (ho : (o == 0) = false) (hT : Tabs w) (hl : ∀ w, Tabs w → Calls Tryz.prog 41 #[.int .u32 s] w (LookPost s w o .ba)) :
    Calls Tryz.prog 43 #[.int .u32 s] w fun e w' => e = .returned (.tuple #[.agg (I7 o 0 0 0 0 0 4), .bool true]) ∧ Kp none w w' := by
  have HL := Lib.hid hl; clear hl
  have k0 := (Kp.refl none w).alloc (I7 0 0 0 0 0 0 0) 28
  have h0 := Has.new w (I7 0 0 0 0 0 0 0) 28
  have T0 := hT.kp k0
  clear hT
  go_enter Tryz.func43, Tryz.ntmps43
  go_wp2_with fail
  refine (HL.out _ T0).mono ?_
  rintro e w1 ⟨v, rfl, rfl, k1⟩
  have h1 := h0.kp k1 (by simp)
  have K1 := k0.trans k1
  clear k0 k1 h0 T0
  go_wp2_with fail
  refine (taker_any s _).mono ?_
  rintro e w2 ⟨rfl, h2, k2⟩
  go_wp2_with fail
  refine (bare_any o 0 0 0 0 0 4 _ _).mono ?_
  rintro e w3 ⟨rfl, k3⟩
  have h3 := (h1.kp k2 (by simp)).kp k3 (by simp)
  have K3 := (K1.trans k2).trans k3
  clear k2 k3 h1 h2 K1
  obtain ⟨b0, b1, b2, b3, b4, b5, b6⟩ := h3.seven
  have z := h3.free
  go_wp2
  (try simp only [Exit.inBlock, Exit.then])
  refine bodyPost_ret (results_two rfl _ _ w.heap.size _ _ _ _ _ _ _ rfl (h3.seven_set _ _ _ _ _ _ _)) rfl ⟨rfl, ?_⟩
  exact K3.seven_set (Nat.le_refl _) _ _ _ _ _ _ _

set_option maxHeartbeats 1000000 in
theorem decode_sh (s : Nat) (w : World) (o : Int) (m : Nat) (hm : m ≤ 6) (hs : s < 4294967296) (ho : (o == 0) = false) (hT : Tabs w) (hl : ∀ w, Tabs w → Calls Tryz.prog 41 #[.int .u32 s] w (LookPost s w o (.sh m))) :
    Calls Tryz.prog 43 #[.int .u32 s] w fun e w' => e = .returned (.tuple #[.agg (I7 o (tk s 7 5 0) (tk s 15 5 0) 0 (tk s 20 m 0) 0 4), .bool true]) ∧ Kp none w w' := by
  have HL := Lib.hid hl; clear hl
  have k0 := (Kp.refl none w).alloc (I7 0 0 0 0 0 0 0) 28
  have h0 := Has.new w (I7 0 0 0 0 0 0 0) 28
  have T0 := hT.kp k0
  clear hT
  go_enter Tryz.func43, Tryz.ntmps43
  go_wp2_with fail
  refine (HL.out _ T0).mono ?_
  rintro e w1 ⟨v, rfl, ⟨Q, rfl, hq, _⟩, k1⟩
  have h1 := h0.kp k1 (by simp)
  have K1 := k0.trans k1
  clear k0 k1 h0 T0
  go_wp2_with fail
  refine (taker_any s _).mono ?_
  rintro e w2 ⟨rfl, h2, k2⟩
  go_wp2_with fail
  refine (shift_take o 0 0 0 0 0 4 s _ _ hs h2 m Q hm (hq.kp k2 (by simp))).mono ?_
  rintro e w3 ⟨rfl, k3⟩
  have h3 := (h1.kp k2 (by simp)).kp k3 (by simp)
  have K3 := (K1.trans k2).trans k3
  clear k2 k3 h1 h2 K1
  obtain ⟨b0, b1, b2, b3, b4, b5, b6⟩ := h3.seven
  have z := h3.free
  go_wp2
  (try simp only [Exit.inBlock, Exit.then])
  refine bodyPost_ret (results_two rfl _ _ w.heap.size _ _ _ _ _ _ _ rfl (h3.seven_set _ _ _ _ _ _ _)) rfl ⟨rfl, ?_⟩
  exact K3.seven_set (Nat.le_refl _) _ _ _ _ _ _ _

end Go.Proofs.YtionnhjldcpmjaaGreatDoor
