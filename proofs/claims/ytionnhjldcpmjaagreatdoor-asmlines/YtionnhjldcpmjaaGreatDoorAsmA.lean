/-
  The operators' names, as the program lays them.
-/
import Derived.Test.YtionnhjldcpmjaaGreatDoorAsmB
import Derived.Laws.Tables
set_option linter.unusedVariables false
set_option linter.unusedSimpArgs false
namespace Go.Proofs.YtionnhjldcpmjaaGreatDoor
open Go.RowKit

/-- The operators' names, by their numbers. -/
def nmT : List (List UInt8) := [[], [108, 117, 105], [97, 117, 105, 112, 99], [106, 97, 108], [106, 97, 108, 114], [98, 101, 113], [98, 110, 101], [98, 108, 116], [98, 103, 101], [98, 108, 116, 117], [98, 103, 101, 117], [108, 98], [108, 104], [108, 119], [108, 100], [108, 98, 117], [108, 104, 117], [108, 119, 117], [115, 98], [115, 104], [115, 119], [115, 100], [97, 100, 100, 105], [115, 108, 116, 105], [115, 108, 116, 105, 117], [120, 111, 114, 105], [111, 114, 105], [97, 110, 100, 105], [115, 108, 108, 105], [115, 114, 108, 105], [115, 114, 97, 105], [97, 100, 100], [115, 117, 98], [115, 108, 108], [115, 108, 116], [115, 108, 116, 117], [120, 111, 114], [115, 114, 108], [115, 114, 97], [111, 114], [97, 110, 100], [97, 100, 100, 105, 119], [115, 108, 108, 105, 119], [115, 114, 108, 105, 119], [115, 114, 97, 105, 119], [97, 100, 100, 119], [115, 117, 98, 119], [115, 108, 108, 119], [115, 114, 108, 119], [115, 114, 97, 119], [109, 117, 108], [109, 117, 108, 104], [109, 117, 108, 104, 115, 117], [109, 117, 108, 104, 117], [100, 105, 118], [100, 105, 118, 117], [114, 101, 109], [114, 101, 109, 117], [109, 117, 108, 119], [100, 105, 118, 119], [100, 105, 118, 117, 119], [114, 101, 109, 119], [114, 101, 109, 117, 119], [108, 114, 46, 119], [115, 99, 46, 119], [97, 109, 111, 115, 119, 97, 112, 46, 119], [97, 109, 111, 97, 100, 100, 46, 119], [97, 109, 111, 120, 111, 114, 46, 119], [97, 109, 111, 97, 110, 100, 46, 119], [97, 109, 111, 111, 114, 46, 119], [97, 109, 111, 109, 105, 110, 46, 119], [97, 109, 111, 109, 97, 120, 46, 119], [97, 109, 111, 109, 105, 110, 117, 46, 119], [97, 109, 111, 109, 97, 120, 117, 46, 119], [108, 114, 46, 100], [115, 99, 46, 100], [97, 109, 111, 115, 119, 97, 112, 46, 100], [97, 109, 111, 97, 100, 100, 46, 100], [97, 109, 111, 120, 111, 114, 46, 100], [97, 109, 111, 97, 110, 100, 46, 100], [97, 109, 111, 111, 114, 46, 100], [97, 109, 111, 109, 105, 110, 46, 100], [97, 109, 111, 109, 97, 120, 46, 100], [97, 109, 111, 109, 105, 110, 117, 46, 100], [97, 109, 111, 109, 97, 120, 117, 46, 100], [102, 101, 110, 99, 101], [102, 101, 110, 99, 101, 46, 105], [101, 99, 97, 108, 108], [101, 98, 114, 101, 97, 107]]
theorem nmT_len : nmT.length = 89 := by decide
/-- An operator's name. -/
def nm (op : Int) : List UInt8 := if 1 ≤ op ∧ op ≤ 88 then nmT.getD op.toNat [] else []
/-- An array of the names. -/
def NmIdx (V : Value) : Prop := ∀ i : Nat, i < 89 → ∀ w : World, (Instr.index 52 V (.int .i64 i)).run Tryz.prog w = .ok (str (nmT.getD i [])) w
def nmL : Array Value := #[.string ⟨#[]⟩, .string ⟨#[108, 117, 105]⟩, .string ⟨#[97, 117, 105, 112, 99]⟩, .string ⟨#[106, 97, 108]⟩, .string ⟨#[106, 97, 108, 114]⟩, .string ⟨#[98, 101, 113]⟩, .string ⟨#[98, 110, 101]⟩, .string ⟨#[98, 108, 116]⟩, .string ⟨#[98, 103, 101]⟩, .string ⟨#[98, 108, 116, 117]⟩, .string ⟨#[98, 103, 101, 117]⟩, .string ⟨#[108, 98]⟩, .string ⟨#[108, 104]⟩, .string ⟨#[108, 119]⟩, .string ⟨#[108, 100]⟩, .string ⟨#[108, 98, 117]⟩, .string ⟨#[108, 104, 117]⟩, .string ⟨#[108, 119, 117]⟩, .string ⟨#[115, 98]⟩, .string ⟨#[115, 104]⟩, .string ⟨#[115, 119]⟩, .string ⟨#[115, 100]⟩, .string ⟨#[97, 100, 100, 105]⟩, .string ⟨#[115, 108, 116, 105]⟩, .string ⟨#[115, 108, 116, 105, 117]⟩, .string ⟨#[120, 111, 114, 105]⟩, .string ⟨#[111, 114, 105]⟩, .string ⟨#[97, 110, 100, 105]⟩, .string ⟨#[115, 108, 108, 105]⟩, .string ⟨#[115, 114, 108, 105]⟩, .string ⟨#[115, 114, 97, 105]⟩, .string ⟨#[97, 100, 100]⟩, .string ⟨#[115, 117, 98]⟩, .string ⟨#[115, 108, 108]⟩, .string ⟨#[115, 108, 116]⟩, .string ⟨#[115, 108, 116, 117]⟩, .string ⟨#[120, 111, 114]⟩, .string ⟨#[115, 114, 108]⟩, .string ⟨#[115, 114, 97]⟩, .string ⟨#[111, 114]⟩, .string ⟨#[97, 110, 100]⟩, .string ⟨#[97, 100, 100, 105, 119]⟩, .string ⟨#[115, 108, 108, 105, 119]⟩, .string ⟨#[115, 114, 108, 105, 119]⟩, .string ⟨#[115, 114, 97, 105, 119]⟩, .string ⟨#[97, 100, 100, 119]⟩, .string ⟨#[115, 117, 98, 119]⟩, .string ⟨#[115, 108, 108, 119]⟩, .string ⟨#[115, 114, 108, 119]⟩, .string ⟨#[115, 114, 97, 119]⟩, .string ⟨#[109, 117, 108]⟩, .string ⟨#[109, 117, 108, 104]⟩, .string ⟨#[109, 117, 108, 104, 115, 117]⟩, .string ⟨#[109, 117, 108, 104, 117]⟩, .string ⟨#[100, 105, 118]⟩, .string ⟨#[100, 105, 118, 117]⟩, .string ⟨#[114, 101, 109]⟩, .string ⟨#[114, 101, 109, 117]⟩, .string ⟨#[109, 117, 108, 119]⟩, .string ⟨#[100, 105, 118, 119]⟩, .string ⟨#[100, 105, 118, 117, 119]⟩, .string ⟨#[114, 101, 109, 119]⟩, .string ⟨#[114, 101, 109, 117, 119]⟩, .string ⟨#[108, 114, 46, 119]⟩, .string ⟨#[115, 99, 46, 119]⟩, .string ⟨#[97, 109, 111, 115, 119, 97, 112, 46, 119]⟩, .string ⟨#[97, 109, 111, 97, 100, 100, 46, 119]⟩, .string ⟨#[97, 109, 111, 120, 111, 114, 46, 119]⟩, .string ⟨#[97, 109, 111, 97, 110, 100, 46, 119]⟩, .string ⟨#[97, 109, 111, 111, 114, 46, 119]⟩, .string ⟨#[97, 109, 111, 109, 105, 110, 46, 119]⟩, .string ⟨#[97, 109, 111, 109, 97, 120, 46, 119]⟩, .string ⟨#[97, 109, 111, 109, 105, 110, 117, 46, 119]⟩, .string ⟨#[97, 109, 111, 109, 97, 120, 117, 46, 119]⟩, .string ⟨#[108, 114, 46, 100]⟩, .string ⟨#[115, 99, 46, 100]⟩, .string ⟨#[97, 109, 111, 115, 119, 97, 112, 46, 100]⟩, .string ⟨#[97, 109, 111, 97, 100, 100, 46, 100]⟩, .string ⟨#[97, 109, 111, 120, 111, 114, 46, 100]⟩, .string ⟨#[97, 109, 111, 97, 110, 100, 46, 100]⟩, .string ⟨#[97, 109, 111, 111, 114, 46, 100]⟩, .string ⟨#[97, 109, 111, 109, 105, 110, 46, 100]⟩, .string ⟨#[97, 109, 111, 109, 97, 120, 46, 100]⟩, .string ⟨#[97, 109, 111, 109, 105, 110, 117, 46, 100]⟩, .string ⟨#[97, 109, 111, 109, 97, 120, 117, 46, 100]⟩, .string ⟨#[102, 101, 110, 99, 101]⟩, .string ⟨#[102, 101, 110, 99, 101, 46, 105]⟩, .string ⟨#[101, 99, 97, 108, 108]⟩, .string ⟨#[101, 98, 114, 101, 97, 107]⟩]
theorem nmL_cells : ∀ i : Nat, i < 89 → nmL[i]? = some (str (nmT.getD i [])) := by
  have h : nmL = (nmT.map str).toArray := by rfl
  intro i hi
  rw [h]
  have hl : i < nmT.length := by rw [nmT_len]; exact hi
  simp [List.getElem?_map, List.getElem?_eq_getElem hl, List.getD_eq_getElem?_getD]
theorem nmL_ok : NmIdx (.agg nmL) := by
  intro i hi w
  have hc := nmL_cells i hi
  have hx : (nmL.extract (i * 1) (i * 1 + 1)) = #[str (nmT.getD i [])] := by
    have hs : i < nmL.size := (Array.getElem?_eq_some_iff.1 hc).1
    have hv : nmL[i] = str (nmT.getD i []) := (Array.getElem?_eq_some_iff.1 hc).2
    rw [Nat.mul_one]
    apply Array.ext
    · simp; omega
    · intro k h1 h2
      simp at h2
      subst h2
      simp [hv]
  simp [Instr.index, run_underlying Tryz.underlying52, asIntOf, go_sem, hc]
  intro h
  omega
set_option maxRecDepth 20000 in
set_option maxHeartbeats 2000000 in
theorem names_any (w : World) : Calls Tryz.prog 21 #[] w fun e w' => ∃ V, e = .returned V ∧ NmIdx V ∧ Bl w w' := by
  have hO := Lib.hid nmL_ok
  go_enter Tryz.func21, Tryz.ntmps21
  go_wp2
  rename_i Q' K1 a1 K0 a0
  refine wp_build 52 _ rfl (by kernel_rfl) ?_
  generalize hX : (Option.getD (Program.built Tryz.prog 52 _) #[]) = X
  obtain rfl : X = nmL := by rw [← hX]; kernel_rfl
  clear hX
  apply a0
  refine wpList_store_row rfl 52 _ _ rfl w.heap.size nmL rfl rfl 52 Tryz.zeroCells52 (Has.new w _ 52) (by kernel_rfl) (by kernel_rfl) (by kernel_rfl) ?_
  have hh : Has ((w.alloc (.cells Tryz.zeroCells52 52)).setRow w.heap.size nmL) w.heap.size 52 nmL := setRow_heap _ _ _ _ _ _ (Has.new w _ 52)
  have hb : Bl w ((w.alloc (.cells Tryz.zeroCells52 52)).setRow w.heap.size nmL) :=
    ⟨rfl, rfl, rfl, by rw [setRow_size]; simp, fun k hk => (setRow_other _ _ _ _ (by omega)).trans (Below.heap_alloc _ _ _ hk)⟩
  generalize (w.alloc (.cells Tryz.zeroCells52 52)).setRow w.heap.size nmL = w1 at *
  go_wp2
  (try simp only [Exit.inBlock, Exit.then])
  exact bodyPost_ret (results_cell_row rfl _ _ w.heap.size 52 nmL (0, 0) _ rfl hh Tryz.underlying52 rfl (by kernel_rfl)) rfl ⟨_, rfl, hO.out, hb⟩

end Go.Proofs.YtionnhjldcpmjaaGreatDoor
