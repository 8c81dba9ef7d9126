/-
  The text of any sound instruction, as the reference tells it.
-/
import Derived.Test.YtionnhjldcpmjaaGreatDoorRefTa
import Derived.Test.YtionnhjldcpmjaaGreatDoorRefTb
import Derived.Test.YtionnhjldcpmjaaGreatDoorRefTc
import Derived.Test.YtionnhjldcpmjaaGreatDoorRefTd
import Derived.Test.YtionnhjldcpmjaaGreatDoorRefTe
import Derived.Test.YtionnhjldcpmjaaGreatDoorRefTf
import Derived.Test.YtionnhjldcpmjaaGreatDoorRefTg
set_option linter.unusedVariables false
set_option linter.unusedSimpArgs false
namespace Go.Proofs.YtionnhjldcpmjaaGreatDoor
open Go.RowKit

theorem refText_any (i : Ins) (h : Good i) (w : World) : Calls Tryz.prog 15 #[.agg i.cells] w fun e w' => e = .returned (str (textL i)) ∧ Bl w w' := by
  have ho := h.op
  have hc : (5 ≤ i.op ∧ i.op ≤ 10) ∨ (4 ≤ i.op ∧ i.op ≤ 4) ∨ (11 ≤ i.op ∧ i.op ≤ 17) ∨ (18 ≤ i.op ∧ i.op ≤ 21) ∨ (22 ≤ i.op ∧ i.op ≤ 30) ∨ (41 ≤ i.op ∧ i.op ≤ 44) ∨ (31 ≤ i.op ∧ i.op ≤ 40) ∨ (45 ≤ i.op ∧ i.op ≤ 62) ∨ (85 ≤ i.op ∧ i.op ≤ 88) ∨ (3 ≤ i.op ∧ i.op ≤ 3) ∨ (63 ≤ i.op ∧ i.op ≤ 63) ∨ (74 ≤ i.op ∧ i.op ≤ 74) ∨ (64 ≤ i.op ∧ i.op ≤ 73) ∨ (75 ≤ i.op ∧ i.op ≤ 84) ∨ (1 ≤ i.op ∧ i.op ≤ 1) ∨ (2 ≤ i.op ∧ i.op ≤ 2) := by omega
  rcases hc with hc | hc | hc | hc | hc | hc | hc | hc | hc | hc | hc | hc | hc | hc | hc | hc
  · exact refText_br i h w hc
  · exact refText_im1 i h w hc
  · exact refText_im2 i h w hc
  · exact refText_st i h w hc
  · exact refText_ii1 i h w hc
  · exact refText_ii2 i h w hc
  · exact refText_rg1 i h w hc
  · exact refText_rg2 i h w hc
  · exact refText_ba i h w hc
  · exact refText_jp i h w hc
  · exact refText_lr1 i h w hc
  · exact refText_lr2 i h w hc
  · exact refText_am1 i h w hc
  · exact refText_am2 i h w hc
  · exact refText_up1 i h w hc
  · exact refText_up2 i h w hc
theorem textL_len (i : Ins) (hi : In64 i) : (textL i).length ≤ 90 := by
  have a := nm_len i.op
  have b := ordOf_len i.od.toNat
  have c := tl_len i hi (prt (frm i.op)) [32] (by decide)
  have d := prt_len (frm i.op)
  unfold textL
  rw [List.length_append, List.length_append]
  omega

end Go.Proofs.YtionnhjldcpmjaaGreatDoor
