/-
  Contracts of the two functions that look up what has an immediate.
-/
import Derived.Test.YtlhpodholnfppaaGreatDoorT19
import Derived.Lib.Hide
set_option linter.unusedVariables false
set_option linter.unusedSimpArgs false
set_option maxHeartbeats 16000000
open Go.Lib (hid)
namespace Go.Proofs.YtlhpodholnfppaaGreatDoor.Td
open Go.RowKit
set_option maxRecDepth 100000
theorem index_run (a0 a1 a2 a3 a4 a5 a6 a7:Int) (f:Nat) (hf:f < 8) (w:World):(Instr.index 209 (.agg (A8 a0 a1 a2 a3 a4 a5 a6 a7)) (.int .u32 f)).run Tryz.prog w = .ok (.int .i64 ([a0,a1,a2,a3,a4,a5,a6,a7].getD f 0)) w:=by
  have h:f = 0 ∨ f = 1 ∨ f = 2 ∨ f = 3 ∨ f = 4 ∨ f = 5 ∨ f = 6 ∨ f = 7:=by omega
  rcases h with rfl | rfl | rfl | rfl | rfl | rfl | rfl | rfl <;> rfl
theorem andNot_one (g:Nat) (hg:g < 128):bits .andNot .u32 (g:Int) 1 = ((g / 2 * 2:Nat):Int):=by
  have h:=u32_andNot_nat g 1 (by omega) (by decide)
  have e:∀ g:Nat,g < 128 → g &&& (4294967295 - 1) = g / 2 * 2:=by decide
  rw [e g hg] at h
  exact h

theorem lookImmediate_a (f g:Nat) (w:World) (hT:Tabs w) (hf:f < 8) (hc:w.cell? ⟨12,f,none⟩ = some (.int .i64 0)) (hg:g < 128) (h:(g / 2 * 2) = 0) :
    Calls Tryz.prog 201 #[.int .u32 f,.int .u32 g] w fun e w'=>∃ Q,e = .returned (.tuple #[.int .i64 ([0,28,0,0,0,29,0,0].getD f 0),.func (.func 240) #[] #[.pointer (some ⟨Q,0,none⟩)]])∧Has w' Q 3 #[.int .i64 6]∧Kp none w w'∧w.heap.size ≤ Q:=by
  have hf0:(0:Int) ≤ (f:Int):=by omega
  have hf1:(f:Int) < 8:=by omega
  have hix:=fun w=>index_run 0 28 0 0 0 29 0 0 f hf w
  generalize ([0,28,0,0,0,29,0,0]:List Int).getD f 0 = o at *
  have hb:bits .andNot .u32 (g:Int) 1 = 0:=by rw [andNot_one g hg,h];rfl
  go_enter Tryz.func201,Tryz.ntmps201
  go_wp2_with fail
  refine wp_region_hd 9 (fun w'=>w'.cell? ⟨13,0,none⟩ = some (.int .i64 0)∧w'.cell? ⟨13,1,none⟩ = some (.int .i64 28)∧w'.cell? ⟨13,2,none⟩ = some (.int .i64 0)∧w'.cell? ⟨13,3,none⟩ = some (.int .i64 0)∧w'.cell? ⟨13,4,none⟩ = some (.int .i64 0)∧w'.cell? ⟨13,5,none⟩ = some (.int .i64 29)∧w'.cell? ⟨13,6,none⟩ = some (.int .i64 0)∧w'.cell? ⟨13,7,none⟩ = some (.int .i64 0)∧w'.cell? ⟨14,0,none⟩ = some (.int .i64 0)∧w'.cell? ⟨14,1,none⟩ = some (.int .i64 0)∧w'.cell? ⟨14,2,none⟩ = some (.int .i64 0)∧w'.cell? ⟨14,3,none⟩ = some (.int .i64 0)∧w'.cell? ⟨14,4,none⟩ = some (.int .i64 0)∧w'.cell? ⟨14,5,none⟩ = some (.int .i64 30)∧w'.cell? ⟨14,6,none⟩ = some (.int .i64 0)∧w'.cell? ⟨14,7,none⟩ = some (.int .i64 0)) (by kernel_rfl) (by decide) ⟨hT.drew.t12 0 (by decide),hT.drew.t12 1 (by decide),hT.drew.t12 2 (by decide),hT.drew.t12 3 (by decide),hT.drew.t12 4 (by decide),hT.drew.t12 5 (by decide),hT.drew.t12 6 (by decide),hT.drew.t12 7 (by decide),hT.drew.t13 0 (by decide),hT.drew.t13 1 (by decide),hT.drew.t13 2 (by decide),hT.drew.t13 3 (by decide),hT.drew.t13 4 (by decide),hT.drew.t13 5 (by decide),hT.drew.t13 6 (by decide),hT.drew.t13 7 (by decide)⟩ (fun hHeld=>?_)
  refine wpHd_take (i:=0) (v:=?_) rfl (by kernel_rfl) (fun _ _ _ h=>h) (Or.inl ⟨by rfl,?hy⟩) hHeld ?_
  case hy=>(intro w hSw;(try dsimp only at hSw);go_split_ands;go_simp;try (with_reducible rfl))
  (try simp only [Act.put,List.setIfInBounds_toArray,List.set_cons_zero,List.set_cons_succ])
  refine wpHd_take (i:=1) (v:=?_) rfl (by kernel_rfl) (fun _ _ _ h=>h) (Or.inl ⟨by rfl,?hy⟩) hHeld ?_
  case hy=>(intro w hSw;(try dsimp only at hSw);go_split_ands;go_simp;try (with_reducible rfl))
  (try simp only [Act.put,List.setIfInBounds_toArray,List.set_cons_zero,List.set_cons_succ])
  refine wpHd_take (i:=2) (v:=?_) rfl (by kernel_rfl) (fun _ _ _ h=>h) (Or.inl ⟨by rfl,?hy⟩) hHeld ?_
  case hy=>(intro w hSw;(try dsimp only at hSw);go_split_ands;go_simp;try (with_reducible rfl))
  (try simp only [Act.put,List.setIfInBounds_toArray,List.set_cons_zero,List.set_cons_succ])
  refine wpHd_take (i:=3) (v:=?_) rfl (by kernel_rfl) (fun _ _ _ h=>h) (Or.inl ⟨by rfl,?hy⟩) hHeld ?_
  case hy=>(intro w hSw;(try dsimp only at hSw);go_split_ands;go_simp;try (with_reducible rfl))
  (try simp only [Act.put,List.setIfInBounds_toArray,List.set_cons_zero,List.set_cons_succ])
  refine wpHd_take (i:=4) (v:=?_) rfl (by kernel_rfl) (fun _ _ _ h=>h) (Or.inl ⟨by rfl,?hy⟩) hHeld ?_
  case hy=>(intro w hSw;(try dsimp only at hSw);go_split_ands;go_simp;try (with_reducible rfl))
  (try simp only [Act.put,List.setIfInBounds_toArray,List.set_cons_zero,List.set_cons_succ])
  refine wpHd_take (i:=6) (v:=?_) rfl (by kernel_rfl) (fun _ _ _ h=>h) (Or.inl ⟨by rfl,?hy⟩) hHeld ?_
  case hy=>(intro w hSw;(try dsimp only at hSw);go_split_ands;go_simp;try (with_reducible rfl))
  (try simp only [Act.put,List.setIfInBounds_toArray,List.set_cons_zero,List.set_cons_succ])
  clear hHeld
  refine wpHd_one (i:=5) rfl (by kernel_rfl) (fun K hK=>?_)
  go_simp
  refine (byF7_none 0 0 28 0 0 0 29 0 0 0 0 0 0 0 30 0 0 0 0 0 0 0 0 0 0 _ rfl).mono ?_
  rintro e w1 ⟨rfl,k1⟩
  have hT1:=hT.drew.kp k1
  refine hK.out _ _ ⟨hT1.t12 0 (by decide),hT1.t12 1 (by decide),hT1.t12 2 (by decide),hT1.t12 3 (by decide),hT1.t12 4 (by decide),hT1.t12 5 (by decide),hT1.t12 6 (by decide),hT1.t12 7 (by decide),hT1.t13 0 (by decide),hT1.t13 1 (by decide),hT1.t13 2 (by decide),hT1.t13 3 (by decide),hT1.t13 4 (by decide),hT1.t13 5 (by decide),hT1.t13 6 (by decide),hT1.t13 7 (by decide)⟩ (fun hHeld=>?_)
  clear hK K
  (try simp only [Act.put,List.setIfInBounds_toArray,List.set_cons_zero,List.set_cons_succ])
  refine wpHd_take (i:=7) (v:=?_) rfl (by kernel_rfl) (fun _ _ _ h=>h) (Or.inl ⟨by rfl,?hy⟩) hHeld ?_
  case hy=>(intro w hSw;(try dsimp only at hSw);go_split_ands;go_simp;try (with_reducible rfl))
  (try simp only [Act.put,List.setIfInBounds_toArray,List.set_cons_zero,List.set_cons_succ])
  clear hHeld
  refine wpHd_one (i:=8) rfl (by kernel_rfl) (fun K hK=>?_)
  go_simp
  refine (shift_any 6 _).mono ?_
  rintro e w2 ⟨rfl,h2,k2⟩
  have hT2:=hT1.kp k2
  refine hK.out _ _ ⟨hT2.t12 0 (by decide),hT2.t12 1 (by decide),hT2.t12 2 (by decide),hT2.t12 3 (by decide),hT2.t12 4 (by decide),hT2.t12 5 (by decide),hT2.t12 6 (by decide),hT2.t12 7 (by decide),hT2.t13 0 (by decide),hT2.t13 1 (by decide),hT2.t13 2 (by decide),hT2.t13 3 (by decide),hT2.t13 4 (by decide),hT2.t13 5 (by decide),hT2.t13 6 (by decide),hT2.t13 7 (by decide)⟩ (fun hHeld=>?_)
  clear hK K hHeld
  (try simp only [Act.put,List.setIfInBounds_toArray,List.set_cons_zero,List.set_cons_succ])
  refine ⟨by kernel_rfl,?_⟩
  simp only [List.drop_succ_cons,List.drop_zero]
  go_wp2
  go_ret2
  exact ⟨_,rfl,h2,((Kp.refl _ _).drew.trans k1).trans k2,k1.size⟩

theorem lookImmediate_b (f g:Nat) (w:World) (hT:Tabs w) (hf:f < 8) (hc:w.cell? ⟨12,f,none⟩ = some (.int .i64 0)) (hg:g < 128) (h:(g / 2 * 2) = 32) :
    Calls Tryz.prog 201 #[.int .u32 f,.int .u32 g] w fun e w'=>∃ Q,e = .returned (.tuple #[.int .i64 ([0,0,0,0,0,30,0,0].getD f 0),.func (.func 240) #[] #[.pointer (some ⟨Q,0,none⟩)]])∧Has w' Q 3 #[.int .i64 6]∧Kp none w w'∧w.heap.size ≤ Q:=by
  have hf0:(0:Int) ≤ (f:Int):=by omega
  have hf1:(f:Int) < 8:=by omega
  have hix:=fun w=>index_run 0 0 0 0 0 30 0 0 f hf w
  generalize ([0,0,0,0,0,30,0,0]:List Int).getD f 0 = o at *
  have hb:bits .andNot .u32 (g:Int) 1 = 32:=by rw [andNot_one g hg,h];rfl
  go_enter Tryz.func201,Tryz.ntmps201
  go_wp2_with fail
  refine wp_region_hd 9 (fun w'=>w'.cell? ⟨13,0,none⟩ = some (.int .i64 0)∧w'.cell? ⟨13,1,none⟩ = some (.int .i64 28)∧w'.cell? ⟨13,2,none⟩ = some (.int .i64 0)∧w'.cell? ⟨13,3,none⟩ = some (.int .i64 0)∧w'.cell? ⟨13,4,none⟩ = some (.int .i64 0)∧w'.cell? ⟨13,5,none⟩ = some (.int .i64 29)∧w'.cell? ⟨13,6,none⟩ = some (.int .i64 0)∧w'.cell? ⟨13,7,none⟩ = some (.int .i64 0)∧w'.cell? ⟨14,0,none⟩ = some (.int .i64 0)∧w'.cell? ⟨14,1,none⟩ = some (.int .i64 0)∧w'.cell? ⟨14,2,none⟩ = some (.int .i64 0)∧w'.cell? ⟨14,3,none⟩ = some (.int .i64 0)∧w'.cell? ⟨14,4,none⟩ = some (.int .i64 0)∧w'.cell? ⟨14,5,none⟩ = some (.int .i64 30)∧w'.cell? ⟨14,6,none⟩ = some (.int .i64 0)∧w'.cell? ⟨14,7,none⟩ = some (.int .i64 0)) (by kernel_rfl) (by decide) ⟨hT.drew.t12 0 (by decide),hT.drew.t12 1 (by decide),hT.drew.t12 2 (by decide),hT.drew.t12 3 (by decide),hT.drew.t12 4 (by decide),hT.drew.t12 5 (by decide),hT.drew.t12 6 (by decide),hT.drew.t12 7 (by decide),hT.drew.t13 0 (by decide),hT.drew.t13 1 (by decide),hT.drew.t13 2 (by decide),hT.drew.t13 3 (by decide),hT.drew.t13 4 (by decide),hT.drew.t13 5 (by decide),hT.drew.t13 6 (by decide),hT.drew.t13 7 (by decide)⟩ (fun hHeld=>?_)
  refine wpHd_take (i:=0) (v:=?_) rfl (by kernel_rfl) (fun _ _ _ h=>h) (Or.inl ⟨by rfl,?hy⟩) hHeld ?_
  case hy=>(intro w hSw;(try dsimp only at hSw);go_split_ands;go_simp;try (with_reducible rfl))
  (try simp only [Act.put,List.setIfInBounds_toArray,List.set_cons_zero,List.set_cons_succ])
  refine wpHd_take (i:=1) (v:=?_) rfl (by kernel_rfl) (fun _ _ _ h=>h) (Or.inl ⟨by rfl,?hy⟩) hHeld ?_
  case hy=>(intro w hSw;(try dsimp only at hSw);go_split_ands;go_simp;try (with_reducible rfl))
  (try simp only [Act.put,List.setIfInBounds_toArray,List.set_cons_zero,List.set_cons_succ])
  refine wpHd_take (i:=2) (v:=?_) rfl (by kernel_rfl) (fun _ _ _ h=>h) (Or.inl ⟨by rfl,?hy⟩) hHeld ?_
  case hy=>(intro w hSw;(try dsimp only at hSw);go_split_ands;go_simp;try (with_reducible rfl))
  (try simp only [Act.put,List.setIfInBounds_toArray,List.set_cons_zero,List.set_cons_succ])
  refine wpHd_take (i:=3) (v:=?_) rfl (by kernel_rfl) (fun _ _ _ h=>h) (Or.inl ⟨by rfl,?hy⟩) hHeld ?_
  case hy=>(intro w hSw;(try dsimp only at hSw);go_split_ands;go_simp;try (with_reducible rfl))
  (try simp only [Act.put,List.setIfInBounds_toArray,List.set_cons_zero,List.set_cons_succ])
  refine wpHd_take (i:=4) (v:=?_) rfl (by kernel_rfl) (fun _ _ _ h=>h) (Or.inl ⟨by rfl,?hy⟩) hHeld ?_
  case hy=>(intro w hSw;(try dsimp only at hSw);go_split_ands;go_simp;try (with_reducible rfl))
  (try simp only [Act.put,List.setIfInBounds_toArray,List.set_cons_zero,List.set_cons_succ])
  refine wpHd_take (i:=6) (v:=?_) rfl (by kernel_rfl) (fun _ _ _ h=>h) (Or.inl ⟨by rfl,?hy⟩) hHeld ?_
  case hy=>(intro w hSw;(try dsimp only at hSw);go_split_ands;go_simp;try (with_reducible rfl))
  (try simp only [Act.put,List.setIfInBounds_toArray,List.set_cons_zero,List.set_cons_succ])
  clear hHeld
  refine wpHd_one (i:=5) rfl (by kernel_rfl) (fun K hK=>?_)
  go_simp
  refine (byF7_other 32 0 28 0 0 0 29 0 0 0 0 0 0 0 30 0 0 0 0 0 0 0 0 0 0 _ rfl).mono ?_
  rintro e w1 ⟨rfl,k1⟩
  have hT1:=hT.drew.kp k1
  refine hK.out _ _ ⟨hT1.t12 0 (by decide),hT1.t12 1 (by decide),hT1.t12 2 (by decide),hT1.t12 3 (by decide),hT1.t12 4 (by decide),hT1.t12 5 (by decide),hT1.t12 6 (by decide),hT1.t12 7 (by decide),hT1.t13 0 (by decide),hT1.t13 1 (by decide),hT1.t13 2 (by decide),hT1.t13 3 (by decide),hT1.t13 4 (by decide),hT1.t13 5 (by decide),hT1.t13 6 (by decide),hT1.t13 7 (by decide)⟩ (fun hHeld=>?_)
  clear hK K
  (try simp only [Act.put,List.setIfInBounds_toArray,List.set_cons_zero,List.set_cons_succ])
  refine wpHd_take (i:=7) (v:=?_) rfl (by kernel_rfl) (fun _ _ _ h=>h) (Or.inl ⟨by rfl,?hy⟩) hHeld ?_
  case hy=>(intro w hSw;(try dsimp only at hSw);go_split_ands;go_simp;try (with_reducible rfl))
  (try simp only [Act.put,List.setIfInBounds_toArray,List.set_cons_zero,List.set_cons_succ])
  clear hHeld
  refine wpHd_one (i:=8) rfl (by kernel_rfl) (fun K hK=>?_)
  go_simp
  refine (shift_any 6 _).mono ?_
  rintro e w2 ⟨rfl,h2,k2⟩
  have hT2:=hT1.kp k2
  refine hK.out _ _ ⟨hT2.t12 0 (by decide),hT2.t12 1 (by decide),hT2.t12 2 (by decide),hT2.t12 3 (by decide),hT2.t12 4 (by decide),hT2.t12 5 (by decide),hT2.t12 6 (by decide),hT2.t12 7 (by decide),hT2.t13 0 (by decide),hT2.t13 1 (by decide),hT2.t13 2 (by decide),hT2.t13 3 (by decide),hT2.t13 4 (by decide),hT2.t13 5 (by decide),hT2.t13 6 (by decide),hT2.t13 7 (by decide)⟩ (fun hHeld=>?_)
  clear hK K hHeld
  (try simp only [Act.put,List.setIfInBounds_toArray,List.set_cons_zero,List.set_cons_succ])
  refine ⟨by kernel_rfl,?_⟩
  simp only [List.drop_succ_cons,List.drop_zero]
  go_wp2
  go_ret2
  exact ⟨_,rfl,h2,((Kp.refl _ _).drew.trans k1).trans k2,k1.size⟩

theorem lookImmediate_c (f g:Nat) (w:World) (hT:Tabs w) (hf:f < 8) (hc:w.cell? ⟨12,f,none⟩ = some (.int .i64 0)) (hg:g < 128) (G:Nat) (h:(g / 2 * 2) = G) (h0:((G:Int) == 0) = false) (h1:((G:Int) == 32) = false) (h2:((G:Int) == 1) = false) :
    Calls Tryz.prog 201 #[.int .u32 f,.int .u32 g] w fun e w'=>∃ Q,e = .returned (.tuple #[.int .i64 ([0,0,0,0,0,0,0,0].getD f 0),.func (.func 240) #[] #[.pointer (some ⟨Q,0,none⟩)]])∧Has w' Q 3 #[.int .i64 6]∧Kp none w w'∧w.heap.size ≤ Q:=by
  have hf0:(0:Int) ≤ (f:Int):=by omega
  have hf1:(f:Int) < 8:=by omega
  have hix:=fun w=>index_run 0 0 0 0 0 0 0 0 f hf w
  generalize ([0,0,0,0,0,0,0,0]:List Int).getD f 0 = o at *
  have hb:bits .andNot .u32 (g:Int) 1 = (G:Int):=by rw [andNot_one g hg,h]
  go_enter Tryz.func201,Tryz.ntmps201
  go_wp2_with fail
  refine wp_region_hd 9 (fun w'=>w'.cell? ⟨13,0,none⟩ = some (.int .i64 0)∧w'.cell? ⟨13,1,none⟩ = some (.int .i64 28)∧w'.cell? ⟨13,2,none⟩ = some (.int .i64 0)∧w'.cell? ⟨13,3,none⟩ = some (.int .i64 0)∧w'.cell? ⟨13,4,none⟩ = some (.int .i64 0)∧w'.cell? ⟨13,5,none⟩ = some (.int .i64 29)∧w'.cell? ⟨13,6,none⟩ = some (.int .i64 0)∧w'.cell? ⟨13,7,none⟩ = some (.int .i64 0)∧w'.cell? ⟨14,0,none⟩ = some (.int .i64 0)∧w'.cell? ⟨14,1,none⟩ = some (.int .i64 0)∧w'.cell? ⟨14,2,none⟩ = some (.int .i64 0)∧w'.cell? ⟨14,3,none⟩ = some (.int .i64 0)∧w'.cell? ⟨14,4,none⟩ = some (.int .i64 0)∧w'.cell? ⟨14,5,none⟩ = some (.int .i64 30)∧w'.cell? ⟨14,6,none⟩ = some (.int .i64 0)∧w'.cell? ⟨14,7,none⟩ = some (.int .i64 0)) (by kernel_rfl) (by decide) ⟨hT.drew.t12 0 (by decide),hT.drew.t12 1 (by decide),hT.drew.t12 2 (by decide),hT.drew.t12 3 (by decide),hT.drew.t12 4 (by decide),hT.drew.t12 5 (by decide),hT.drew.t12 6 (by decide),hT.drew.t12 7 (by decide),hT.drew.t13 0 (by decide),hT.drew.t13 1 (by decide),hT.drew.t13 2 (by decide),hT.drew.t13 3 (by decide),hT.drew.t13 4 (by decide),hT.drew.t13 5 (by decide),hT.drew.t13 6 (by decide),hT.drew.t13 7 (by decide)⟩ (fun hHeld=>?_)
  refine wpHd_take (i:=0) (v:=?_) rfl (by kernel_rfl) (fun _ _ _ h=>h) (Or.inl ⟨by rfl,?hy⟩) hHeld ?_
  case hy=>(intro w hSw;(try dsimp only at hSw);go_split_ands;go_simp;try (with_reducible rfl))
  (try simp only [Act.put,List.setIfInBounds_toArray,List.set_cons_zero,List.set_cons_succ])
  refine wpHd_take (i:=1) (v:=?_) rfl (by kernel_rfl) (fun _ _ _ h=>h) (Or.inl ⟨by rfl,?hy⟩) hHeld ?_
  case hy=>(intro w hSw;(try dsimp only at hSw);go_split_ands;go_simp;try (with_reducible rfl))
  (try simp only [Act.put,List.setIfInBounds_toArray,List.set_cons_zero,List.set_cons_succ])
  refine wpHd_take (i:=2) (v:=?_) rfl (by kernel_rfl) (fun _ _ _ h=>h) (Or.inl ⟨by rfl,?hy⟩) hHeld ?_
  case hy=>(intro w hSw;(try dsimp only at hSw);go_split_ands;go_simp;try (with_reducible rfl))
  (try simp only [Act.put,List.setIfInBounds_toArray,List.set_cons_zero,List.set_cons_succ])
  refine wpHd_take (i:=3) (v:=?_) rfl (by kernel_rfl) (fun _ _ _ h=>h) (Or.inl ⟨by rfl,?hy⟩) hHeld ?_
  case hy=>(intro w hSw;(try dsimp only at hSw);go_split_ands;go_simp;try (with_reducible rfl))
  (try simp only [Act.put,List.setIfInBounds_toArray,List.set_cons_zero,List.set_cons_succ])
  refine wpHd_take (i:=4) (v:=?_) rfl (by kernel_rfl) (fun _ _ _ h=>h) (Or.inl ⟨by rfl,?hy⟩) hHeld ?_
  case hy=>(intro w hSw;(try dsimp only at hSw);go_split_ands;go_simp;try (with_reducible rfl))
  (try simp only [Act.put,List.setIfInBounds_toArray,List.set_cons_zero,List.set_cons_succ])
  refine wpHd_take (i:=6) (v:=?_) rfl (by kernel_rfl) (fun _ _ _ h=>h) (Or.inl ⟨by rfl,?hy⟩) hHeld ?_
  case hy=>(intro w hSw;(try dsimp only at hSw);go_split_ands;go_simp;try (with_reducible rfl))
  (try simp only [Act.put,List.setIfInBounds_toArray,List.set_cons_zero,List.set_cons_succ])
  clear hHeld
  refine wpHd_one (i:=5) rfl (by kernel_rfl) (fun K hK=>?_)
  go_simp
  refine (byF7_else _ 0 28 0 0 0 29 0 0 0 0 0 0 0 30 0 0 0 0 0 0 0 0 0 0 _ h0 h1 h2).mono ?_
  rintro e w1 ⟨rfl,k1⟩
  have hT1:=hT.drew.kp k1
  refine hK.out _ _ ⟨hT1.t12 0 (by decide),hT1.t12 1 (by decide),hT1.t12 2 (by decide),hT1.t12 3 (by decide),hT1.t12 4 (by decide),hT1.t12 5 (by decide),hT1.t12 6 (by decide),hT1.t12 7 (by decide),hT1.t13 0 (by decide),hT1.t13 1 (by decide),hT1.t13 2 (by decide),hT1.t13 3 (by decide),hT1.t13 4 (by decide),hT1.t13 5 (by decide),hT1.t13 6 (by decide),hT1.t13 7 (by decide)⟩ (fun hHeld=>?_)
  clear hK K
  (try simp only [Act.put,List.setIfInBounds_toArray,List.set_cons_zero,List.set_cons_succ])
  refine wpHd_take (i:=7) (v:=?_) rfl (by kernel_rfl) (fun _ _ _ h=>h) (Or.inl ⟨by rfl,?hy⟩) hHeld ?_
  case hy=>(intro w hSw;(try dsimp only at hSw);go_split_ands;go_simp;try (with_reducible rfl))
  (try simp only [Act.put,List.setIfInBounds_toArray,List.set_cons_zero,List.set_cons_succ])
  clear hHeld
  refine wpHd_one (i:=8) rfl (by kernel_rfl) (fun K hK=>?_)
  go_simp
  refine (shift_any 6 _).mono ?_
  rintro e w2 ⟨rfl,h2,k2⟩
  have hT2:=hT1.kp k2
  refine hK.out _ _ ⟨hT2.t12 0 (by decide),hT2.t12 1 (by decide),hT2.t12 2 (by decide),hT2.t12 3 (by decide),hT2.t12 4 (by decide),hT2.t12 5 (by decide),hT2.t12 6 (by decide),hT2.t12 7 (by decide),hT2.t13 0 (by decide),hT2.t13 1 (by decide),hT2.t13 2 (by decide),hT2.t13 3 (by decide),hT2.t13 4 (by decide),hT2.t13 5 (by decide),hT2.t13 6 (by decide),hT2.t13 7 (by decide)⟩ (fun hHeld=>?_)
  clear hK K hHeld
  (try simp only [Act.put,List.setIfInBounds_toArray,List.set_cons_zero,List.set_cons_succ])
  refine ⟨by kernel_rfl,?_⟩
  simp only [List.drop_succ_cons,List.drop_zero]
  go_wp2
  go_ret2
  exact ⟨_,rfl,h2,((Kp.refl _ _).drew.trans k1).trans k2,k1.size⟩

theorem lookImmediateW_a (f g:Nat) (w:World) (hT:Tabs w) (hf:f < 8) (hc:w.cell? ⟨15,f,none⟩ = some (.int .i64 0)) (hg:g < 128) (h:g = 0) :
    Calls Tryz.prog 204 #[.int .u32 f,.int .u32 g] w fun e w'=>∃ Q,e = .returned (.tuple #[.int .i64 ([0,42,0,0,0,43,0,0].getD f 0),.func (.func 240) #[] #[.pointer (some ⟨Q,0,none⟩)]])∧Has w' Q 3 #[.int .i64 5]∧Kp none w w'∧w.heap.size ≤ Q:=by
  have hf0:(0:Int) ≤ (f:Int):=by omega
  have hf1:(f:Int) < 8:=by omega
  have hix:=fun w=>index_run 0 42 0 0 0 43 0 0 f hf w
  generalize ([0,42,0,0,0,43,0,0]:List Int).getD f 0 = o at *
  subst h
  go_enter Tryz.func204,Tryz.ntmps204
  go_wp2_with fail
  refine wp_region_hd 8 (fun w'=>w'.cell? ⟨16,0,none⟩ = some (.int .i64 0)∧w'.cell? ⟨16,1,none⟩ = some (.int .i64 42)∧w'.cell? ⟨16,2,none⟩ = some (.int .i64 0)∧w'.cell? ⟨16,3,none⟩ = some (.int .i64 0)∧w'.cell? ⟨16,4,none⟩ = some (.int .i64 0)∧w'.cell? ⟨16,5,none⟩ = some (.int .i64 43)∧w'.cell? ⟨16,6,none⟩ = some (.int .i64 0)∧w'.cell? ⟨16,7,none⟩ = some (.int .i64 0)∧w'.cell? ⟨17,0,none⟩ = some (.int .i64 0)∧w'.cell? ⟨17,1,none⟩ = some (.int .i64 0)∧w'.cell? ⟨17,2,none⟩ = some (.int .i64 0)∧w'.cell? ⟨17,3,none⟩ = some (.int .i64 0)∧w'.cell? ⟨17,4,none⟩ = some (.int .i64 0)∧w'.cell? ⟨17,5,none⟩ = some (.int .i64 44)∧w'.cell? ⟨17,6,none⟩ = some (.int .i64 0)∧w'.cell? ⟨17,7,none⟩ = some (.int .i64 0)) (by kernel_rfl) (by decide) ⟨hT.drew.t15 0 (by decide),hT.drew.t15 1 (by decide),hT.drew.t15 2 (by decide),hT.drew.t15 3 (by decide),hT.drew.t15 4 (by decide),hT.drew.t15 5 (by decide),hT.drew.t15 6 (by decide),hT.drew.t15 7 (by decide),hT.drew.t16 0 (by decide),hT.drew.t16 1 (by decide),hT.drew.t16 2 (by decide),hT.drew.t16 3 (by decide),hT.drew.t16 4 (by decide),hT.drew.t16 5 (by decide),hT.drew.t16 6 (by decide),hT.drew.t16 7 (by decide)⟩ (fun hHeld=>?_)
  refine wpHd_take (i:=0) (v:=?_) rfl (by kernel_rfl) (fun _ _ _ h=>h) (Or.inl ⟨by rfl,?hy⟩) hHeld ?_
  case hy=>(intro w hSw;(try dsimp only at hSw);go_split_ands;go_simp;try (with_reducible rfl))
  (try simp only [Act.put,List.setIfInBounds_toArray,List.set_cons_zero,List.set_cons_succ])
  refine wpHd_take (i:=1) (v:=?_) rfl (by kernel_rfl) (fun _ _ _ h=>h) (Or.inl ⟨by rfl,?hy⟩) hHeld ?_
  case hy=>(intro w hSw;(try dsimp only at hSw);go_split_ands;go_simp;try (with_reducible rfl))
  (try simp only [Act.put,List.setIfInBounds_toArray,List.set_cons_zero,List.set_cons_succ])
  refine wpHd_take (i:=2) (v:=?_) rfl (by kernel_rfl) (fun _ _ _ h=>h) (Or.inl ⟨by rfl,?hy⟩) hHeld ?_
  case hy=>(intro w hSw;(try dsimp only at hSw);go_split_ands;go_simp;try (with_reducible rfl))
  (try simp only [Act.put,List.setIfInBounds_toArray,List.set_cons_zero,List.set_cons_succ])
  refine wpHd_take (i:=3) (v:=?_) rfl (by kernel_rfl) (fun _ _ _ h=>h) (Or.inl ⟨by rfl,?hy⟩) hHeld ?_
  case hy=>(intro w hSw;(try dsimp only at hSw);go_split_ands;go_simp;try (with_reducible rfl))
  (try simp only [Act.put,List.setIfInBounds_toArray,List.set_cons_zero,List.set_cons_succ])
  refine wpHd_take (i:=5) (v:=?_) rfl (by kernel_rfl) (fun _ _ _ h=>h) (Or.inl ⟨by rfl,?hy⟩) hHeld ?_
  case hy=>(intro w hSw;(try dsimp only at hSw);go_split_ands;go_simp;try (with_reducible rfl))
  (try simp only [Act.put,List.setIfInBounds_toArray,List.set_cons_zero,List.set_cons_succ])
  clear hHeld
  refine wpHd_one (i:=4) rfl (by kernel_rfl) (fun K hK=>?_)
  go_simp
  refine (byF7_none 0 0 42 0 0 0 43 0 0 0 0 0 0 0 44 0 0 0 0 0 0 0 0 0 0 _ rfl).mono ?_
  rintro e w1 ⟨rfl,k1⟩
  have hT1:=hT.drew.kp k1
  refine hK.out _ _ ⟨hT1.t15 0 (by decide),hT1.t15 1 (by decide),hT1.t15 2 (by decide),hT1.t15 3 (by decide),hT1.t15 4 (by decide),hT1.t15 5 (by decide),hT1.t15 6 (by decide),hT1.t15 7 (by decide),hT1.t16 0 (by decide),hT1.t16 1 (by decide),hT1.t16 2 (by decide),hT1.t16 3 (by decide),hT1.t16 4 (by decide),hT1.t16 5 (by decide),hT1.t16 6 (by decide),hT1.t16 7 (by decide)⟩ (fun hHeld=>?_)
  clear hK K
  (try simp only [Act.put,List.setIfInBounds_toArray,List.set_cons_zero,List.set_cons_succ])
  refine wpHd_take (i:=6) (v:=?_) rfl (by kernel_rfl) (fun _ _ _ h=>h) (Or.inl ⟨by rfl,?hy⟩) hHeld ?_
  case hy=>(intro w hSw;(try dsimp only at hSw);go_split_ands;go_simp;try (with_reducible rfl))
  (try simp only [Act.put,List.setIfInBounds_toArray,List.set_cons_zero,List.set_cons_succ])
  clear hHeld
  refine wpHd_one (i:=7) rfl (by kernel_rfl) (fun K hK=>?_)
  go_simp
  refine (shift_any 5 _).mono ?_
  rintro e w2 ⟨rfl,h2,k2⟩
  have hT2:=hT1.kp k2
  refine hK.out _ _ ⟨hT2.t15 0 (by decide),hT2.t15 1 (by decide),hT2.t15 2 (by decide),hT2.t15 3 (by decide),hT2.t15 4 (by decide),hT2.t15 5 (by decide),hT2.t15 6 (by decide),hT2.t15 7 (by decide),hT2.t16 0 (by decide),hT2.t16 1 (by decide),hT2.t16 2 (by decide),hT2.t16 3 (by decide),hT2.t16 4 (by decide),hT2.t16 5 (by decide),hT2.t16 6 (by decide),hT2.t16 7 (by decide)⟩ (fun hHeld=>?_)
  clear hK K hHeld
  (try simp only [Act.put,List.setIfInBounds_toArray,List.set_cons_zero,List.set_cons_succ])
  refine ⟨by kernel_rfl,?_⟩
  simp only [List.drop_succ_cons,List.drop_zero]
  go_wp2
  go_ret2
  exact ⟨_,rfl,h2,((Kp.refl _ _).drew.trans k1).trans k2,k1.size⟩

theorem lookImmediateW_b (f g:Nat) (w:World) (hT:Tabs w) (hf:f < 8) (hc:w.cell? ⟨15,f,none⟩ = some (.int .i64 0)) (hg:g < 128) (h:g = 32) :
    Calls Tryz.prog 204 #[.int .u32 f,.int .u32 g] w fun e w'=>∃ Q,e = .returned (.tuple #[.int .i64 ([0,0,0,0,0,44,0,0].getD f 0),.func (.func 240) #[] #[.pointer (some ⟨Q,0,none⟩)]])∧Has w' Q 3 #[.int .i64 5]∧Kp none w w'∧w.heap.size ≤ Q:=by
  have hf0:(0:Int) ≤ (f:Int):=by omega
  have hf1:(f:Int) < 8:=by omega
  have hix:=fun w=>index_run 0 0 0 0 0 44 0 0 f hf w
  generalize ([0,0,0,0,0,44,0,0]:List Int).getD f 0 = o at *
  subst h
  go_enter Tryz.func204,Tryz.ntmps204
  go_wp2_with fail
  refine wp_region_hd 8 (fun w'=>w'.cell? ⟨16,0,none⟩ = some (.int .i64 0)∧w'.cell? ⟨16,1,none⟩ = some (.int .i64 42)∧w'.cell? ⟨16,2,none⟩ = some (.int .i64 0)∧w'.cell? ⟨16,3,none⟩ = some (.int .i64 0)∧w'.cell? ⟨16,4,none⟩ = some (.int .i64 0)∧w'.cell? ⟨16,5,none⟩ = some (.int .i64 43)∧w'.cell? ⟨16,6,none⟩ = some (.int .i64 0)∧w'.cell? ⟨16,7,none⟩ = some (.int .i64 0)∧w'.cell? ⟨17,0,none⟩ = some (.int .i64 0)∧w'.cell? ⟨17,1,none⟩ = some (.int .i64 0)∧w'.cell? ⟨17,2,none⟩ = some (.int .i64 0)∧w'.cell? ⟨17,3,none⟩ = some (.int .i64 0)∧w'.cell? ⟨17,4,none⟩ = some (.int .i64 0)∧w'.cell? ⟨17,5,none⟩ = some (.int .i64 44)∧w'.cell? ⟨17,6,none⟩ = some (.int .i64 0)∧w'.cell? ⟨17,7,none⟩ = some (.int .i64 0)) (by kernel_rfl) (by decide) ⟨hT.drew.t15 0 (by decide),hT.drew.t15 1 (by decide),hT.drew.t15 2 (by decide),hT.drew.t15 3 (by decide),hT.drew.t15 4 (by decide),hT.drew.t15 5 (by decide),hT.drew.t15 6 (by decide),hT.drew.t15 7 (by decide),hT.drew.t16 0 (by decide),hT.drew.t16 1 (by decide),hT.drew.t16 2 (by decide),hT.drew.t16 3 (by decide),hT.drew.t16 4 (by decide),hT.drew.t16 5 (by decide),hT.drew.t16 6 (by decide),hT.drew.t16 7 (by decide)⟩ (fun hHeld=>?_)
  refine wpHd_take (i:=0) (v:=?_) rfl (by kernel_rfl) (fun _ _ _ h=>h) (Or.inl ⟨by rfl,?hy⟩) hHeld ?_
  case hy=>(intro w hSw;(try dsimp only at hSw);go_split_ands;go_simp;try (with_reducible rfl))
  (try simp only [Act.put,List.setIfInBounds_toArray,List.set_cons_zero,List.set_cons_succ])
  refine wpHd_take (i:=1) (v:=?_) rfl (by kernel_rfl) (fun _ _ _ h=>h) (Or.inl ⟨by rfl,?hy⟩) hHeld ?_
  case hy=>(intro w hSw;(try dsimp only at hSw);go_split_ands;go_simp;try (with_reducible rfl))
  (try simp only [Act.put,List.setIfInBounds_toArray,List.set_cons_zero,List.set_cons_succ])
  refine wpHd_take (i:=2) (v:=?_) rfl (by kernel_rfl) (fun _ _ _ h=>h) (Or.inl ⟨by rfl,?hy⟩) hHeld ?_
  case hy=>(intro w hSw;(try dsimp only at hSw);go_split_ands;go_simp;try (with_reducible rfl))
  (try simp only [Act.put,List.setIfInBounds_toArray,List.set_cons_zero,List.set_cons_succ])
  refine wpHd_take (i:=3) (v:=?_) rfl (by kernel_rfl) (fun _ _ _ h=>h) (Or.inl ⟨by rfl,?hy⟩) hHeld ?_
  case hy=>(intro w hSw;(try dsimp only at hSw);go_split_ands;go_simp;try (with_reducible rfl))
  (try simp only [Act.put,List.setIfInBounds_toArray,List.set_cons_zero,List.set_cons_succ])
  refine wpHd_take (i:=5) (v:=?_) rfl (by kernel_rfl) (fun _ _ _ h=>h) (Or.inl ⟨by rfl,?hy⟩) hHeld ?_
  case hy=>(intro w hSw;(try dsimp only at hSw);go_split_ands;go_simp;try (with_reducible rfl))
  (try simp only [Act.put,List.setIfInBounds_toArray,List.set_cons_zero,List.set_cons_succ])
  clear hHeld
  refine wpHd_one (i:=4) rfl (by kernel_rfl) (fun K hK=>?_)
  go_simp
  refine (byF7_other 32 0 42 0 0 0 43 0 0 0 0 0 0 0 44 0 0 0 0 0 0 0 0 0 0 _ rfl).mono ?_
  rintro e w1 ⟨rfl,k1⟩
  have hT1:=hT.drew.kp k1
  refine hK.out _ _ ⟨hT1.t15 0 (by decide),hT1.t15 1 (by decide),hT1.t15 2 (by decide),hT1.t15 3 (by decide),hT1.t15 4 (by decide),hT1.t15 5 (by decide),hT1.t15 6 (by decide),hT1.t15 7 (by decide),hT1.t16 0 (by decide),hT1.t16 1 (by decide),hT1.t16 2 (by decide),hT1.t16 3 (by decide),hT1.t16 4 (by decide),hT1.t16 5 (by decide),hT1.t16 6 (by decide),hT1.t16 7 (by decide)⟩ (fun hHeld=>?_)
  clear hK K
  (try simp only [Act.put,List.setIfInBounds_toArray,List.set_cons_zero,List.set_cons_succ])
  refine wpHd_take (i:=6) (v:=?_) rfl (by kernel_rfl) (fun _ _ _ h=>h) (Or.inl ⟨by rfl,?hy⟩) hHeld ?_
  case hy=>(intro w hSw;(try dsimp only at hSw);go_split_ands;go_simp;try (with_reducible rfl))
  (try simp only [Act.put,List.setIfInBounds_toArray,List.set_cons_zero,List.set_cons_succ])
  clear hHeld
  refine wpHd_one (i:=7) rfl (by kernel_rfl) (fun K hK=>?_)
  go_simp
  refine (shift_any 5 _).mono ?_
  rintro e w2 ⟨rfl,h2,k2⟩
  have hT2:=hT1.kp k2
  refine hK.out _ _ ⟨hT2.t15 0 (by decide),hT2.t15 1 (by decide),hT2.t15 2 (by decide),hT2.t15 3 (by decide),hT2.t15 4 (by decide),hT2.t15 5 (by decide),hT2.t15 6 (by decide),hT2.t15 7 (by decide),hT2.t16 0 (by decide),hT2.t16 1 (by decide),hT2.t16 2 (by decide),hT2.t16 3 (by decide),hT2.t16 4 (by decide),hT2.t16 5 (by decide),hT2.t16 6 (by decide),hT2.t16 7 (by decide)⟩ (fun hHeld=>?_)
  clear hK K hHeld
  (try simp only [Act.put,List.setIfInBounds_toArray,List.set_cons_zero,List.set_cons_succ])
  refine ⟨by kernel_rfl,?_⟩
  simp only [List.drop_succ_cons,List.drop_zero]
  go_wp2
  go_ret2
  exact ⟨_,rfl,h2,((Kp.refl _ _).drew.trans k1).trans k2,k1.size⟩

theorem lookImmediateW_p (f g:Nat) (w:World) (hT:Tabs w) (hf:f < 8) (hc:w.cell? ⟨15,f,none⟩ = some (.int .i64 0)) (hg:g < 128) (h:g = 1) :
    Calls Tryz.prog 204 #[.int .u32 f,.int .u32 g] w fun e w'=>∃ Q,e = .returned (.tuple #[.int .i64 ([0,0,0,0,0,0,0,0].getD f 0),.func (.func 240) #[] #[.pointer (some ⟨Q,0,none⟩)]])∧Has w' Q 3 #[.int .i64 5]∧Kp none w w'∧w.heap.size ≤ Q:=by
  have hf0:(0:Int) ≤ (f:Int):=by omega
  have hf1:(f:Int) < 8:=by omega
  have hix:=fun w=>index_run 0 0 0 0 0 0 0 0 f hf w
  generalize ([0,0,0,0,0,0,0,0]:List Int).getD f 0 = o at *
  subst h
  go_enter Tryz.func204,Tryz.ntmps204
  go_wp2_with fail
  refine wp_region_hd 8 (fun w'=>w'.cell? ⟨16,0,none⟩ = some (.int .i64 0)∧w'.cell? ⟨16,1,none⟩ = some (.int .i64 42)∧w'.cell? ⟨16,2,none⟩ = some (.int .i64 0)∧w'.cell? ⟨16,3,none⟩ = some (.int .i64 0)∧w'.cell? ⟨16,4,none⟩ = some (.int .i64 0)∧w'.cell? ⟨16,5,none⟩ = some (.int .i64 43)∧w'.cell? ⟨16,6,none⟩ = some (.int .i64 0)∧w'.cell? ⟨16,7,none⟩ = some (.int .i64 0)∧w'.cell? ⟨17,0,none⟩ = some (.int .i64 0)∧w'.cell? ⟨17,1,none⟩ = some (.int .i64 0)∧w'.cell? ⟨17,2,none⟩ = some (.int .i64 0)∧w'.cell? ⟨17,3,none⟩ = some (.int .i64 0)∧w'.cell? ⟨17,4,none⟩ = some (.int .i64 0)∧w'.cell? ⟨17,5,none⟩ = some (.int .i64 44)∧w'.cell? ⟨17,6,none⟩ = some (.int .i64 0)∧w'.cell? ⟨17,7,none⟩ = some (.int .i64 0)) (by kernel_rfl) (by decide) ⟨hT.drew.t15 0 (by decide),hT.drew.t15 1 (by decide),hT.drew.t15 2 (by decide),hT.drew.t15 3 (by decide),hT.drew.t15 4 (by decide),hT.drew.t15 5 (by decide),hT.drew.t15 6 (by decide),hT.drew.t15 7 (by decide),hT.drew.t16 0 (by decide),hT.drew.t16 1 (by decide),hT.drew.t16 2 (by decide),hT.drew.t16 3 (by decide),hT.drew.t16 4 (by decide),hT.drew.t16 5 (by decide),hT.drew.t16 6 (by decide),hT.drew.t16 7 (by decide)⟩ (fun hHeld=>?_)
  refine wpHd_take (i:=0) (v:=?_) rfl (by kernel_rfl) (fun _ _ _ h=>h) (Or.inl ⟨by rfl,?hy⟩) hHeld ?_
  case hy=>(intro w hSw;(try dsimp only at hSw);go_split_ands;go_simp;try (with_reducible rfl))
  (try simp only [Act.put,List.setIfInBounds_toArray,List.set_cons_zero,List.set_cons_succ])
  refine wpHd_take (i:=1) (v:=?_) rfl (by kernel_rfl) (fun _ _ _ h=>h) (Or.inl ⟨by rfl,?hy⟩) hHeld ?_
  case hy=>(intro w hSw;(try dsimp only at hSw);go_split_ands;go_simp;try (with_reducible rfl))
  (try simp only [Act.put,List.setIfInBounds_toArray,List.set_cons_zero,List.set_cons_succ])
  refine wpHd_take (i:=2) (v:=?_) rfl (by kernel_rfl) (fun _ _ _ h=>h) (Or.inl ⟨by rfl,?hy⟩) hHeld ?_
  case hy=>(intro w hSw;(try dsimp only at hSw);go_split_ands;go_simp;try (with_reducible rfl))
  (try simp only [Act.put,List.setIfInBounds_toArray,List.set_cons_zero,List.set_cons_succ])
  refine wpHd_take (i:=3) (v:=?_) rfl (by kernel_rfl) (fun _ _ _ h=>h) (Or.inl ⟨by rfl,?hy⟩) hHeld ?_
  case hy=>(intro w hSw;(try dsimp only at hSw);go_split_ands;go_simp;try (with_reducible rfl))
  (try simp only [Act.put,List.setIfInBounds_toArray,List.set_cons_zero,List.set_cons_succ])
  refine wpHd_take (i:=5) (v:=?_) rfl (by kernel_rfl) (fun _ _ _ h=>h) (Or.inl ⟨by rfl,?hy⟩) hHeld ?_
  case hy=>(intro w hSw;(try dsimp only at hSw);go_split_ands;go_simp;try (with_reducible rfl))
  (try simp only [Act.put,List.setIfInBounds_toArray,List.set_cons_zero,List.set_cons_succ])
  clear hHeld
  refine wpHd_one (i:=4) rfl (by kernel_rfl) (fun K hK=>?_)
  go_simp
  refine (byF7_product 1 0 42 0 0 0 43 0 0 0 0 0 0 0 44 0 0 0 0 0 0 0 0 0 0 _ rfl).mono ?_
  rintro e w1 ⟨rfl,k1⟩
  have hT1:=hT.drew.kp k1
  refine hK.out _ _ ⟨hT1.t15 0 (by decide),hT1.t15 1 (by decide),hT1.t15 2 (by decide),hT1.t15 3 (by decide),hT1.t15 4 (by decide),hT1.t15 5 (by decide),hT1.t15 6 (by decide),hT1.t15 7 (by decide),hT1.t16 0 (by decide),hT1.t16 1 (by decide),hT1.t16 2 (by decide),hT1.t16 3 (by decide),hT1.t16 4 (by decide),hT1.t16 5 (by decide),hT1.t16 6 (by decide),hT1.t16 7 (by decide)⟩ (fun hHeld=>?_)
  clear hK K
  (try simp only [Act.put,List.setIfInBounds_toArray,List.set_cons_zero,List.set_cons_succ])
  refine wpHd_take (i:=6) (v:=?_) rfl (by kernel_rfl) (fun _ _ _ h=>h) (Or.inl ⟨by rfl,?hy⟩) hHeld ?_
  case hy=>(intro w hSw;(try dsimp only at hSw);go_split_ands;go_simp;try (with_reducible rfl))
  (try simp only [Act.put,List.setIfInBounds_toArray,List.set_cons_zero,List.set_cons_succ])
  clear hHeld
  refine wpHd_one (i:=7) rfl (by kernel_rfl) (fun K hK=>?_)
  go_simp
  refine (shift_any 5 _).mono ?_
  rintro e w2 ⟨rfl,h2,k2⟩
  have hT2:=hT1.kp k2
  refine hK.out _ _ ⟨hT2.t15 0 (by decide),hT2.t15 1 (by decide),hT2.t15 2 (by decide),hT2.t15 3 (by decide),hT2.t15 4 (by decide),hT2.t15 5 (by decide),hT2.t15 6 (by decide),hT2.t15 7 (by decide),hT2.t16 0 (by decide),hT2.t16 1 (by decide),hT2.t16 2 (by decide),hT2.t16 3 (by decide),hT2.t16 4 (by decide),hT2.t16 5 (by decide),hT2.t16 6 (by decide),hT2.t16 7 (by decide)⟩ (fun hHeld=>?_)
  clear hK K hHeld
  (try simp only [Act.put,List.setIfInBounds_toArray,List.set_cons_zero,List.set_cons_succ])
  refine ⟨by kernel_rfl,?_⟩
  simp only [List.drop_succ_cons,List.drop_zero]
  go_wp2
  go_ret2
  exact ⟨_,rfl,h2,((Kp.refl _ _).drew.trans k1).trans k2,k1.size⟩

theorem lookImmediateW_c (f g:Nat) (w:World) (hT:Tabs w) (hf:f < 8) (hc:w.cell? ⟨15,f,none⟩ = some (.int .i64 0)) (hg:g < 128) (G:Nat) (h:g = G) (h0:((G:Int) == 0) = false) (h1:((G:Int) == 32) = false) (h2:((G:Int) == 1) = false) :
    Calls Tryz.prog 204 #[.int .u32 f,.int .u32 g] w fun e w'=>∃ Q,e = .returned (.tuple #[.int .i64 ([0,0,0,0,0,0,0,0].getD f 0),.func (.func 240) #[] #[.pointer (some ⟨Q,0,none⟩)]])∧Has w' Q 3 #[.int .i64 5]∧Kp none w w'∧w.heap.size ≤ Q:=by
  have hf0:(0:Int) ≤ (f:Int):=by omega
  have hf1:(f:Int) < 8:=by omega
  have hix:=fun w=>index_run 0 0 0 0 0 0 0 0 f hf w
  generalize ([0,0,0,0,0,0,0,0]:List Int).getD f 0 = o at *
  subst h
  go_enter Tryz.func204,Tryz.ntmps204
  go_wp2_with fail
  refine wp_region_hd 8 (fun w'=>w'.cell? ⟨16,0,none⟩ = some (.int .i64 0)∧w'.cell? ⟨16,1,none⟩ = some (.int .i64 42)∧w'.cell? ⟨16,2,none⟩ = some (.int .i64 0)∧w'.cell? ⟨16,3,none⟩ = some (.int .i64 0)∧w'.cell? ⟨16,4,none⟩ = some (.int .i64 0)∧w'.cell? ⟨16,5,none⟩ = some (.int .i64 43)∧w'.cell? ⟨16,6,none⟩ = some (.int .i64 0)∧w'.cell? ⟨16,7,none⟩ = some (.int .i64 0)∧w'.cell? ⟨17,0,none⟩ = some (.int .i64 0)∧w'.cell? ⟨17,1,none⟩ = some (.int .i64 0)∧w'.cell? ⟨17,2,none⟩ = some (.int .i64 0)∧w'.cell? ⟨17,3,none⟩ = some (.int .i64 0)∧w'.cell? ⟨17,4,none⟩ = some (.int .i64 0)∧w'.cell? ⟨17,5,none⟩ = some (.int .i64 44)∧w'.cell? ⟨17,6,none⟩ = some (.int .i64 0)∧w'.cell? ⟨17,7,none⟩ = some (.int .i64 0)) (by kernel_rfl) (by decide) ⟨hT.drew.t15 0 (by decide),hT.drew.t15 1 (by decide),hT.drew.t15 2 (by decide),hT.drew.t15 3 (by decide),hT.drew.t15 4 (by decide),hT.drew.t15 5 (by decide),hT.drew.t15 6 (by decide),hT.drew.t15 7 (by decide),hT.drew.t16 0 (by decide),hT.drew.t16 1 (by decide),hT.drew.t16 2 (by decide),hT.drew.t16 3 (by decide),hT.drew.t16 4 (by decide),hT.drew.t16 5 (by decide),hT.drew.t16 6 (by decide),hT.drew.t16 7 (by decide)⟩ (fun hHeld=>?_)
  refine wpHd_take (i:=0) (v:=?_) rfl (by kernel_rfl) (fun _ _ _ h=>h) (Or.inl ⟨by rfl,?hy⟩) hHeld ?_
  case hy=>(intro w hSw;(try dsimp only at hSw);go_split_ands;go_simp;try (with_reducible rfl))
  (try simp only [Act.put,List.setIfInBounds_toArray,List.set_cons_zero,List.set_cons_succ])
  refine wpHd_take (i:=1) (v:=?_) rfl (by kernel_rfl) (fun _ _ _ h=>h) (Or.inl ⟨by rfl,?hy⟩) hHeld ?_
  case hy=>(intro w hSw;(try dsimp only at hSw);go_split_ands;go_simp;try (with_reducible rfl))
  (try simp only [Act.put,List.setIfInBounds_toArray,List.set_cons_zero,List.set_cons_succ])
  refine wpHd_take (i:=2) (v:=?_) rfl (by kernel_rfl) (fun _ _ _ h=>h) (Or.inl ⟨by rfl,?hy⟩) hHeld ?_
  case hy=>(intro w hSw;(try dsimp only at hSw);go_split_ands;go_simp;try (with_reducible rfl))
  (try simp only [Act.put,List.setIfInBounds_toArray,List.set_cons_zero,List.set_cons_succ])
  refine wpHd_take (i:=3) (v:=?_) rfl (by kernel_rfl) (fun _ _ _ h=>h) (Or.inl ⟨by rfl,?hy⟩) hHeld ?_
  case hy=>(intro w hSw;(try dsimp only at hSw);go_split_ands;go_simp;try (with_reducible rfl))
  (try simp only [Act.put,List.setIfInBounds_toArray,List.set_cons_zero,List.set_cons_succ])
  refine wpHd_take (i:=5) (v:=?_) rfl (by kernel_rfl) (fun _ _ _ h=>h) (Or.inl ⟨by rfl,?hy⟩) hHeld ?_
  case hy=>(intro w hSw;(try dsimp only at hSw);go_split_ands;go_simp;try (with_reducible rfl))
  (try simp only [Act.put,List.setIfInBounds_toArray,List.set_cons_zero,List.set_cons_succ])
  clear hHeld
  refine wpHd_one (i:=4) rfl (by kernel_rfl) (fun K hK=>?_)
  go_simp
  refine (byF7_else _ 0 42 0 0 0 43 0 0 0 0 0 0 0 44 0 0 0 0 0 0 0 0 0 0 _ h0 h1 h2).mono ?_
  rintro e w1 ⟨rfl,k1⟩
  have hT1:=hT.drew.kp k1
  refine hK.out _ _ ⟨hT1.t15 0 (by decide),hT1.t15 1 (by decide),hT1.t15 2 (by decide),hT1.t15 3 (by decide),hT1.t15 4 (by decide),hT1.t15 5 (by decide),hT1.t15 6 (by decide),hT1.t15 7 (by decide),hT1.t16 0 (by decide),hT1.t16 1 (by decide),hT1.t16 2 (by decide),hT1.t16 3 (by decide),hT1.t16 4 (by decide),hT1.t16 5 (by decide),hT1.t16 6 (by decide),hT1.t16 7 (by decide)⟩ (fun hHeld=>?_)
  clear hK K
  (try simp only [Act.put,List.setIfInBounds_toArray,List.set_cons_zero,List.set_cons_succ])
  refine wpHd_take (i:=6) (v:=?_) rfl (by kernel_rfl) (fun _ _ _ h=>h) (Or.inl ⟨by rfl,?hy⟩) hHeld ?_
  case hy=>(intro w hSw;(try dsimp only at hSw);go_split_ands;go_simp;try (with_reducible rfl))
  (try simp only [Act.put,List.setIfInBounds_toArray,List.set_cons_zero,List.set_cons_succ])
  clear hHeld
  refine wpHd_one (i:=7) rfl (by kernel_rfl) (fun K hK=>?_)
  go_simp
  refine (shift_any 5 _).mono ?_
  rintro e w2 ⟨rfl,h2,k2⟩
  have hT2:=hT1.kp k2
  refine hK.out _ _ ⟨hT2.t15 0 (by decide),hT2.t15 1 (by decide),hT2.t15 2 (by decide),hT2.t15 3 (by decide),hT2.t15 4 (by decide),hT2.t15 5 (by decide),hT2.t15 6 (by decide),hT2.t15 7 (by decide),hT2.t16 0 (by decide),hT2.t16 1 (by decide),hT2.t16 2 (by decide),hT2.t16 3 (by decide),hT2.t16 4 (by decide),hT2.t16 5 (by decide),hT2.t16 6 (by decide),hT2.t16 7 (by decide)⟩ (fun hHeld=>?_)
  clear hK K hHeld
  (try simp only [Act.put,List.setIfInBounds_toArray,List.set_cons_zero,List.set_cons_succ])
  refine ⟨by kernel_rfl,?_⟩
  simp only [List.drop_succ_cons,List.drop_zero]
  go_wp2
  go_ret2
  exact ⟨_,rfl,h2,((Kp.refl _ _).drew.trans k1).trans k2,k1.size⟩

theorem lookImmediateW_plain (g:Nat) (w:World) (hT:Tabs w):Calls Tryz.prog 204 #[.int .u32 0,.int .u32 g] w fun e w'=>e = .returned (.tuple #[.int .i64 41,.func (.func 198) #[] #[]])∧w = w':=by
  have hc:w.cell? ⟨15,0,none⟩ = some (.int .i64 41):=hT.t14 0 (by decide)
  clear hT
  go_enter Tryz.func204,Tryz.ntmps204
  go_wp2
  go_ret2
  exact ⟨rfl,rfl⟩

end Go.Proofs.YtlhpodholnfppaaGreatDoor.Td
