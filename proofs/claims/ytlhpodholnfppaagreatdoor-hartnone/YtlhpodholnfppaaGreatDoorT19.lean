/-
  The arrays of operators, as the package's variables hold them; what byF7 picks.
  Contracts of the smaller functions that look an operator up.
-/
import Derived.Test.YtlhpodholnfppaaGreatDoorT18
import Derived.Deep.RegionHeld3
import Derived.Lib.Hide
set_option linter.unusedVariables false
set_option linter.unusedSimpArgs false
set_option maxHeartbeats 16000000
open Go.Lib (hid)
namespace Go.Proofs.YtlhpodholnfppaaGreatDoor.Td
open Go.RowKit

def Tab (w:World) (g:Nat) (zs:List Int):Prop:=∀ i,i < zs.length → w.cell? ⟨g,i,none⟩ = some (.int .i64 (zs.getD i 0))
theorem Tab.kp {w w':World} {g:Nat} {zs:List Int} (h:Tab w g zs) (k:Kp none w w'):Tab w' g zs:=fun i hi=>by
  have h0:=h i hi
  have hlt:g < w.heap.size:=by
    rcases Nat.lt_or_ge g w.heap.size with hl | hl
    · exact hl
    · simp [World.cell?,Array.getElem?_eq_none hl] at h0
  rw [World.cell?_of_block (w:=w) (k.block g hlt (by simp))]
  exact h0
structure Tabs (w:World):Prop where
  t0:Tab w 1 [4,0,0,0,0,0,0,0]
  t1:Tab w 2 [5,6,0,0,7,8,9,10]
  t2:Tab w 3 [11,12,13,14,15,16,17,0]
  t3:Tab w 4 [18,19,20,21,0,0,0,0]
  t4:Tab w 5 [31,33,34,35,36,37,39,40]
  t5:Tab w 6 [32,0,0,0,0,38,0,0]
  t6:Tab w 7 [50,51,52,53,54,55,56,57]
  t7:Tab w 8 [45,47,0,0,0,48,0,0]
  t8:Tab w 9 [46,0,0,0,0,49,0,0]
  t9:Tab w 10 [58,0,0,0,59,60,61,62]
  t10:Tab w 11 [85,86,0,0,0,0,0,0]
  t11:Tab w 12 [22,0,23,24,25,0,26,27]
  t12:Tab w 13 [0,28,0,0,0,29,0,0]
  t13:Tab w 14 [0,0,0,0,0,30,0,0]
  t14:Tab w 15 [41,0,0,0,0,0,0,0]
  t15:Tab w 16 [0,42,0,0,0,43,0,0]
  t16:Tab w 17 [0,0,0,0,0,44,0,0]
  t17:Tab w 18 [66,65,63,64,67,0,0,0,69,0,0,0,68,0,0,0,70,0,0,0,71,0,0,0,72,0,0,0,73,0,0,0]
  t18:Tab w 19 [77,76,74,75,78,0,0,0,80,0,0,0,79,0,0,0,81,0,0,0,82,0,0,0,83,0,0,0,84,0,0,0]
theorem Tabs.kp {w w':World} (h:Tabs w) (k:Kp none w w'):Tabs w':=
  ⟨h.t0.kp k,h.t1.kp k,h.t2.kp k,h.t3.kp k,h.t4.kp k,h.t5.kp k,h.t6.kp k,h.t7.kp k,h.t8.kp k,h.t9.kp k,h.t10.kp k,h.t11.kp k,h.t12.kp k,h.t13.kp k,h.t14.kp k,h.t15.kp k,h.t16.kp k,h.t17.kp k,h.t18.kp k⟩
theorem Tabs.drew {w:World} (h:Tabs w):Tabs w.drew:=h.kp (Kp.refl _ _).drew
abbrev A8 (a0 a1 a2 a3 a4 a5 a6 a7:Int):Array Value:=#[.int .i64 a0,.int .i64 a1,.int .i64 a2,.int .i64 a3,.int .i64 a4,.int .i64 a5,.int .i64 a6,.int .i64 a7]

theorem byF7_none (f:Nat) (a0 a1 a2 a3 a4 a5 a6 a7 b0 b1 b2 b3 b4 b5 b6 b7 c0 c1 c2 c3 c4 c5 c6 c7:Int) (w:World) (hf:f = 0) :
    Calls Tryz.prog 202 #[.int .u32 f,.agg (A8 a0 a1 a2 a3 a4 a5 a6 a7),.agg (A8 b0 b1 b2 b3 b4 b5 b6 b7),.agg (A8 c0 c1 c2 c3 c4 c5 c6 c7)] w fun e w'=>e = .returned (.agg (A8 a0 a1 a2 a3 a4 a5 a6 a7))∧Kp none w w':=by
  subst hf
  go_enter Tryz.func202,Tryz.ntmps202
  go_wp2
  have g:=Has.new (((w.alloc (.cells (A8 a0 a1 a2 a3 a4 a5 a6 a7) 209)).alloc (.cells (A8 b0 b1 b2 b3 b4 b5 b6 b7) 209)).alloc (.cells (A8 c0 c1 c2 c3 c4 c5 c6 c7) 209)) (A8 a0 a1 a2 a3 a4 a5 a6 a7) 209
  have e:(((w.alloc (.cells (A8 a0 a1 a2 a3 a4 a5 a6 a7) 209)).alloc (.cells (A8 b0 b1 b2 b3 b4 b5 b6 b7) 209)).alloc (.cells (A8 c0 c1 c2 c3 c4 c5 c6 c7) 209)).heap.size = w.heap.size + 1 + 1 + 1:=by simp
  rw [e] at g
  (try simp only [Exit.inBlock,Exit.then])
  refine bodyPost_ret (results_cell_row rfl _ _ (w.heap.size + 1 + 1 + 1) 209 _ (0,0) _ rfl g Tryz.underlying209 rfl (by kernel_rfl)) rfl ⟨rfl,?_⟩
  exact ((((Kp.refl _ _).alloc _ _).alloc _ _).alloc _ _).alloc _ _

theorem byF7_other (f:Nat) (a0 a1 a2 a3 a4 a5 a6 a7 b0 b1 b2 b3 b4 b5 b6 b7 c0 c1 c2 c3 c4 c5 c6 c7:Int) (w:World) (hf:f = 32) :
    Calls Tryz.prog 202 #[.int .u32 f,.agg (A8 a0 a1 a2 a3 a4 a5 a6 a7),.agg (A8 b0 b1 b2 b3 b4 b5 b6 b7),.agg (A8 c0 c1 c2 c3 c4 c5 c6 c7)] w fun e w'=>e = .returned (.agg (A8 b0 b1 b2 b3 b4 b5 b6 b7))∧Kp none w w':=by
  subst hf
  go_enter Tryz.func202,Tryz.ntmps202
  go_wp2
  have g:=Has.new (((w.alloc (.cells (A8 a0 a1 a2 a3 a4 a5 a6 a7) 209)).alloc (.cells (A8 b0 b1 b2 b3 b4 b5 b6 b7) 209)).alloc (.cells (A8 c0 c1 c2 c3 c4 c5 c6 c7) 209)) (A8 b0 b1 b2 b3 b4 b5 b6 b7) 209
  have e:(((w.alloc (.cells (A8 a0 a1 a2 a3 a4 a5 a6 a7) 209)).alloc (.cells (A8 b0 b1 b2 b3 b4 b5 b6 b7) 209)).alloc (.cells (A8 c0 c1 c2 c3 c4 c5 c6 c7) 209)).heap.size = w.heap.size + 1 + 1 + 1:=by simp
  rw [e] at g
  (try simp only [Exit.inBlock,Exit.then])
  refine bodyPost_ret (results_cell_row rfl _ _ (w.heap.size + 1 + 1 + 1) 209 _ (0,0) _ rfl g Tryz.underlying209 rfl (by kernel_rfl)) rfl ⟨rfl,?_⟩
  exact ((((Kp.refl _ _).alloc _ _).alloc _ _).alloc _ _).alloc _ _

theorem byF7_product (f:Nat) (a0 a1 a2 a3 a4 a5 a6 a7 b0 b1 b2 b3 b4 b5 b6 b7 c0 c1 c2 c3 c4 c5 c6 c7:Int) (w:World) (hf:f = 1) :
    Calls Tryz.prog 202 #[.int .u32 f,.agg (A8 a0 a1 a2 a3 a4 a5 a6 a7),.agg (A8 b0 b1 b2 b3 b4 b5 b6 b7),.agg (A8 c0 c1 c2 c3 c4 c5 c6 c7)] w fun e w'=>e = .returned (.agg (A8 c0 c1 c2 c3 c4 c5 c6 c7))∧Kp none w w':=by
  subst hf
  go_enter Tryz.func202,Tryz.ntmps202
  go_wp2
  have g:=Has.new (((w.alloc (.cells (A8 a0 a1 a2 a3 a4 a5 a6 a7) 209)).alloc (.cells (A8 b0 b1 b2 b3 b4 b5 b6 b7) 209)).alloc (.cells (A8 c0 c1 c2 c3 c4 c5 c6 c7) 209)) (A8 c0 c1 c2 c3 c4 c5 c6 c7) 209
  have e:(((w.alloc (.cells (A8 a0 a1 a2 a3 a4 a5 a6 a7) 209)).alloc (.cells (A8 b0 b1 b2 b3 b4 b5 b6 b7) 209)).alloc (.cells (A8 c0 c1 c2 c3 c4 c5 c6 c7) 209)).heap.size = w.heap.size + 1 + 1 + 1:=by simp
  rw [e] at g
  (try simp only [Exit.inBlock,Exit.then])
  refine bodyPost_ret (results_cell_row rfl _ _ (w.heap.size + 1 + 1 + 1) 209 _ (0,0) _ rfl g Tryz.underlying209 rfl (by kernel_rfl)) rfl ⟨rfl,?_⟩
  exact ((((Kp.refl _ _).alloc _ _).alloc _ _).alloc _ _).alloc _ _

theorem byF7_else (f:Nat) (a0 a1 a2 a3 a4 a5 a6 a7 b0 b1 b2 b3 b4 b5 b6 b7 c0 c1 c2 c3 c4 c5 c6 c7:Int) (w:World) (h0:((f:Int) == 0) = false) (h1:((f:Int) == 32) = false) (h2:((f:Int) == 1) = false) :
    Calls Tryz.prog 202 #[.int .u32 f,.agg (A8 a0 a1 a2 a3 a4 a5 a6 a7),.agg (A8 b0 b1 b2 b3 b4 b5 b6 b7),.agg (A8 c0 c1 c2 c3 c4 c5 c6 c7)] w fun e w'=>e = .returned (.agg (A8 0 0 0 0 0 0 0 0))∧Kp none w w':=by
  go_enter Tryz.func202,Tryz.ntmps202
  go_wp2
  have g:=Has.new (((w.alloc (.cells (A8 a0 a1 a2 a3 a4 a5 a6 a7) 209)).alloc (.cells (A8 b0 b1 b2 b3 b4 b5 b6 b7) 209)).alloc (.cells (A8 c0 c1 c2 c3 c4 c5 c6 c7) 209)) (A8 0 0 0 0 0 0 0 0) 209
  have e:(((w.alloc (.cells (A8 a0 a1 a2 a3 a4 a5 a6 a7) 209)).alloc (.cells (A8 b0 b1 b2 b3 b4 b5 b6 b7) 209)).alloc (.cells (A8 c0 c1 c2 c3 c4 c5 c6 c7) 209)).heap.size = w.heap.size + 1 + 1 + 1:=by simp
  rw [e] at g
  (try simp only [Exit.inBlock,Exit.then])
  refine bodyPost_ret (results_cell_row rfl _ _ (w.heap.size + 1 + 1 + 1) 209 _ (0,0) _ rfl g Tryz.underlying209 rfl (by kernel_rfl)) rfl ⟨rfl,?_⟩
  exact ((((Kp.refl _ _).alloc _ _).alloc _ _).alloc _ _).alloc _ _
end Go.Proofs.YtlhpodholnfppaaGreatDoor.Td

namespace Go.Proofs.YtlhpodholnfppaaGreatDoor.Td
open Go.RowKit

def T17:List Int:=[66,65,63,64,67,0,0,0,69,0,0,0,68,0,0,0,70,0,0,0,71,0,0,0,72,0,0,0,73,0,0,0]
def T18:List Int:=[77,76,74,75,78,0,0,0,80,0,0,0,79,0,0,0,81,0,0,0,82,0,0,0,83,0,0,0,84,0,0,0]
def lrOf (o:Int) (p:Nat):Int:=if (o = 63 ∨ o = 74)∧p ≠ 0 then 0 else o
def opA (s f:Nat):Int:=lrOf (if f = 2 then T17.getD (pc s 27 5) 0 else if f = 3 then T18.getD (pc s 27 5) 0 else 0) (pc s 20 5)

theorem lookSystem_any (s:Nat) (w:World):Calls Tryz.prog 208 #[.int .u32 s] w fun e w'=>e = .returned (.int .i64 (if s = 115 then 87 else if s = 1048691 then 88 else 0))∧w = w':=by
  by_cases h1:s = 115
  · subst h1
    go_enter Tryz.func208,Tryz.ntmps208
    go_wp2
    go_ret
    exact ⟨rfl,rfl⟩
  · by_cases h2:s = 1048691
    · subst h2
      go_enter Tryz.func208,Tryz.ntmps208
      go_wp2
      go_ret
      exact ⟨rfl,rfl⟩
    · rw [if_neg h1,if_neg h2]
      have e1:((s:Int) == 115) = false:=by simp;omega
      have e2:((s:Int) == 1048691) = false:=by simp;omega
      go_enter Tryz.func208,Tryz.ntmps208
      go_wp2
      go_ret
      exact ⟨rfl,rfl⟩

theorem shift_any (m:Nat) (w:World):Calls Tryz.prog 234 #[.int .i64 m] w fun e w'=>e = .returned (.func (.func 240) #[] #[.pointer (some ⟨w.heap.size,0,none⟩)])∧Has w' w.heap.size 3 #[.int .i64 m]∧Kp none w w':=by
  have hmf:∀ (fn:Fn) (first cap:Array Value) (w:World),(Instr.makeFunc fn first cap).run Tryz.prog w = .ok (.func fn first cap) w:=fun _ _ _ _=>rfl
  go_enter Tryz.func234,Tryz.ntmps234
  go_wp2
  go_ret
  exact ⟨rfl,Has.new _ _ _,(Kp.refl _ _).alloc _ _⟩

theorem lookAtomic_w (s:Nat) (w:World) (hs:s < 4294967296) (hT:Tabs w):Calls Tryz.prog 205 #[.int .u32 s,.int .u32 2] w fun e w'=>e = .returned (.int .i64 (opA s 2))∧Kp none w w':=by
  have hf:=pc_lt s 27 5
  have hp:=pc_le s 20 5 hs
  have hc:w.cell? ⟨18,pc s 27 5,none⟩ = some (.int .i64 (T17.getD (pc s 27 5) 0)):=hT.t17 _ (by simpa using hf)
  have ho:opA s 2 = lrOf (T17.getD (pc s 27 5) 0) (pc s 20 5):=rfl
  rw [ho];clear ho hT
  have P1:=fun w=>piece_any s 27 5 w hs (by omega) (by omega)
  have P2:=fun w=>piece_any s 20 5 w hs (by omega) (by omega)
  generalize T17.getD (pc s 27 5) 0 = o at *
  generalize pc s 27 5 = f at *
  generalize pc s 20 5 = p at *
  have hf0:(0:Int) ≤ (f:Int):=by omega
  have hf1:(f:Int) < 32:=by omega
  have H1:=hid P1;have H2:=hid P2;clear P1 P2
  by_cases ho:o = 63 ∨ o = 74
  · by_cases hp0:p = 0
    · subst hp0
      have e1:lrOf o 0 = o:=by simp [lrOf]
      rw [e1];clear e1
      rcases ho with rfl | rfl
      all_goals
        go_enter Tryz.func205,Tryz.ntmps205
        go_wp2_with fail
        refine (H1.out _).mono ?_
        rintro e w1 ⟨rfl,q,rfl⟩
        go_wp2_with fail
        refine (H2.out _).mono ?_
        rintro e w1 ⟨rfl,q2,rfl⟩
        go_wp2
        go_ret
        exact ⟨rfl,(Kp.refl _ _).drewN _⟩
    · have e1:lrOf o p = 0:=by unfold lrOf;rw [if_pos ⟨ho,hp0⟩]
      have e2:((p:Int) != 0) = true:=by simp;omega
      rw [e1];clear e1
      rcases ho with rfl | rfl
      all_goals
        go_enter Tryz.func205,Tryz.ntmps205
        go_wp2_with fail
        refine (H1.out _).mono ?_
        rintro e w1 ⟨rfl,q,rfl⟩
        go_wp2_with fail
        refine (H2.out _).mono ?_
        rintro e w1 ⟨rfl,q2,rfl⟩
        go_wp2
        go_ret
        exact ⟨rfl,(Kp.refl _ _).drewN _⟩
  · have e1:lrOf o p = o:=by unfold lrOf;rw [if_neg (fun h=>ho h.1)]
    have e2:(o == 63) = false:=by simp;intro h;exact ho (.inl h)
    have e3:(o == 74) = false:=by simp;intro h;exact ho (.inr h)
    rw [e1];clear e1 ho
    go_enter Tryz.func205,Tryz.ntmps205
    go_wp2_with fail
    refine (H1.out _).mono ?_
    rintro e w1 ⟨rfl,q,rfl⟩
    go_wp2
    go_ret
    exact ⟨rfl,(Kp.refl _ _).drewN _⟩

theorem lookAtomic_d (s:Nat) (w:World) (hs:s < 4294967296) (hT:Tabs w):Calls Tryz.prog 205 #[.int .u32 s,.int .u32 3] w fun e w'=>e = .returned (.int .i64 (opA s 3))∧Kp none w w':=by
  have hf:=pc_lt s 27 5
  have hp:=pc_le s 20 5 hs
  have hc:w.cell? ⟨19,pc s 27 5,none⟩ = some (.int .i64 (T18.getD (pc s 27 5) 0)):=hT.t18 _ (by simpa using hf)
  have ho:opA s 3 = lrOf (T18.getD (pc s 27 5) 0) (pc s 20 5):=rfl
  rw [ho];clear ho hT
  have P1:=fun w=>piece_any s 27 5 w hs (by omega) (by omega)
  have P2:=fun w=>piece_any s 20 5 w hs (by omega) (by omega)
  generalize T18.getD (pc s 27 5) 0 = o at *
  generalize pc s 27 5 = f at *
  generalize pc s 20 5 = p at *
  have hf0:(0:Int) ≤ (f:Int):=by omega
  have hf1:(f:Int) < 32:=by omega
  have H1:=hid P1;have H2:=hid P2;clear P1 P2
  by_cases ho:o = 63 ∨ o = 74
  · by_cases hp0:p = 0
    · subst hp0
      have e1:lrOf o 0 = o:=by simp [lrOf]
      rw [e1];clear e1
      rcases ho with rfl | rfl
      all_goals
        go_enter Tryz.func205,Tryz.ntmps205
        go_wp2_with fail
        refine (H1.out _).mono ?_
        rintro e w1 ⟨rfl,q,rfl⟩
        go_wp2_with fail
        refine (H2.out _).mono ?_
        rintro e w1 ⟨rfl,q2,rfl⟩
        go_wp2
        go_ret
        exact ⟨rfl,(Kp.refl _ _).drewN _⟩
    · have e1:lrOf o p = 0:=by unfold lrOf;rw [if_pos ⟨ho,hp0⟩]
      have e2:((p:Int) != 0) = true:=by simp;omega
      rw [e1];clear e1
      rcases ho with rfl | rfl
      all_goals
        go_enter Tryz.func205,Tryz.ntmps205
        go_wp2_with fail
        refine (H1.out _).mono ?_
        rintro e w1 ⟨rfl,q,rfl⟩
        go_wp2_with fail
        refine (H2.out _).mono ?_
        rintro e w1 ⟨rfl,q2,rfl⟩
        go_wp2
        go_ret
        exact ⟨rfl,(Kp.refl _ _).drewN _⟩
  · have e1:lrOf o p = o:=by unfold lrOf;rw [if_neg (fun h=>ho h.1)]
    have e2:(o == 63) = false:=by simp;intro h;exact ho (.inl h)
    have e3:(o == 74) = false:=by simp;intro h;exact ho (.inr h)
    rw [e1];clear e1 ho
    go_enter Tryz.func205,Tryz.ntmps205
    go_wp2_with fail
    refine (H1.out _).mono ?_
    rintro e w1 ⟨rfl,q,rfl⟩
    go_wp2
    go_ret
    exact ⟨rfl,(Kp.refl _ _).drewN _⟩

theorem lookAtomic_no (s f:Nat) (w:World) (hs:s < 4294967296) (h2:((f:Int) == 2) = false) (h3:((f:Int) == 3) = false):Calls Tryz.prog 205 #[.int .u32 s,.int .u32 f] w fun e w'=>e = .returned (.int .i64 (opA s f))∧Kp none w w':=by
  have ho:opA s f = 0:=by
    have h2':f ≠ 2:=fun h=>by subst h;simp at h2
    have h3':f ≠ 3:=fun h=>by subst h;simp at h3
    simp [opA,h2',h3',lrOf]
  rw [ho];clear ho
  have P1:=fun w=>piece_any s 27 5 w hs (by omega) (by omega)
  generalize pc s 27 5 = g at *
  have H1:=hid P1;clear P1
  go_enter Tryz.func205,Tryz.ntmps205
  go_wp2_with fail
  refine (H1.out _).mono ?_
  rintro e w1 ⟨rfl,q,rfl⟩
  go_wp2
  go_ret
  exact ⟨rfl,(Kp.refl _ _).drewN _⟩

theorem lookAtomic_any (s f:Nat) (w:World) (hs:s < 4294967296) (hT:Tabs w):Calls Tryz.prog 205 #[.int .u32 s,.int .u32 f] w fun e w'=>e = .returned (.int .i64 (opA s f))∧Kp none w w':=by
  by_cases h2:f = 2
  · subst h2;exact lookAtomic_w s w hs hT
  · by_cases h3:f = 3
    · subst h3;exact lookAtomic_d s w hs hT
    · exact lookAtomic_no s f w hs (by simp;omega) (by simp;omega)

def T11:List Int:=[22,0,23,24,25,0,26,27]
def pick3 (g:Nat) (a b c:List Int) (f:Nat):Int:=if g = 0 then a.getD f 0 else if g = 32 then b.getD f 0 else if g = 1 then c.getD f 0 else 0
theorem lookImmediate_plain (f g:Nat) (w:World) (hT:Tabs w) (hf:f ∈ [0,2,3,4,6,7]):Calls Tryz.prog 201 #[.int .u32 f,.int .u32 g] w fun e w'=>e = .returned (.tuple #[.int .i64 (T11.getD f 0),.func (.func 198) #[] #[]])∧w = w':=by
  have hc:w.cell? ⟨12,f,none⟩ = some (.int .i64 (T11.getD f 0)):=hT.t11 f (by simp at hf;rcases hf with h | h | h | h | h | h <;> simp [h])
  simp only [List.mem_cons,List.not_mem_nil,or_false] at hf
  clear hT
  rcases hf with rfl | rfl | rfl | rfl | rfl | rfl
  all_goals
    simp [T11] at hc
    go_enter Tryz.func201,Tryz.ntmps201
    go_wp2
    go_ret2
    exact ⟨rfl,rfl⟩

end Go.Proofs.YtlhpodholnfppaaGreatDoor.Td
