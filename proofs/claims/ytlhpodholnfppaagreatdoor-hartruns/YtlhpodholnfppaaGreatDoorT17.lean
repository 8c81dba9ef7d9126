/-
  Contracts of what is reckoned by a short instruction, and of the choice of its kind.
  Contracts of the choice of a short instruction's kind.
-/
import Derived.Test.YtlhpodholnfppaaGreatDoorT16
import Derived.Test.YtlhpodholnfppaaGreatDoorT14
import Derived.Lib.Hide
set_option linter.unusedVariables false
set_option linter.unusedSimpArgs false
set_option maxHeartbeats 16000000
open Go.Lib (hid)
namespace Go.Proofs.YtlhpodholnfppaaGreatDoor.Td
open Go.RowKit
def TabC (w:World) (g:Nat) (zs:List Int):Prop:=∀ i,i < zs.length → w.cell? ⟨g,i,none⟩ = some (.int .i64 (zs.getD i 0))
theorem TabC.kp {w w':World} {g:Nat} {zs:List Int} (h:TabC w g zs) (k:Kp none w w'):TabC w' g zs:=fun i hi=>by
  have h0:=h i hi
  have hlt:g < w.heap.size:=by
    rcases Nat.lt_or_ge g w.heap.size with hl | hl
    · exact hl
    · simp [World.cell?,Array.getElem?_eq_none hl] at h0
  rw [World.cell?_of_block (w:=w) (k.block g hlt (by simp))]
  exact h0
def opsT:List Int:=[22,0,13,14,0,0,20,21,22,41,22,1,27,3,5,6,28,0,13,14,31,0,20,21,0,0,0,0,0,0,0,0]
def recT:List Int:=[32,36,39,40,46,45,0,0]
structure TabsC (w:World):Prop where
  o:TabC w 0 opsT
  r:TabC w 20 recT
theorem TabsC.kp {w w':World} (h:TabsC w) (k:Kp none w w'):TabsC w':=⟨h.o.kp k,h.r.kp k⟩
structure FrR (w:World) (cs:Array Value) (w1:World):Prop where
  kp:Kp none w w1
  res:Has w1 w.heap.size 38 (I7 0 0 0 0 0 0 0)
  box:Has w1 (w.heap.size + 1) 38 cs
theorem FrR.start (w:World) (q:Nat) (cs:Array Value):FrR w cs (((w.alloc (.cells (I7 0 0 0 0 0 0 0) 38)).drewN q).alloc (.cells cs 38)):=
  ⟨(((Kp.refl _ _).alloc _ _).drewN _).alloc _ _,((Has.new w (I7 0 0 0 0 0 0 0) 38:Has ((w.alloc (.cells (I7 0 0 0 0 0 0 0) 38)).drewN q) w.heap.size 38 (I7 0 0 0 0 0 0 0))).alloc _,
   by have:=Has.new ((w.alloc (.cells (I7 0 0 0 0 0 0 0) 38)).drewN q) cs 38;simpa using this⟩
theorem FrR.call {w w1 w2:World} {cs:Array Value} (h:FrR w cs w1) (k:Kp none w1 w2):FrR w cs w2:=
  ⟨h.kp.trans k,h.res.kp k (by simp),h.box.kp k (by simp)⟩
theorem FrR.set {w w1:World} {cs:Array Value} (h:FrR w cs w1) (i:Nat) (u:Value):FrR w (cs.setIfInBounds i u) (w1.setCell ⟨w.heap.size + 1,i,none⟩ u):=
  ⟨h.kp.setCell (Or.inl (Nat.le_succ _)) _,h.res.other (by show w.heap.size ≠ w.heap.size + 1;omega) _,h.box.set i u⟩

theorem reckon_srli (s:Nat) (op:Int) (w:World) (hs:s < 65536) (hj:pc s 10 2 = 0):Calls Tryz.prog 225 #[.int .u16 s,.int .i64 op] w fun e w'=>e = .returned (.agg (I7 29 ((pc s 7 3:Nat) + 8) ((pc s 7 3:Nat) + 8) 0 (shiftN s:Nat) 0 0))∧Kp none w w':=by
  have CB:=hid (bits_is s 11 10 0 0 hs (by decide) (by decide) (by decide) (by show pc s 10 2 * 2 ^ 0 = 0;rw [hj]))
  have C1:=hid (fun w=>smallRs1_is s _ w hs rfl)
  generalize pc s 7 3 = r at *
  have CN:=hid (fun w=>shiftC_any s w hs)
  generalize shiftN s = sh at *
  clear hs hj
  go_enter Tryz.func225,Tryz.ntmps225
  go_wp2_with fail
  refine (C1.out _).mono ?_
  rintro e w1 ⟨rfl,q1,rfl⟩
  go_wp2_with fail
  refine (C1.out _).mono ?_
  rintro e w2 ⟨rfl,q2,rfl⟩
  go_wp2_with fail
  have f1:=FrR.start w (q1 + q2) (I7 op ((r:Int) + 8) ((r:Int) + 8) 0 0 0 0)
  refine (CB.out _).mono ?_
  rintro e w3 ⟨rfl,hq⟩
  have f2:=f1.call (kd hq)
  clear f1 hq
  go_wp2_with fail
  refine (CN.out _).mono ?_
  rintro e w4 ⟨rfl,hq⟩
  have f3:=f2.call (kd hq)
  clear f2 hq
  obtain ⟨b0,b1,b2,b3,b4,b5,b6⟩:=f3.box.seven
  have z:=f3.box.free
  obtain ⟨q0,q1,q2,q3,q4,q5,q6⟩:=f3.res.seven
  have y:=f3.res.free
  go_wp2
  have g:=((f3.set 0 (.int .i64 29)).set 4 (.int .i64 (sh:Int)))
  (try simp only [Exit.inBlock,Exit.then])
  refine bodyPost_ret (results_cell_row rfl _ _ w.heap.size 38 _ (0,0) _ rfl (g.res.seven_set _ _ _ _ _ _ _) Tryz.underlying38 rfl (by kernel_rfl)) rfl ⟨rfl,?_⟩
  exact g.kp.seven_set (Nat.le_refl _) _ _ _ _ _ _ _

theorem reckon_srai (s:Nat) (op:Int) (w:World) (hs:s < 65536) (hj:pc s 10 2 = 1):Calls Tryz.prog 225 #[.int .u16 s,.int .i64 op] w fun e w'=>e = .returned (.agg (I7 30 ((pc s 7 3:Nat) + 8) ((pc s 7 3:Nat) + 8) 0 (shiftN s:Nat) 0 0))∧Kp none w w':=by
  have CB:=hid (bits_is s 11 10 0 1 hs (by decide) (by decide) (by decide) (by show pc s 10 2 * 2 ^ 0 = 1;rw [hj]))
  have C1:=hid (fun w=>smallRs1_is s _ w hs rfl)
  generalize pc s 7 3 = r at *
  have CN:=hid (fun w=>shiftC_any s w hs)
  generalize shiftN s = sh at *
  clear hs hj
  go_enter Tryz.func225,Tryz.ntmps225
  go_wp2_with fail
  refine (C1.out _).mono ?_
  rintro e w1 ⟨rfl,q1,rfl⟩
  go_wp2_with fail
  refine (C1.out _).mono ?_
  rintro e w2 ⟨rfl,q2,rfl⟩
  go_wp2_with fail
  have f1:=FrR.start w (q1 + q2) (I7 op ((r:Int) + 8) ((r:Int) + 8) 0 0 0 0)
  refine (CB.out _).mono ?_
  rintro e w3 ⟨rfl,hq⟩
  have f2:=f1.call (kd hq)
  clear f1 hq
  go_wp2_with fail
  refine (CN.out _).mono ?_
  rintro e w4 ⟨rfl,hq⟩
  have f3:=f2.call (kd hq)
  clear f2 hq
  obtain ⟨b0,b1,b2,b3,b4,b5,b6⟩:=f3.box.seven
  have z:=f3.box.free
  obtain ⟨q0,q1,q2,q3,q4,q5,q6⟩:=f3.res.seven
  have y:=f3.res.free
  go_wp2
  have g:=((f3.set 0 (.int .i64 30)).set 4 (.int .i64 (sh:Int)))
  (try simp only [Exit.inBlock,Exit.then])
  refine bodyPost_ret (results_cell_row rfl _ _ w.heap.size 38 _ (0,0) _ rfl (g.res.seven_set _ _ _ _ _ _ _) Tryz.underlying38 rfl (by kernel_rfl)) rfl ⟨rfl,?_⟩
  exact g.kp.seven_set (Nat.le_refl _) _ _ _ _ _ _ _

theorem reckon_andi (s:Nat) (op:Int) (w:World) (hs:s < 65536) (hj:pc s 10 2 = 2):Calls Tryz.prog 225 #[.int .u16 s,.int .i64 op] w fun e w'=>e = .returned (.agg (I7 op ((pc s 7 3:Nat) + 8) ((pc s 7 3:Nat) + 8) 0 (low (shiftN s:Nat) 6) 0 0))∧Kp none w w':=by
  have CB:=hid (bits_is s 11 10 0 2 hs (by decide) (by decide) (by decide) (by show pc s 10 2 * 2 ^ 0 = 2;rw [hj]))
  have C1:=hid (fun w=>smallRs1_is s _ w hs rfl)
  generalize pc s 7 3 = r at *
  have CN:=hid (fun w=>number_any s w hs)
  generalize low (shiftN s:Nat) 6 = sh at *
  clear hs hj
  go_enter Tryz.func225,Tryz.ntmps225
  go_wp2_with fail
  refine (C1.out _).mono ?_
  rintro e w1 ⟨rfl,q1,rfl⟩
  go_wp2_with fail
  refine (C1.out _).mono ?_
  rintro e w2 ⟨rfl,q2,rfl⟩
  go_wp2_with fail
  have f1:=FrR.start w (q1 + q2) (I7 op ((r:Int) + 8) ((r:Int) + 8) 0 0 0 0)
  refine (CB.out _).mono ?_
  rintro e w3 ⟨rfl,hq⟩
  have f2:=f1.call (kd hq)
  clear f1 hq
  go_wp2_with fail
  refine (CN.out _).mono ?_
  rintro e w4 ⟨rfl,hq⟩
  have f3:=f2.call (kd hq)
  clear f2 hq
  obtain ⟨b0,b1,b2,b3,b4,b5,b6⟩:=f3.box.seven
  have z:=f3.box.free
  obtain ⟨q0,q1,q2,q3,q4,q5,q6⟩:=f3.res.seven
  have y:=f3.res.free
  go_wp2
  have g:=(f3.set 4 (.int .i64 sh))
  (try simp only [Exit.inBlock,Exit.then])
  refine bodyPost_ret (results_cell_row rfl _ _ w.heap.size 38 _ (0,0) _ rfl (g.res.seven_set _ _ _ _ _ _ _) Tryz.underlying38 rfl (by kernel_rfl)) rfl ⟨rfl,?_⟩
  exact g.kp.seven_set (Nat.le_refl _) _ _ _ _ _ _ _

theorem reckon_two (s:Nat) (op:Int) (w:World) (hs:s < 65536) (hj:pc s 10 2 = 3) (hT:TabsC w):Calls Tryz.prog 225 #[.int .u16 s,.int .i64 op] w fun e w'=>e = .returned (.agg (I7 (recT.getD (reckN s) 0) ((pc s 7 3:Nat) + 8) ((pc s 7 3:Nat) + 8) ((pc s 2 3:Nat) + 8) 0 0 0))∧Kp none w w':=by
  have CB:=hid (bits_is s 11 10 0 3 hs (by decide) (by decide) (by decide) (by show pc s 10 2 * 2 ^ 0 = 3;rw [hj]))
  have C1:=hid (fun w=>smallRs1_is s _ w hs rfl)
  generalize pc s 7 3 = r at *
  have C2:=hid (fun w=>smallRs2_is s _ w hs rfl)
  generalize pc s 2 3 = r2 at *
  have CR:=hid (fun w=>reckoner_any s w hs)
  have hv:reckN s < 8:=by
    have h1:=pc_lt s 12 1
    have h2:=pc_lt s 5 2
    simp only [Nat.reducePow] at h1 h2
    unfold reckN
    omega
  have HR:=hid hT.r
  generalize reckN s = v at *
  have hx:=hid (fun (w':World) (k:Kp none w w')=>(HR.out.kp k) v hv)
  have hv0:(0:Int) ≤ (v:Int):=by omega
  have hv8:(v:Int) < 8:=by omega
  generalize recT.getD v 0 = ro at *
  clear hs hj hT hv
  go_enter Tryz.func225,Tryz.ntmps225
  go_wp2_with fail
  refine (C1.out _).mono ?_
  rintro e w1 ⟨rfl,q1,rfl⟩
  go_wp2_with fail
  refine (C1.out _).mono ?_
  rintro e w2 ⟨rfl,q2,rfl⟩
  go_wp2_with fail
  have f1:=FrR.start w (q1 + q2) (I7 op ((r:Int) + 8) ((r:Int) + 8) 0 0 0 0)
  refine (CB.out _).mono ?_
  rintro e w3 ⟨rfl,hq⟩
  have f2:=f1.call (kd hq)
  clear f1 hq
  go_wp2_with fail
  refine wp_region_hd 7 (fun w'=>FrR w (I7 op ((r:Int) + 8) ((r:Int) + 8) 0 0 0 0) w'∧w'.cell? ⟨20,v,none⟩ = some (.int .i64 ro)) (by kernel_rfl) (by decide) ⟨f2.call (Kp.refl _ _).drew,hx.out _ (f2.kp.drew)⟩ (fun hHeld=>?_)
  refine wpHd_take (i:=0) (v:=?_) rfl (by kernel_rfl) (fun _ _ _ h=>h) (Or.inl ⟨by rfl,?hy⟩) hHeld ?_
  case hy=>(intro w hSw;(try dsimp only at hSw);go_split_ands;go_simp;try (with_reducible rfl))
  (try simp only [Act.put,List.setIfInBounds_toArray,List.set_cons_zero,List.set_cons_succ])
  refine wpHd_take (i:=4) (v:=?_) rfl (by kernel_rfl) (fun _ _ _ h=>h) (Or.inl ⟨by rfl,?hy⟩) hHeld ?_
  case hy=>(intro w hSw;(try dsimp only at hSw);go_split_ands;go_simp;try (with_reducible rfl))
  (try simp only [Act.put,List.setIfInBounds_toArray,List.set_cons_zero,List.set_cons_succ])
  refine wpHd_one (i:=1) rfl (by kernel_rfl) (fun K hK=>?_)
  go_simp
  refine (CR.out _).mono ?_
  rintro e w2 ⟨rfl,hq⟩
  refine hK.out _ _ ?_ (fun hHeld=>?_)
  · exact ⟨hHeld.1.call (kd hq),hx.out _ (hHeld.1.call (kd hq)).kp⟩
  clear hK K
  (try simp only [Act.put,List.setIfInBounds_toArray,List.set_cons_zero,List.set_cons_succ])
  refine wpHd_take (i:=2) (v:=?_) rfl (by kernel_rfl) (fun _ _ _ h=>h) (Or.inl ⟨by rfl,?hy⟩) hHeld ?_
  case hy=>(intro w hSw;(try dsimp only at hSw);go_split_ands;go_simp;try (with_reducible rfl))
  (try simp only [Act.put,List.setIfInBounds_toArray,List.set_cons_zero,List.set_cons_succ])
  refine wpHd_take (i:=3) (v:=?_) rfl (by kernel_rfl) (fun _ _ _ h=>h) (Or.inl ⟨by rfl,?hy⟩) hHeld ?_
  case hy=>(intro w hSw;(try dsimp only at hSw);go_split_ands;go_simp;try (with_reducible rfl))
  (try simp only [Act.put,List.setIfInBounds_toArray,List.set_cons_zero,List.set_cons_succ])
  refine wpHd_take (i:=6) (v:=?_) rfl (by kernel_rfl) (fun _ _ _ h=>h) (Or.inl ⟨by rfl,?hy⟩) hHeld ?_
  case hy=>(intro w hSw;(try dsimp only at hSw);go_split_ands;go_simp;try (with_reducible rfl))
  (try simp only [Act.put,List.setIfInBounds_toArray,List.set_cons_zero,List.set_cons_succ])
  refine wpHd_one (i:=5) rfl (by kernel_rfl) (fun K hK=>?_)
  go_simp
  refine (C2.out _).mono ?_
  rintro e w2 ⟨rfl,hq⟩
  refine hK.out _ _ ?_ (fun hHeld=>?_)
  · exact ⟨hHeld.1.call (kd hq),hx.out _ (hHeld.1.call (kd hq)).kp⟩
  clear hK K
  (try simp only [Act.put,List.setIfInBounds_toArray,List.set_cons_zero,List.set_cons_succ])
  refine ⟨by kernel_rfl,?_⟩
  simp only [List.drop_succ_cons,List.drop_zero]
  obtain ⟨f3,-⟩:=hHeld
  obtain ⟨b0,b1,b2,b3,b4,b5,b6⟩:=f3.box.seven
  have z:=f3.box.free
  obtain ⟨q0,q1,q2,q3,q4,q5,q6⟩:=f3.res.seven
  have y:=f3.res.free
  go_wp2
  have g:=(f3.set 0 (.int .i64 ro)).set 3 (.int .i64 ((r2:Int) + 8))
  (try simp only [Exit.inBlock,Exit.then])
  refine bodyPost_ret (results_cell_row rfl _ _ w.heap.size 38 _ (0,0) _ rfl (g.res.seven_set _ _ _ _ _ _ _) Tryz.underlying38 rfl (by kernel_rfl)) rfl ⟨rfl,?_⟩
  exact g.kp.seven_set (Nat.le_refl _) _ _ _ _ _ _ _
end Go.Proofs.YtlhpodholnfppaaGreatDoor.Td

namespace Go.Proofs.YtlhpodholnfppaaGreatDoor.Td
open Go.RowKit

theorem instr_none (s g k:Nat) (w:World) (hs:s < 65536) (hT:TabsC w) (hg:pc s 0 2 = g) (hk:pc s 13 3 = k) (hop:opsT.getD (g * 8 + k) 0 = 0):Calls Tryz.prog 170 #[.int .u16 s] w fun e w'=>e = .returned (.agg (I7 0 0 0 0 0 0 0))∧Kp none w w':=by
  have CG:=hid (fun w=>group_is s g w hs hg)
  have CK:=hid (fun w=>kind_is s k w hs hk)
  have g1:(g:Int) < 4:=by have:=pc_lt s 0 2;simp only [Nat.reducePow] at this;omega
  have k1:(k:Int) < 8:=by have:=pc_lt s 13 3;simp only [Nat.reducePow] at this;omega
  have g0:(0:Int) ≤ (g:Int):=by omega
  have k0:(0:Int) ≤ (k:Int):=by omega
  have HR:=hid hT.o
  have hx:=hid (fun (w':World) (kk:Kp none w w')=>(show w'.cell? ⟨0,g * 8 + k,none⟩ = some (.int .i64 0) by rw [← hop];exact (HR.out.kp kk) (g * 8 + k) (by show g * 8 + k < 32;omega)))
  clear hT HR hs hg hk hop
  have k2:=(Kp.refl none w).alloc (I7 0 0 0 0 0 0 0) 38
  have b2:=Has.new w (I7 0 0 0 0 0 0 0) 38
  go_enter Tryz.func170,Tryz.ntmps170
  go_wp2_with fail
  refine wp_region_hd 7 (fun w'=>Kp none w w'∧Has w' w.heap.size 38 (I7 0 0 0 0 0 0 0)∧w'.cell? ⟨0,g * 8 + k,none⟩ = some (.int .i64 0)) (by kernel_rfl) (by decide) ⟨k2.drew,b2.drew,hx.out _ k2.drew⟩ (fun hHeld=>?_)
  refine wpHd_take (i:=0) (v:=?_) rfl (by kernel_rfl) (fun _ _ _ h=>h) (Or.inl ⟨by rfl,?hy⟩) hHeld ?_
  case hy=>(intro w hSw;(try dsimp only at hSw);go_split_ands;go_simp;try (with_reducible rfl))
  (try simp only [Act.put,List.setIfInBounds_toArray,List.set_cons_zero,List.set_cons_succ])
  refine wpHd_take (i:=2) (v:=?_) rfl (by kernel_rfl) (fun _ _ _ h=>h) (Or.inl ⟨by rfl,?hy⟩) hHeld ?_
  case hy=>(intro w hSw;(try dsimp only at hSw);go_split_ands;go_simp;try (with_reducible rfl))
  (try simp only [Act.put,List.setIfInBounds_toArray,List.set_cons_zero,List.set_cons_succ])
  refine wpHd_one (i:=1) rfl (by kernel_rfl) (fun K hK=>?_)
  go_simp
  refine (CG.out _).mono ?_
  rintro e w2 ⟨rfl,hq⟩
  refine hK.out _ _ ?_ (fun hHeld=>?_)
  · exact ⟨hHeld.1.trans (kd hq),hHeld.2.1.kp (kd hq) (by simp),hx.out _ (hHeld.1.trans (kd hq))⟩
  clear hK K
  (try simp only [Act.put,List.setIfInBounds_toArray,List.set_cons_zero,List.set_cons_succ])
  refine wpHd_take (i:=4) (v:=?_) rfl (by kernel_rfl) (fun _ _ _ h=>h) (Or.inl ⟨by rfl,?hy⟩) hHeld ?_
  case hy=>(intro w hSw;(try dsimp only at hSw);go_split_ands;go_simp;try (with_reducible rfl))
  (try simp only [Act.put,List.setIfInBounds_toArray,List.set_cons_zero,List.set_cons_succ])
  refine wpHd_one (i:=3) rfl (by kernel_rfl) (fun K hK=>?_)
  go_simp
  refine (CK.out _).mono ?_
  rintro e w2 ⟨rfl,hq⟩
  refine hK.out _ _ ?_ (fun hHeld=>?_)
  · exact ⟨hHeld.1.trans (kd hq),hHeld.2.1.kp (kd hq) (by simp),hx.out _ (hHeld.1.trans (kd hq))⟩
  clear hK K
  (try simp only [Act.put,List.setIfInBounds_toArray,List.set_cons_zero,List.set_cons_succ])
  refine wpHd_take (i:=5) (v:=?_) rfl (by kernel_rfl) (fun _ _ _ h=>h) (Or.inl ⟨by rfl,?hy⟩) hHeld ?_
  case hy=>(intro w hSw;(try dsimp only at hSw);go_split_ands;go_simp;try (with_reducible rfl))
  (try simp only [Act.put,List.setIfInBounds_toArray,List.set_cons_zero,List.set_cons_succ])
  refine wpHd_take (i:=6) (v:=?_) rfl (by kernel_rfl) (fun _ _ _ h=>h) (Or.inl ⟨by rfl,?hy⟩) hHeld ?_
  case hy=>(intro w hSw;(try dsimp only at hSw);go_split_ands;go_simp;try (with_reducible rfl))
  (try simp only [Act.put,List.setIfInBounds_toArray,List.set_cons_zero,List.set_cons_succ])
  refine ⟨by kernel_rfl,?_⟩
  simp only [List.drop_succ_cons,List.drop_zero]
  obtain ⟨k3,b3,-⟩:=hHeld
  clear hx
  obtain ⟨q0,q1,q2,q3,q4,q5,q6⟩:=b3.seven
  have y:=b3.free
  go_wp2
  (try simp only [Exit.inBlock,Exit.then])
  refine bodyPost_ret (results_cell_row rfl _ _ w.heap.size 38 _ (0,0) _ rfl (b3.seven_set _ _ _ _ _ _ _) Tryz.underlying38 rfl (by kernel_rfl)) rfl ⟨rfl,?_⟩
  exact k3.seven_set (Nat.le_refl _) _ _ _ _ _ _ _

theorem instr_small (s g k:Nat) (op:Int) (w:World) (hs:s < 65536) (hT:TabsC w) (hg:pc s 0 2 = g) (hk:pc s 13 3 = k) (hop:opsT.getD (g * 8 + k) 0 = op) (h0:(op == 0) = false) (t0:((g:Int) == 0) = true) (a0 a1 a2 a3 a4 a5 a6:Int) (HM:∀ w',Kp none w w' → Calls Tryz.prog 192 #[.int .u16 s,.int .i64 op] w' fun e w''=>e = .returned (.agg (I7 a0 a1 a2 a3 a4 a5 a6))∧Kp none w' w''):Calls Tryz.prog 170 #[.int .u16 s] w fun e w'=>e = .returned (.agg (I7 a0 a1 a2 a3 a4 a5 a6))∧Kp none w w':=by
  have CG:=hid (fun w=>group_is s g w hs hg)
  have CK:=hid (fun w=>kind_is s k w hs hk)
  have g1:(g:Int) < 4:=by have:=pc_lt s 0 2;simp only [Nat.reducePow] at this;omega
  have k1:(k:Int) < 8:=by have:=pc_lt s 13 3;simp only [Nat.reducePow] at this;omega
  have g0:(0:Int) ≤ (g:Int):=by omega
  have k0:(0:Int) ≤ (k:Int):=by omega
  have HR:=hid hT.o
  have hx:=hid (fun (w':World) (kk:Kp none w w')=>(show w'.cell? ⟨0,g * 8 + k,none⟩ = some (.int .i64 op) by rw [← hop];exact (HR.out.kp kk) (g * 8 + k) (by show g * 8 + k < 32;omega)))
  clear hT HR hs hg hk hop
  have k2:=(Kp.refl none w).alloc (I7 0 0 0 0 0 0 0) 38
  have b2:=Has.new w (I7 0 0 0 0 0 0 0) 38
  have CM:=hid HM;clear HM
  go_enter Tryz.func170,Tryz.ntmps170
  go_wp2_with fail
  refine wp_region_hd 7 (fun w'=>Kp none w w'∧Has w' w.heap.size 38 (I7 0 0 0 0 0 0 0)∧w'.cell? ⟨0,g * 8 + k,none⟩ = some (.int .i64 op)) (by kernel_rfl) (by decide) ⟨k2.drew,b2.drew,hx.out _ k2.drew⟩ (fun hHeld=>?_)
  refine wpHd_take (i:=0) (v:=?_) rfl (by kernel_rfl) (fun _ _ _ h=>h) (Or.inl ⟨by rfl,?hy⟩) hHeld ?_
  case hy=>(intro w hSw;(try dsimp only at hSw);go_split_ands;go_simp;try (with_reducible rfl))
  (try simp only [Act.put,List.setIfInBounds_toArray,List.set_cons_zero,List.set_cons_succ])
  refine wpHd_take (i:=2) (v:=?_) rfl (by kernel_rfl) (fun _ _ _ h=>h) (Or.inl ⟨by rfl,?hy⟩) hHeld ?_
  case hy=>(intro w hSw;(try dsimp only at hSw);go_split_ands;go_simp;try (with_reducible rfl))
  (try simp only [Act.put,List.setIfInBounds_toArray,List.set_cons_zero,List.set_cons_succ])
  refine wpHd_one (i:=1) rfl (by kernel_rfl) (fun K hK=>?_)
  go_simp
  refine (CG.out _).mono ?_
  rintro e w2 ⟨rfl,hq⟩
  refine hK.out _ _ ?_ (fun hHeld=>?_)
  · exact ⟨hHeld.1.trans (kd hq),hHeld.2.1.kp (kd hq) (by simp),hx.out _ (hHeld.1.trans (kd hq))⟩
  clear hK K
  (try simp only [Act.put,List.setIfInBounds_toArray,List.set_cons_zero,List.set_cons_succ])
  refine wpHd_take (i:=4) (v:=?_) rfl (by kernel_rfl) (fun _ _ _ h=>h) (Or.inl ⟨by rfl,?hy⟩) hHeld ?_
  case hy=>(intro w hSw;(try dsimp only at hSw);go_split_ands;go_simp;try (with_reducible rfl))
  (try simp only [Act.put,List.setIfInBounds_toArray,List.set_cons_zero,List.set_cons_succ])
  refine wpHd_one (i:=3) rfl (by kernel_rfl) (fun K hK=>?_)
  go_simp
  refine (CK.out _).mono ?_
  rintro e w2 ⟨rfl,hq⟩
  refine hK.out _ _ ?_ (fun hHeld=>?_)
  · exact ⟨hHeld.1.trans (kd hq),hHeld.2.1.kp (kd hq) (by simp),hx.out _ (hHeld.1.trans (kd hq))⟩
  clear hK K
  (try simp only [Act.put,List.setIfInBounds_toArray,List.set_cons_zero,List.set_cons_succ])
  refine wpHd_take (i:=5) (v:=?_) rfl (by kernel_rfl) (fun _ _ _ h=>h) (Or.inl ⟨by rfl,?hy⟩) hHeld ?_
  case hy=>(intro w hSw;(try dsimp only at hSw);go_split_ands;go_simp;try (with_reducible rfl))
  (try simp only [Act.put,List.setIfInBounds_toArray,List.set_cons_zero,List.set_cons_succ])
  refine wpHd_take (i:=6) (v:=?_) rfl (by kernel_rfl) (fun _ _ _ h=>h) (Or.inl ⟨by rfl,?hy⟩) hHeld ?_
  case hy=>(intro w hSw;(try dsimp only at hSw);go_split_ands;go_simp;try (with_reducible rfl))
  (try simp only [Act.put,List.setIfInBounds_toArray,List.set_cons_zero,List.set_cons_succ])
  refine ⟨by kernel_rfl,?_⟩
  simp only [List.drop_succ_cons,List.drop_zero]
  obtain ⟨k3,b3,-⟩:=hHeld
  clear hx
  have HK:=hid k3;have HB:=hid b3;clear k3 b3
  go_wp2_with fail
  refine (CG.out _).mono ?_
  rintro e w4 ⟨rfl,hq⟩
  have k3:=HK.out.trans (kd hq);have b3:=HB.out.kp (kd hq) (by simp)
  clear HK HB hq;have HK:=hid k3;have HB:=hid b3;clear k3 b3
  go_wp2_with fail
  refine (CM.out _ HK.out).mono ?_
  rintro e w5 ⟨rfl,hq⟩
  have k3:=HK.out.trans hq;have b3:=HB.out.kp hq (by simp)
  clear HK HB hq CM CK CG
  obtain ⟨q0,q1,q2,q3,q4,q5,q6⟩:=b3.seven
  have y:=b3.free
  go_wp2
  (try simp only [Exit.inBlock,Exit.then])
  refine bodyPost_ret (results_cell_row rfl _ _ w.heap.size 38 _ (0,0) _ rfl (b3.seven_set _ _ _ _ _ _ _) Tryz.underlying38 rfl (by kernel_rfl)) rfl ⟨rfl,?_⟩
  exact k3.seven_set (Nat.le_refl _) _ _ _ _ _ _ _

theorem instr_constant (s g k:Nat) (op:Int) (w:World) (hs:s < 65536) (hT:TabsC w) (hg:pc s 0 2 = g) (hk:pc s 13 3 = k) (hop:opsT.getD (g * 8 + k) 0 = op) (h0:(op == 0) = false) (t0:((g:Int) == 0) = false) (t1:((g:Int) == 1) = true) (a0 a1 a2 a3 a4 a5 a6:Int) (HM:∀ w',Kp none w w' → Calls Tryz.prog 193 #[.int .u16 s,.int .i64 op] w' fun e w''=>e = .returned (.agg (I7 a0 a1 a2 a3 a4 a5 a6))∧Kp none w' w''):Calls Tryz.prog 170 #[.int .u16 s] w fun e w'=>e = .returned (.agg (I7 a0 a1 a2 a3 a4 a5 a6))∧Kp none w w':=by
  have CG:=hid (fun w=>group_is s g w hs hg)
  have CK:=hid (fun w=>kind_is s k w hs hk)
  have g1:(g:Int) < 4:=by have:=pc_lt s 0 2;simp only [Nat.reducePow] at this;omega
  have k1:(k:Int) < 8:=by have:=pc_lt s 13 3;simp only [Nat.reducePow] at this;omega
  have g0:(0:Int) ≤ (g:Int):=by omega
  have k0:(0:Int) ≤ (k:Int):=by omega
  have HR:=hid hT.o
  have hx:=hid (fun (w':World) (kk:Kp none w w')=>(show w'.cell? ⟨0,g * 8 + k,none⟩ = some (.int .i64 op) by rw [← hop];exact (HR.out.kp kk) (g * 8 + k) (by show g * 8 + k < 32;omega)))
  clear hT HR hs hg hk hop
  have k2:=(Kp.refl none w).alloc (I7 0 0 0 0 0 0 0) 38
  have b2:=Has.new w (I7 0 0 0 0 0 0 0) 38
  have CM:=hid HM;clear HM
  go_enter Tryz.func170,Tryz.ntmps170
  go_wp2_with fail
  refine wp_region_hd 7 (fun w'=>Kp none w w'∧Has w' w.heap.size 38 (I7 0 0 0 0 0 0 0)∧w'.cell? ⟨0,g * 8 + k,none⟩ = some (.int .i64 op)) (by kernel_rfl) (by decide) ⟨k2.drew,b2.drew,hx.out _ k2.drew⟩ (fun hHeld=>?_)
  refine wpHd_take (i:=0) (v:=?_) rfl (by kernel_rfl) (fun _ _ _ h=>h) (Or.inl ⟨by rfl,?hy⟩) hHeld ?_
  case hy=>(intro w hSw;(try dsimp only at hSw);go_split_ands;go_simp;try (with_reducible rfl))
  (try simp only [Act.put,List.setIfInBounds_toArray,List.set_cons_zero,List.set_cons_succ])
  refine wpHd_take (i:=2) (v:=?_) rfl (by kernel_rfl) (fun _ _ _ h=>h) (Or.inl ⟨by rfl,?hy⟩) hHeld ?_
  case hy=>(intro w hSw;(try dsimp only at hSw);go_split_ands;go_simp;try (with_reducible rfl))
  (try simp only [Act.put,List.setIfInBounds_toArray,List.set_cons_zero,List.set_cons_succ])
  refine wpHd_one (i:=1) rfl (by kernel_rfl) (fun K hK=>?_)
  go_simp
  refine (CG.out _).mono ?_
  rintro e w2 ⟨rfl,hq⟩
  refine hK.out _ _ ?_ (fun hHeld=>?_)
  · exact ⟨hHeld.1.trans (kd hq),hHeld.2.1.kp (kd hq) (by simp),hx.out _ (hHeld.1.trans (kd hq))⟩
  clear hK K
  (try simp only [Act.put,List.setIfInBounds_toArray,List.set_cons_zero,List.set_cons_succ])
  refine wpHd_take (i:=4) (v:=?_) rfl (by kernel_rfl) (fun _ _ _ h=>h) (Or.inl ⟨by rfl,?hy⟩) hHeld ?_
  case hy=>(intro w hSw;(try dsimp only at hSw);go_split_ands;go_simp;try (with_reducible rfl))
  (try simp only [Act.put,List.setIfInBounds_toArray,List.set_cons_zero,List.set_cons_succ])
  refine wpHd_one (i:=3) rfl (by kernel_rfl) (fun K hK=>?_)
  go_simp
  refine (CK.out _).mono ?_
  rintro e w2 ⟨rfl,hq⟩
  refine hK.out _ _ ?_ (fun hHeld=>?_)
  · exact ⟨hHeld.1.trans (kd hq),hHeld.2.1.kp (kd hq) (by simp),hx.out _ (hHeld.1.trans (kd hq))⟩
  clear hK K
  (try simp only [Act.put,List.setIfInBounds_toArray,List.set_cons_zero,List.set_cons_succ])
  refine wpHd_take (i:=5) (v:=?_) rfl (by kernel_rfl) (fun _ _ _ h=>h) (Or.inl ⟨by rfl,?hy⟩) hHeld ?_
  case hy=>(intro w hSw;(try dsimp only at hSw);go_split_ands;go_simp;try (with_reducible rfl))
  (try simp only [Act.put,List.setIfInBounds_toArray,List.set_cons_zero,List.set_cons_succ])
  refine wpHd_take (i:=6) (v:=?_) rfl (by kernel_rfl) (fun _ _ _ h=>h) (Or.inl ⟨by rfl,?hy⟩) hHeld ?_
  case hy=>(intro w hSw;(try dsimp only at hSw);go_split_ands;go_simp;try (with_reducible rfl))
  (try simp only [Act.put,List.setIfInBounds_toArray,List.set_cons_zero,List.set_cons_succ])
  refine ⟨by kernel_rfl,?_⟩
  simp only [List.drop_succ_cons,List.drop_zero]
  obtain ⟨k3,b3,-⟩:=hHeld
  clear hx
  have HK:=hid k3;have HB:=hid b3;clear k3 b3
  go_wp2_with fail
  refine (CG.out _).mono ?_
  rintro e w4 ⟨rfl,hq⟩
  have k3:=HK.out.trans (kd hq);have b3:=HB.out.kp (kd hq) (by simp)
  clear HK HB hq;have HK:=hid k3;have HB:=hid b3;clear k3 b3
  go_wp2_with fail
  refine (CM.out _ HK.out).mono ?_
  rintro e w5 ⟨rfl,hq⟩
  have k3:=HK.out.trans hq;have b3:=HB.out.kp hq (by simp)
  clear HK HB hq CM CK CG
  obtain ⟨q0,q1,q2,q3,q4,q5,q6⟩:=b3.seven
  have y:=b3.free
  go_wp2
  (try simp only [Exit.inBlock,Exit.then])
  refine bodyPost_ret (results_cell_row rfl _ _ w.heap.size 38 _ (0,0) _ rfl (b3.seven_set _ _ _ _ _ _ _) Tryz.underlying38 rfl (by kernel_rfl)) rfl ⟨rfl,?_⟩
  exact k3.seven_set (Nat.le_refl _) _ _ _ _ _ _ _

theorem instr_whole (s g k:Nat) (op:Int) (w:World) (hs:s < 65536) (hT:TabsC w) (hg:pc s 0 2 = g) (hk:pc s 13 3 = k) (hop:opsT.getD (g * 8 + k) 0 = op) (h0:(op == 0) = false) (t0:((g:Int) == 0) = false) (t1:((g:Int) == 1) = false) (a0 a1 a2 a3 a4 a5 a6:Int) (HM:∀ w',Kp none w w' → Calls Tryz.prog 194 #[.int .u16 s,.int .i64 op] w' fun e w''=>e = .returned (.agg (I7 a0 a1 a2 a3 a4 a5 a6))∧Kp none w' w''):Calls Tryz.prog 170 #[.int .u16 s] w fun e w'=>e = .returned (.agg (I7 a0 a1 a2 a3 a4 a5 a6))∧Kp none w w':=by
  have CG:=hid (fun w=>group_is s g w hs hg)
  have CK:=hid (fun w=>kind_is s k w hs hk)
  have g1:(g:Int) < 4:=by have:=pc_lt s 0 2;simp only [Nat.reducePow] at this;omega
  have k1:(k:Int) < 8:=by have:=pc_lt s 13 3;simp only [Nat.reducePow] at this;omega
  have g0:(0:Int) ≤ (g:Int):=by omega
  have k0:(0:Int) ≤ (k:Int):=by omega
  have HR:=hid hT.o
  have hx:=hid (fun (w':World) (kk:Kp none w w')=>(show w'.cell? ⟨0,g * 8 + k,none⟩ = some (.int .i64 op) by rw [← hop];exact (HR.out.kp kk) (g * 8 + k) (by show g * 8 + k < 32;omega)))
  clear hT HR hs hg hk hop
  have k2:=(Kp.refl none w).alloc (I7 0 0 0 0 0 0 0) 38
  have b2:=Has.new w (I7 0 0 0 0 0 0 0) 38
  have CM:=hid HM;clear HM
  go_enter Tryz.func170,Tryz.ntmps170
  go_wp2_with fail
  refine wp_region_hd 7 (fun w'=>Kp none w w'∧Has w' w.heap.size 38 (I7 0 0 0 0 0 0 0)∧w'.cell? ⟨0,g * 8 + k,none⟩ = some (.int .i64 op)) (by kernel_rfl) (by decide) ⟨k2.drew,b2.drew,hx.out _ k2.drew⟩ (fun hHeld=>?_)
  refine wpHd_take (i:=0) (v:=?_) rfl (by kernel_rfl) (fun _ _ _ h=>h) (Or.inl ⟨by rfl,?hy⟩) hHeld ?_
  case hy=>(intro w hSw;(try dsimp only at hSw);go_split_ands;go_simp;try (with_reducible rfl))
  (try simp only [Act.put,List.setIfInBounds_toArray,List.set_cons_zero,List.set_cons_succ])
  refine wpHd_take (i:=2) (v:=?_) rfl (by kernel_rfl) (fun _ _ _ h=>h) (Or.inl ⟨by rfl,?hy⟩) hHeld ?_
  case hy=>(intro w hSw;(try dsimp only at hSw);go_split_ands;go_simp;try (with_reducible rfl))
  (try simp only [Act.put,List.setIfInBounds_toArray,List.set_cons_zero,List.set_cons_succ])
  refine wpHd_one (i:=1) rfl (by kernel_rfl) (fun K hK=>?_)
  go_simp
  refine (CG.out _).mono ?_
  rintro e w2 ⟨rfl,hq⟩
  refine hK.out _ _ ?_ (fun hHeld=>?_)
  · exact ⟨hHeld.1.trans (kd hq),hHeld.2.1.kp (kd hq) (by simp),hx.out _ (hHeld.1.trans (kd hq))⟩
  clear hK K
  (try simp only [Act.put,List.setIfInBounds_toArray,List.set_cons_zero,List.set_cons_succ])
  refine wpHd_take (i:=4) (v:=?_) rfl (by kernel_rfl) (fun _ _ _ h=>h) (Or.inl ⟨by rfl,?hy⟩) hHeld ?_
  case hy=>(intro w hSw;(try dsimp only at hSw);go_split_ands;go_simp;try (with_reducible rfl))
  (try simp only [Act.put,List.setIfInBounds_toArray,List.set_cons_zero,List.set_cons_succ])
  refine wpHd_one (i:=3) rfl (by kernel_rfl) (fun K hK=>?_)
  go_simp
  refine (CK.out _).mono ?_
  rintro e w2 ⟨rfl,hq⟩
  refine hK.out _ _ ?_ (fun hHeld=>?_)
  · exact ⟨hHeld.1.trans (kd hq),hHeld.2.1.kp (kd hq) (by simp),hx.out _ (hHeld.1.trans (kd hq))⟩
  clear hK K
  (try simp only [Act.put,List.setIfInBounds_toArray,List.set_cons_zero,List.set_cons_succ])
  refine wpHd_take (i:=5) (v:=?_) rfl (by kernel_rfl) (fun _ _ _ h=>h) (Or.inl ⟨by rfl,?hy⟩) hHeld ?_
  case hy=>(intro w hSw;(try dsimp only at hSw);go_split_ands;go_simp;try (with_reducible rfl))
  (try simp only [Act.put,List.setIfInBounds_toArray,List.set_cons_zero,List.set_cons_succ])
  refine wpHd_take (i:=6) (v:=?_) rfl (by kernel_rfl) (fun _ _ _ h=>h) (Or.inl ⟨by rfl,?hy⟩) hHeld ?_
  case hy=>(intro w hSw;(try dsimp only at hSw);go_split_ands;go_simp;try (with_reducible rfl))
  (try simp only [Act.put,List.setIfInBounds_toArray,List.set_cons_zero,List.set_cons_succ])
  refine ⟨by kernel_rfl,?_⟩
  simp only [List.drop_succ_cons,List.drop_zero]
  obtain ⟨k3,b3,-⟩:=hHeld
  clear hx
  have HK:=hid k3;have HB:=hid b3;clear k3 b3
  go_wp2_with fail
  refine (CG.out _).mono ?_
  rintro e w4 ⟨rfl,hq⟩
  have k3:=HK.out.trans (kd hq);have b3:=HB.out.kp (kd hq) (by simp)
  clear HK HB hq;have HK:=hid k3;have HB:=hid b3;clear k3 b3
  go_wp2_with fail
  refine (CM.out _ HK.out).mono ?_
  rintro e w5 ⟨rfl,hq⟩
  have k3:=HK.out.trans hq;have b3:=HB.out.kp hq (by simp)
  clear HK HB hq CM CK CG
  obtain ⟨q0,q1,q2,q3,q4,q5,q6⟩:=b3.seven
  have y:=b3.free
  go_wp2
  (try simp only [Exit.inBlock,Exit.then])
  refine bodyPost_ret (results_cell_row rfl _ _ w.heap.size 38 _ (0,0) _ rfl (b3.seven_set _ _ _ _ _ _ _) Tryz.underlying38 rfl (by kernel_rfl)) rfl ⟨rfl,?_⟩
  exact k3.seven_set (Nat.le_refl _) _ _ _ _ _ _ _

structure Sh where
  op:Int
  rd:Int
  r1:Int
  r2:Int
  im:Int
deriving DecidableEq
abbrev Sh.cells (i:Sh) (sz:Int):Array Value:=I7 i.op i.rd i.r1 i.r2 i.im 0 sz
def Sh.zero:Sh:=⟨0,0,0,0,0⟩
def exReckon (s:Nat):Sh:=
  if pc s 10 2 = 0 then ⟨29,(pc s 7 3:Nat) + 8,(pc s 7 3:Nat) + 8,0,(shiftN s:Nat)⟩
  else if pc s 10 2 = 1 then ⟨30,(pc s 7 3:Nat) + 8,(pc s 7 3:Nat) + 8,0,(shiftN s:Nat)⟩
  else if pc s 10 2 = 2 then ⟨27,(pc s 7 3:Nat) + 8,(pc s 7 3:Nat) + 8,0,low (shiftN s:Nat) 6⟩
  else ⟨recT.getD (reckN s) 0,(pc s 7 3:Nat) + 8,(pc s 7 3:Nat) + 8,(pc s 2 3:Nat) + 8,0⟩
def exMove (s:Nat):Sh:=
  if pc s 2 5 = 0 then
    (if pc s 7 5 = 0 then (if pc s 12 1 = 1 then ⟨88,0,0,0,0⟩ else Sh.zero)
     else (if pc s 12 1 = 1 then ⟨4,1,(pc s 7 5:Nat),0,0⟩ else ⟨4,0,(pc s 7 5:Nat),0,0⟩))
  else (if pc s 12 1 = 1 then ⟨31,(pc s 7 5:Nat),(pc s 7 5:Nat),(pc s 2 5:Nat),0⟩ else ⟨31,(pc s 7 5:Nat),0,(pc s 2 5:Nat),0⟩)
def exUpper (s:Nat):Sh:=
  if low (shiftN s:Nat) 6 = 0 then Sh.zero
  else if pc s 7 5 = 2 then ⟨22,2,2,0,low (stackN s:Nat) 10⟩
  else ⟨1,(pc s 7 5:Nat),0,0,low (shiftN s:Nat) 6 * 4096⟩
def ex (s:Nat):Sh:=
  match pc s 0 2 * 8 + pc s 13 3 with
  | 0=>if frameN s = 0 then Sh.zero else ⟨22,(pc s 2 3:Nat) + 8,2,0,(frameN s:Nat)⟩
  | 2=>⟨13,(pc s 2 3:Nat) + 8,(pc s 7 3:Nat) + 8,0,(wordsN s:Nat)⟩
  | 3=>⟨14,(pc s 2 3:Nat) + 8,(pc s 7 3:Nat) + 8,0,(doublesN s:Nat)⟩
  | 6=>⟨20,0,(pc s 7 3:Nat) + 8,(pc s 2 3:Nat) + 8,(wordsN s:Nat)⟩
  | 7=>⟨21,0,(pc s 7 3:Nat) + 8,(pc s 2 3:Nat) + 8,(doublesN s:Nat)⟩
  | 8=>⟨22,(pc s 7 5:Nat),(pc s 7 5:Nat),0,low (shiftN s:Nat) 6⟩
  | 9=>if pc s 7 5 = 0 then Sh.zero else ⟨41,(pc s 7 5:Nat),(pc s 7 5:Nat),0,low (shiftN s:Nat) 6⟩
  | 10=>⟨22,(pc s 7 5:Nat),0,0,low (shiftN s:Nat) 6⟩
  | 11=>exUpper s
  | 12=>exReckon s
  | 13=>⟨3,0,0,0,low (jumpN s:Nat) 12⟩
  | 14=>⟨5,0,(pc s 7 3:Nat) + 8,0,low (branchN s:Nat) 9⟩
  | 15=>⟨6,0,(pc s 7 3:Nat) + 8,0,low (branchN s:Nat) 9⟩
  | 16=>⟨28,(pc s 7 5:Nat),(pc s 7 5:Nat),0,(shiftN s:Nat)⟩
  | 18=>if pc s 7 5 = 0 then Sh.zero else ⟨13,(pc s 7 5:Nat),2,0,(loadW s:Nat)⟩
  | 19=>if pc s 7 5 = 0 then Sh.zero else ⟨14,(pc s 7 5:Nat),2,0,(loadD s:Nat)⟩
  | 20=>exMove s
  | 22=>⟨20,0,2,(pc s 2 5:Nat),(storeW s:Nat)⟩
  | 23=>⟨21,0,2,(pc s 2 5:Nat),(storeD s:Nat)⟩
  | _=>Sh.zero
theorem top_bit (s k:Nat) (hk:pc s 13 3 = k):pc s 15 1 = k / 4:=by subst hk;unfold pc;omega
theorem dbl_bit (s k:Nat) (hk:pc s 13 3 = k):pc s 13 1 = k % 2:=by subst hk;unfold pc;omega
theorem ne0 {v:Nat} (h:¬ v = 0):((v:Int) == 0) = false:=by simp;omega
theorem ne0' {v:Nat} (h:¬ v = 0):((v:Int) != 0) = true:=by simp;omega
theorem bit2 (s:Nat) (h:¬ pc s 12 1 = 1):pc s 12 1 = 0:=by have:=pc_lt s 12 1;simp only [Nat.reducePow] at this;omega

theorem instruction_any (s:Nat) (w:World) (hs:s < 65536) (hT:TabsC w):Calls Tryz.prog 170 #[.int .u16 s] w fun e w'=>e = .returned (.agg ((ex s).cells 0))∧Kp none w w':=by
  have hg:=pc_lt s 0 2
  have hk:=pc_lt s 13 3
  simp only [Nat.reducePow] at hg hk
  have hE:ex s = ex s:=rfl
  conv at hE=>rhs;unfold ex
  obtain ⟨g,eg⟩:∃ g,pc s 0 2 = g:=⟨_,rfl⟩
  obtain ⟨k,ek⟩:∃ k,pc s 13 3 = k:=⟨_,rfl⟩
  have e15:=top_bit s k ek
  have e13:=dbl_bit s k ek
  rw [eg] at hg hE
  rw [ek] at hk hE
  have hgs:g = 0 ∨ g = 1 ∨ g = 2 ∨ g = 3:=by omega
  have hks:k = 0 ∨ k = 1 ∨ k = 2 ∨ k = 3 ∨ k = 4 ∨ k = 5 ∨ k = 6 ∨ k = 7:=by omega
  clear hg hk
  rcases hgs with rfl | rfl | rfl | rfl
  · rcases hks with rfl | rfl | rfl | rfl | rfl | rfl | rfl | rfl
    · by_cases h:frameN s = 0
      · have hE2:ex s = Sh.zero:=by rw [hE];exact if_pos h
        rw [hE2];exact (instr_small s 0 0 22 w hs hT eg ek rfl (by decide) (by decide) _ _ _ _ _ _ _ (fun w' kw=>small_none s 22 w' hs ek h))
      · have hE2:ex s = ⟨22,(pc s 2 3:Nat) + 8,2,0,(frameN s:Nat)⟩:=by rw [hE];exact if_neg h
        rw [hE2];exact (instr_small s 0 0 22 w hs hT eg ek rfl (by decide) (by decide) _ _ _ _ _ _ _ (fun w' kw=>small_add s 22 w' hs ek (ne0 h)))
    · rw [hE];exact (instr_none s 0 1 w hs hT eg ek rfl)
    · rw [hE];exact (instr_small s 0 2 13 w hs hT eg ek rfl (by decide) (by decide) _ _ _ _ _ _ _ (fun w' kw=>small_load s 13 w' hs 2 ek (by decide) e15 _ (fun w''=>offset_w s w'' hs e13)))
    · rw [hE];exact (instr_small s 0 3 14 w hs hT eg ek rfl (by decide) (by decide) _ _ _ _ _ _ _ (fun w' kw=>small_load s 14 w' hs 3 ek (by decide) e15 _ (fun w''=>offset_d s w'' hs e13)))
    · rw [hE];exact (instr_none s 0 4 w hs hT eg ek rfl)
    · rw [hE];exact (instr_none s 0 5 w hs hT eg ek rfl)
    · rw [hE];exact (instr_small s 0 6 20 w hs hT eg ek rfl (by decide) (by decide) _ _ _ _ _ _ _ (fun w' kw=>small_store s 20 w' hs 6 ek (by decide) e15 _ (fun w''=>offset_w s w'' hs e13)))
    · rw [hE];exact (instr_small s 0 7 21 w hs hT eg ek rfl (by decide) (by decide) _ _ _ _ _ _ _ (fun w' kw=>small_store s 21 w' hs 7 ek (by decide) e15 _ (fun w''=>offset_d s w'' hs e13)))
  · rcases hks with rfl | rfl | rfl | rfl | rfl | rfl | rfl | rfl
    · rw [hE];exact (instr_constant s 1 0 22 w hs hT eg ek rfl (by decide) (by decide) (by decide) _ _ _ _ _ _ _ (fun w' kw=>constant_addi s w' hs ek))
    · by_cases h:pc s 7 5 = 0
      · have hE2:ex s = Sh.zero:=by rw [hE];exact if_pos h
        rw [hE2];exact (instr_constant s 1 1 41 w hs hT eg ek rfl (by decide) (by decide) (by decide) _ _ _ _ _ _ _ (fun w' kw=>constant_none s w' hs ek h))
      · have hE2:ex s = ⟨41,(pc s 7 5:Nat),(pc s 7 5:Nat),0,low (shiftN s:Nat) 6⟩:=by rw [hE];exact if_neg h
        rw [hE2];exact (instr_constant s 1 1 41 w hs hT eg ek rfl (by decide) (by decide) (by decide) _ _ _ _ _ _ _ (fun w' kw=>constant_addiw s w' hs ek (ne0 h) (ne0' h)))
    · rw [hE];exact (instr_constant s 1 2 22 w hs hT eg ek rfl (by decide) (by decide) (by decide) _ _ _ _ _ _ _ (fun w' kw=>constant_li s 22 w' hs ek))
    · have hE1:ex s = exUpper s:=hE
      by_cases h:low (shiftN s:Nat) 6 = 0
      · have hE2:ex s = Sh.zero:=by rw [hE1];exact if_pos h
        rw [hE2];exact (instr_constant s 1 3 1 w hs hT eg ek rfl (by decide) (by decide) (by decide) _ _ _ _ _ _ _ (fun w' kw=>constant_upper s 1 w' hs ek _ _ _ _ _ _ _ (fun w'' _=>upper_none s 1 w'' hs h)))
      · by_cases h2:pc s 7 5 = 2
        · have hE2:ex s = ⟨22,2,2,0,low (stackN s:Nat) 10⟩:=by rw [hE1];unfold exUpper;rw [if_neg h,if_pos h2]
          rw [hE2];exact (instr_constant s 1 3 1 w hs hT eg ek rfl (by decide) (by decide) (by decide) _ _ _ _ _ _ _ (fun w' kw=>constant_upper s 1 w' hs ek _ _ _ _ _ _ _ (fun w'' _=>upper_stack s 1 w'' hs (by simpa using h) h2)))
        · have hE2:ex s = ⟨1,(pc s 7 5:Nat),0,0,low (shiftN s:Nat) 6 * 4096⟩:=by rw [hE1];unfold exUpper;rw [if_neg h,if_neg h2]
          rw [hE2];exact (instr_constant s 1 3 1 w hs hT eg ek rfl (by decide) (by decide) (by decide) _ _ _ _ _ _ _ (fun w' kw=>constant_upper s 1 w' hs ek _ _ _ _ _ _ _ (fun w'' _=>upper_lui s 1 w'' hs (by simpa using h) (by simp;omega))))
    · have hE1:ex s = exReckon s:=hE
      have hj:=pc_lt s 10 2
      simp only [Nat.reducePow] at hj
      by_cases j0:pc s 10 2 = 0
      · have hE2:ex s = ⟨29,(pc s 7 3:Nat) + 8,(pc s 7 3:Nat) + 8,0,(shiftN s:Nat)⟩:=by rw [hE1];exact if_pos j0
        rw [hE2];exact (instr_constant s 1 4 27 w hs hT eg ek rfl (by decide) (by decide) (by decide) _ _ _ _ _ _ _ (fun w' kw=>constant_reckon s 27 w' hs ek _ _ _ _ _ _ _ (fun w'' _=>reckon_srli s 27 w'' hs j0)))
      by_cases j1:pc s 10 2 = 1
      · have hE2:ex s = ⟨30,(pc s 7 3:Nat) + 8,(pc s 7 3:Nat) + 8,0,(shiftN s:Nat)⟩:=by rw [hE1];unfold exReckon;rw [if_neg j0,if_pos j1]
        rw [hE2];exact (instr_constant s 1 4 27 w hs hT eg ek rfl (by decide) (by decide) (by decide) _ _ _ _ _ _ _ (fun w' kw=>constant_reckon s 27 w' hs ek _ _ _ _ _ _ _ (fun w'' _=>reckon_srai s 27 w'' hs j1)))
      by_cases j2:pc s 10 2 = 2
      · have hE2:ex s = ⟨27,(pc s 7 3:Nat) + 8,(pc s 7 3:Nat) + 8,0,low (shiftN s:Nat) 6⟩:=by rw [hE1];unfold exReckon;rw [if_neg j0,if_neg j1,if_pos j2]
        rw [hE2];exact (instr_constant s 1 4 27 w hs hT eg ek rfl (by decide) (by decide) (by decide) _ _ _ _ _ _ _ (fun w' kw=>constant_reckon s 27 w' hs ek _ _ _ _ _ _ _ (fun w'' _=>reckon_andi s 27 w'' hs j2)))
      have hE2:ex s = ⟨recT.getD (reckN s) 0,(pc s 7 3:Nat) + 8,(pc s 7 3:Nat) + 8,(pc s 2 3:Nat) + 8,0⟩:=by rw [hE1];unfold exReckon;rw [if_neg j0,if_neg j1,if_neg j2]
      rw [hE2];exact (instr_constant s 1 4 27 w hs hT eg ek rfl (by decide) (by decide) (by decide) _ _ _ _ _ _ _ (fun w' kw=>constant_reckon s 27 w' hs ek _ _ _ _ _ _ _ (fun w'' kw2=>reckon_two s 27 w'' hs (by omega) ((hT.kp kw).kp kw2))))
    · rw [hE];exact (instr_constant s 1 5 3 w hs hT eg ek rfl (by decide) (by decide) (by decide) _ _ _ _ _ _ _ (fun w' kw=>constant_jump s 3 w' hs ek))
    · rw [hE];exact (instr_constant s 1 6 5 w hs hT eg ek rfl (by decide) (by decide) (by decide) _ _ _ _ _ _ _ (fun w' kw=>constant_beq s w' hs ek))
    · rw [hE];exact (instr_constant s 1 7 6 w hs hT eg ek rfl (by decide) (by decide) (by decide) _ _ _ _ _ _ _ (fun w' kw=>constant_bne s w' hs ek))
  · rcases hks with rfl | rfl | rfl | rfl | rfl | rfl | rfl | rfl
    · rw [hE];exact (instr_whole s 2 0 28 w hs hT eg ek rfl (by decide) (by decide) (by decide) _ _ _ _ _ _ _ (fun w' kw=>whole_shift s 28 w' hs ek))
    · rw [hE];exact (instr_none s 2 1 w hs hT eg ek rfl)
    · by_cases h:pc s 7 5 = 0
      · have hE2:ex s = Sh.zero:=by rw [hE];exact if_pos h
        rw [hE2];exact (instr_whole s 2 2 13 w hs hT eg ek rfl (by decide) (by decide) (by decide) _ _ _ _ _ _ _ (fun w' kw=>whole_none s 13 w' hs 2 ek (by decide) (by decide) e15 h))
      · have hE2:ex s = ⟨13,(pc s 7 5:Nat),2,0,(loadW s:Nat)⟩:=by rw [hE];exact if_neg h
        rw [hE2];exact (instr_whole s 2 2 13 w hs hT eg ek rfl (by decide) (by decide) (by decide) _ _ _ _ _ _ _ (fun w' kw=>whole_load s 13 w' hs 2 ek (by decide) (by decide) e15 _ (fun w''=>loadOffset_w s w'' hs e13) (ne0 h) (ne0' h)))
    · by_cases h:pc s 7 5 = 0
      · have hE2:ex s = Sh.zero:=by rw [hE];exact if_pos h
        rw [hE2];exact (instr_whole s 2 3 14 w hs hT eg ek rfl (by decide) (by decide) (by decide) _ _ _ _ _ _ _ (fun w' kw=>whole_none s 14 w' hs 3 ek (by decide) (by decide) e15 h))
      · have hE2:ex s = ⟨14,(pc s 7 5:Nat),2,0,(loadD s:Nat)⟩:=by rw [hE];exact if_neg h
        rw [hE2];exact (instr_whole s 2 3 14 w hs hT eg ek rfl (by decide) (by decide) (by decide) _ _ _ _ _ _ _ (fun w' kw=>whole_load s 14 w' hs 3 ek (by decide) (by decide) e15 _ (fun w''=>loadOffset_d s w'' hs e13) (ne0 h) (ne0' h)))
    · have hE1:ex s = exMove s:=hE
      by_cases h2:pc s 2 5 = 0
      · by_cases hr:pc s 7 5 = 0
        · by_cases hb:pc s 12 1 = 1
          · skip
            have hE2:ex s = ⟨88,0,0,0,0⟩:=by rw [hE1];unfold exMove;rw [if_pos h2,if_pos hr,if_pos hb]
            rw [hE2];exact (instr_whole s 2 4 31 w hs hT eg ek rfl (by decide) (by decide) (by decide) _ _ _ _ _ _ _ (fun w' kw=>whole_move s 31 w' hs ek _ _ _ _ _ _ _ (fun w'' _=>move_break s 31 w'' hs hb h2 hr)))
          · skip
            have hE2:ex s = Sh.zero:=by rw [hE1];unfold exMove;rw [if_pos h2,if_pos hr,if_neg hb]
            rw [hE2];exact (instr_whole s 2 4 31 w hs hT eg ek rfl (by decide) (by decide) (by decide) _ _ _ _ _ _ _ (fun w' kw=>whole_move s 31 w' hs ek _ _ _ _ _ _ _ (fun w'' _=>move_none s 31 w'' hs (bit2 s hb) h2 hr)))
        · by_cases hb:pc s 12 1 = 1
          · skip
            have hE2:ex s = ⟨4,1,(pc s 7 5:Nat),0,0⟩:=by rw [hE1];unfold exMove;rw [if_pos h2,if_neg hr,if_pos hb]
            rw [hE2];exact (instr_whole s 2 4 31 w hs hT eg ek rfl (by decide) (by decide) (by decide) _ _ _ _ _ _ _ (fun w' kw=>whole_move s 31 w' hs ek _ _ _ _ _ _ _ (fun w'' _=>move_jalr s 31 w'' hs hb h2 (ne0 hr) (ne0' hr))))
          · skip
            have hE2:ex s = ⟨4,0,(pc s 7 5:Nat),0,0⟩:=by rw [hE1];unfold exMove;rw [if_pos h2,if_neg hr,if_neg hb]
            rw [hE2];exact (instr_whole s 2 4 31 w hs hT eg ek rfl (by decide) (by decide) (by decide) _ _ _ _ _ _ _ (fun w' kw=>whole_move s 31 w' hs ek _ _ _ _ _ _ _ (fun w'' _=>move_jr s 31 w'' hs (bit2 s hb) h2 (ne0 hr) (ne0' hr))))
      · by_cases hb:pc s 12 1 = 1
        · skip
          have hE2:ex s = ⟨31,(pc s 7 5:Nat),(pc s 7 5:Nat),(pc s 2 5:Nat),0⟩:=by rw [hE1];unfold exMove;rw [if_neg h2,if_pos hb]
          rw [hE2];exact (instr_whole s 2 4 31 w hs hT eg ek rfl (by decide) (by decide) (by decide) _ _ _ _ _ _ _ (fun w' kw=>whole_move s 31 w' hs ek _ _ _ _ _ _ _ (fun w'' _=>move_add s 31 w'' hs hb (ne0 h2) (ne0' h2))))
        · skip
          have hE2:ex s = ⟨31,(pc s 7 5:Nat),0,(pc s 2 5:Nat),0⟩:=by rw [hE1];unfold exMove;rw [if_neg h2,if_neg hb]
          rw [hE2];exact (instr_whole s 2 4 31 w hs hT eg ek rfl (by decide) (by decide) (by decide) _ _ _ _ _ _ _ (fun w' kw=>whole_move s 31 w' hs ek _ _ _ _ _ _ _ (fun w'' _=>move_mv s 31 w'' hs (bit2 s hb) (ne0 h2) (ne0' h2))))
    · rw [hE];exact (instr_none s 2 5 w hs hT eg ek rfl)
    · rw [hE];exact (instr_whole s 2 6 20 w hs hT eg ek rfl (by decide) (by decide) (by decide) _ _ _ _ _ _ _ (fun w' kw=>whole_store s 20 w' hs 6 ek (by decide) (by decide) e15 _ (fun w''=>storeOffset_w s w'' hs e13)))
    · rw [hE];exact (instr_whole s 2 7 21 w hs hT eg ek rfl (by decide) (by decide) (by decide) _ _ _ _ _ _ _ (fun w' kw=>whole_store s 21 w' hs 7 ek (by decide) (by decide) e15 _ (fun w''=>storeOffset_d s w'' hs e13)))
  · rcases hks with rfl | rfl | rfl | rfl | rfl | rfl | rfl | rfl
    · rw [hE];exact (instr_none s 3 0 w hs hT eg ek rfl)
    · rw [hE];exact (instr_none s 3 1 w hs hT eg ek rfl)
    · rw [hE];exact (instr_none s 3 2 w hs hT eg ek rfl)
    · rw [hE];exact (instr_none s 3 3 w hs hT eg ek rfl)
    · rw [hE];exact (instr_none s 3 4 w hs hT eg ek rfl)
    · rw [hE];exact (instr_none s 3 5 w hs hT eg ek rfl)
    · rw [hE];exact (instr_none s 3 6 w hs hT eg ek rfl)
    · rw [hE];exact (instr_none s 3 7 w hs hT eg ek rfl)
end Go.Proofs.YtlhpodholnfppaaGreatDoor.Td
