/-
  Contracts of the kinds of short instructions.
-/
import Derived.Test.YtlhpodholnfppaaGreatDoorT15
import Derived.Lib.Hide
set_option linter.unusedVariables false
set_option linter.unusedSimpArgs false
set_option maxHeartbeats 16000000
open Go.Lib (hid)
namespace Go.Proofs.YtlhpodholnfppaaGreatDoor.Td
open Go.RowKit
theorem kd {w w':World} (h:∃ q,w' = w.drewN q):Kp none w w':=by
  obtain ⟨q,rfl⟩:=h;exact (Kp.refl _ _).drewN _

theorem small_none (s:Nat) (op:Int) (w:World) (hs:s < 65536) (hk:pc s 13 3 = 0) (hf:frameN s = 0):Calls Tryz.prog 192 #[.int .u16 s,.int .i64 op] w fun e w'=>e = .returned (.agg (I7 0 0 0 0 0 0 0))∧Kp none w w':=by
  have CK:=hid (fun w=>kind_is s 0 w hs hk)
  have CF:=hid (fun w=>frame_any s w hs)
  rw [hf] at CF
  clear hf hk
  clear hs
  have k:=(Kp.refl none w).alloc (I7 0 0 0 0 0 0 0) 38
  have b:=Has.new w (I7 0 0 0 0 0 0 0) 38
  have HK:=hid k;have HB:=hid b;clear k b
  go_enter Tryz.func192,Tryz.ntmps192
  go_wp2_with fail
  refine (CK.out _).mono ?_
  rintro e w1 ⟨rfl,hq⟩
  have k:=HK.out.trans (kd hq);have b:=HB.out.kp (kd hq) (by simp)
  clear HK HB hq;have HK:=hid k;have HB:=hid b;clear k b
  go_wp2_with fail
  refine (CF.out _).mono ?_
  rintro e w2 ⟨rfl,hq⟩
  have k:=HK.out.trans (kd hq);have b:=HB.out.kp (kd hq) (by simp)
  clear HK HB hq;have HK:=hid k;have HB:=hid b;clear k b
  have b:=HB.out;have k:=HK.out;clear HB HK
  obtain ⟨q0,q1,q2,q3,q4,q5,q6⟩:=b.seven
  have y:=b.free
  go_wp2
  (try simp only [Exit.inBlock,Exit.then])
  refine bodyPost_ret (results_cell_row rfl _ _ w.heap.size 38 _ (0,0) _ rfl (b.seven_set _ _ _ _ _ _ _) Tryz.underlying38 rfl (by kernel_rfl)) rfl ⟨rfl,?_⟩
  exact k.seven_set (Nat.le_refl _) _ _ _ _ _ _ _

theorem small_add (s:Nat) (op:Int) (w:World) (hs:s < 65536) (hk:pc s 13 3 = 0) (hf:(((frameN s:Nat):Int) == 0) = false):Calls Tryz.prog 192 #[.int .u16 s,.int .i64 op] w fun e w'=>e = .returned (.agg (I7 op ((pc s 2 3:Nat) + 8) 2 0 (frameN s:Nat) 0 0))∧Kp none w w':=by
  have CK:=hid (fun w=>kind_is s 0 w hs hk)
  have CF:=hid (fun w=>frame_any s w hs)
  generalize frameN s = f at *
  have CR:=hid (fun w=>smallRd_is s _ w hs rfl)
  generalize pc s 2 3 = r at *
  clear hk
  clear hs
  have k:=(Kp.refl none w).alloc (I7 0 0 0 0 0 0 0) 38
  have b:=Has.new w (I7 0 0 0 0 0 0 0) 38
  have HK:=hid k;have HB:=hid b;clear k b
  go_enter Tryz.func192,Tryz.ntmps192
  go_wp2_with fail
  refine (CK.out _).mono ?_
  rintro e w1 ⟨rfl,hq⟩
  have k:=HK.out.trans (kd hq);have b:=HB.out.kp (kd hq) (by simp)
  clear HK HB hq;have HK:=hid k;have HB:=hid b;clear k b
  go_wp2_with fail
  refine (CF.out _).mono ?_
  rintro e w2 ⟨rfl,hq⟩
  have k:=HK.out.trans (kd hq);have b:=HB.out.kp (kd hq) (by simp)
  clear HK HB hq;have HK:=hid k;have HB:=hid b;clear k b
  go_wp2_with fail
  refine (CK.out _).mono ?_
  rintro e w3 ⟨rfl,hq⟩
  have k:=HK.out.trans (kd hq);have b:=HB.out.kp (kd hq) (by simp)
  clear HK HB hq;have HK:=hid k;have HB:=hid b;clear k b
  go_wp2_with fail
  refine (CR.out _).mono ?_
  rintro e w4 ⟨rfl,hq⟩
  have k:=HK.out.trans (kd hq);have b:=HB.out.kp (kd hq) (by simp)
  clear HK HB hq;have HK:=hid k;have HB:=hid b;clear k b
  go_wp2_with fail
  refine (CF.out _).mono ?_
  rintro e w5 ⟨rfl,hq⟩
  have k:=HK.out.trans (kd hq);have b:=HB.out.kp (kd hq) (by simp)
  clear HK HB hq;have HK:=hid k;have HB:=hid b;clear k b
  have b:=HB.out;have k:=HK.out;clear HB HK
  obtain ⟨q0,q1,q2,q3,q4,q5,q6⟩:=b.seven
  have y:=b.free
  go_wp2
  (try simp only [Exit.inBlock,Exit.then])
  refine bodyPost_ret (results_cell_row rfl _ _ w.heap.size 38 _ (0,0) _ rfl (b.seven_set _ _ _ _ _ _ _) Tryz.underlying38 rfl (by kernel_rfl)) rfl ⟨rfl,?_⟩
  exact k.seven_set (Nat.le_refl _) _ _ _ _ _ _ _

theorem small_store (s:Nat) (op:Int) (w:World) (hs:s < 65536) (kk:Nat) (hk:pc s 13 3 = kk) (h0:((kk:Int) == 0) = false) (h15:pc s 15 1 = 1) (of:Int) (HO:∀ w,Calls Tryz.prog 221 #[.int .u16 s] w fun e w'=>e = .returned (.int .i64 of)∧∃ q,w' = w.drewN q):Calls Tryz.prog 192 #[.int .u16 s,.int .i64 op] w fun e w'=>e = .returned (.agg (I7 op 0 ((pc s 7 3:Nat) + 8) ((pc s 2 3:Nat) + 8) of 0 0))∧Kp none w w':=by
  have CK:=hid (fun w=>kind_is s kk w hs hk)
  have CS:=hid (fun w=>stores_yes s w hs h15)
  have CO:=hid HO
  have C1:=hid (fun w=>smallRs1_is s _ w hs rfl)
  generalize pc s 7 3 = r1 at *
  have C2:=hid (fun w=>smallRs2_is s _ w hs rfl)
  generalize pc s 2 3 = r2 at *
  clear hk h15 HO
  clear hs
  have k:=(Kp.refl none w).alloc (I7 0 0 0 0 0 0 0) 38
  have b:=Has.new w (I7 0 0 0 0 0 0 0) 38
  have HK:=hid k;have HB:=hid b;clear k b
  go_enter Tryz.func192,Tryz.ntmps192
  go_wp2_with fail
  refine (CK.out _).mono ?_
  rintro e w1 ⟨rfl,hq⟩
  have k:=HK.out.trans (kd hq);have b:=HB.out.kp (kd hq) (by simp)
  clear HK HB hq;have HK:=hid k;have HB:=hid b;clear k b
  go_wp2_with fail
  refine (CK.out _).mono ?_
  rintro e w2 ⟨rfl,hq⟩
  have k:=HK.out.trans (kd hq);have b:=HB.out.kp (kd hq) (by simp)
  clear HK HB hq;have HK:=hid k;have HB:=hid b;clear k b
  go_wp2_with fail
  refine (CS.out _).mono ?_
  rintro e w3 ⟨rfl,hq⟩
  have k:=HK.out.trans (kd hq);have b:=HB.out.kp (kd hq) (by simp)
  clear HK HB hq;have HK:=hid k;have HB:=hid b;clear k b
  go_wp2_with fail
  refine (C1.out _).mono ?_
  rintro e w4 ⟨rfl,hq⟩
  have k:=HK.out.trans (kd hq);have b:=HB.out.kp (kd hq) (by simp)
  clear HK HB hq;have HK:=hid k;have HB:=hid b;clear k b
  go_wp2_with fail
  refine (C2.out _).mono ?_
  rintro e w5 ⟨rfl,hq⟩
  have k:=HK.out.trans (kd hq);have b:=HB.out.kp (kd hq) (by simp)
  clear HK HB hq;have HK:=hid k;have HB:=hid b;clear k b
  go_wp2_with fail
  refine (CO.out _).mono ?_
  rintro e w6 ⟨rfl,hq⟩
  have k:=HK.out.trans (kd hq);have b:=HB.out.kp (kd hq) (by simp)
  clear HK HB hq;have HK:=hid k;have HB:=hid b;clear k b
  have b:=HB.out;have k:=HK.out;clear HB HK
  obtain ⟨q0,q1,q2,q3,q4,q5,q6⟩:=b.seven
  have y:=b.free
  go_wp2
  (try simp only [Exit.inBlock,Exit.then])
  refine bodyPost_ret (results_cell_row rfl _ _ w.heap.size 38 _ (0,0) _ rfl (b.seven_set _ _ _ _ _ _ _) Tryz.underlying38 rfl (by kernel_rfl)) rfl ⟨rfl,?_⟩
  exact k.seven_set (Nat.le_refl _) _ _ _ _ _ _ _

theorem small_load (s:Nat) (op:Int) (w:World) (hs:s < 65536) (kk:Nat) (hk:pc s 13 3 = kk) (h0:((kk:Int) == 0) = false) (h15:pc s 15 1 = 0) (of:Int) (HO:∀ w,Calls Tryz.prog 221 #[.int .u16 s] w fun e w'=>e = .returned (.int .i64 of)∧∃ q,w' = w.drewN q):Calls Tryz.prog 192 #[.int .u16 s,.int .i64 op] w fun e w'=>e = .returned (.agg (I7 op ((pc s 2 3:Nat) + 8) ((pc s 7 3:Nat) + 8) 0 of 0 0))∧Kp none w w':=by
  have CK:=hid (fun w=>kind_is s kk w hs hk)
  have CS:=hid (fun w=>stores_no s w hs h15)
  have CO:=hid HO
  have C1:=hid (fun w=>smallRs1_is s _ w hs rfl)
  generalize pc s 7 3 = r1 at *
  have C2:=hid (fun w=>smallRd_is s _ w hs rfl)
  generalize pc s 2 3 = r2 at *
  clear hk h15 HO
  clear hs
  have k:=(Kp.refl none w).alloc (I7 0 0 0 0 0 0 0) 38
  have b:=Has.new w (I7 0 0 0 0 0 0 0) 38
  have HK:=hid k;have HB:=hid b;clear k b
  go_enter Tryz.func192,Tryz.ntmps192
  go_wp2_with fail
  refine (CK.out _).mono ?_
  rintro e w1 ⟨rfl,hq⟩
  have k:=HK.out.trans (kd hq);have b:=HB.out.kp (kd hq) (by simp)
  clear HK HB hq;have HK:=hid k;have HB:=hid b;clear k b
  go_wp2_with fail
  refine (CK.out _).mono ?_
  rintro e w2 ⟨rfl,hq⟩
  have k:=HK.out.trans (kd hq);have b:=HB.out.kp (kd hq) (by simp)
  clear HK HB hq;have HK:=hid k;have HB:=hid b;clear k b
  go_wp2_with fail
  refine (CS.out _).mono ?_
  rintro e w3 ⟨rfl,hq⟩
  have k:=HK.out.trans (kd hq);have b:=HB.out.kp (kd hq) (by simp)
  clear HK HB hq;have HK:=hid k;have HB:=hid b;clear k b
  go_wp2_with fail
  refine (C2.out _).mono ?_
  rintro e w4 ⟨rfl,hq⟩
  have k:=HK.out.trans (kd hq);have b:=HB.out.kp (kd hq) (by simp)
  clear HK HB hq;have HK:=hid k;have HB:=hid b;clear k b
  go_wp2_with fail
  refine (C1.out _).mono ?_
  rintro e w5 ⟨rfl,hq⟩
  have k:=HK.out.trans (kd hq);have b:=HB.out.kp (kd hq) (by simp)
  clear HK HB hq;have HK:=hid k;have HB:=hid b;clear k b
  go_wp2_with fail
  refine (CO.out _).mono ?_
  rintro e w6 ⟨rfl,hq⟩
  have k:=HK.out.trans (kd hq);have b:=HB.out.kp (kd hq) (by simp)
  clear HK HB hq;have HK:=hid k;have HB:=hid b;clear k b
  have b:=HB.out;have k:=HK.out;clear HB HK
  obtain ⟨q0,q1,q2,q3,q4,q5,q6⟩:=b.seven
  have y:=b.free
  go_wp2
  (try simp only [Exit.inBlock,Exit.then])
  refine bodyPost_ret (results_cell_row rfl _ _ w.heap.size 38 _ (0,0) _ rfl (b.seven_set _ _ _ _ _ _ _) Tryz.underlying38 rfl (by kernel_rfl)) rfl ⟨rfl,?_⟩
  exact k.seven_set (Nat.le_refl _) _ _ _ _ _ _ _

theorem upper_none (s:Nat) (op:Int) (w:World) (hs:s < 65536) (hn:low (shiftN s:Nat) 6 = 0):Calls Tryz.prog 224 #[.int .u16 s,.int .i64 op] w fun e w'=>e = .returned (.agg (I7 0 0 0 0 0 0 0))∧Kp none w w':=by
  have CN:=hid (fun w=>number_any s w hs)
  rw [hn] at CN
  clear hn
  clear hs
  have k:=(Kp.refl none w).alloc (I7 0 0 0 0 0 0 0) 38
  have b:=Has.new w (I7 0 0 0 0 0 0 0) 38
  have HK:=hid k;have HB:=hid b;clear k b
  go_enter Tryz.func224,Tryz.ntmps224
  go_wp2_with fail
  refine (CN.out _).mono ?_
  rintro e w1 ⟨rfl,hq⟩
  have k:=HK.out.trans (kd hq);have b:=HB.out.kp (kd hq) (by simp)
  clear HK HB hq;have HK:=hid k;have HB:=hid b;clear k b
  have b:=HB.out;have k:=HK.out;clear HB HK
  obtain ⟨q0,q1,q2,q3,q4,q5,q6⟩:=b.seven
  have y:=b.free
  go_wp2
  (try simp only [Exit.inBlock,Exit.then])
  refine bodyPost_ret (results_cell_row rfl _ _ w.heap.size 38 _ (0,0) _ rfl (b.seven_set _ _ _ _ _ _ _) Tryz.underlying38 rfl (by kernel_rfl)) rfl ⟨rfl,?_⟩
  exact k.seven_set (Nat.le_refl _) _ _ _ _ _ _ _

theorem upper_stack (s:Nat) (op:Int) (w:World) (hs:s < 65536) (hn:(low (shiftN s:Nat) 6 == 0) = false) (hr:pc s 7 5 = 2):Calls Tryz.prog 224 #[.int .u16 s,.int .i64 op] w fun e w'=>e = .returned (.agg (I7 22 2 2 0 (low (stackN s:Nat) 10) 0 0))∧Kp none w w':=by
  have CN:=hid (fun w=>number_any s w hs)
  generalize low (shiftN s:Nat) 6 = n at *
  have CR:=hid (fun w=>rd_is s 2 w hs hr)
  have CM:=hid (fun w=>stackMove_any s w hs)
  generalize low (stackN s:Nat) 10 = m at *
  clear hr
  clear hs
  have k:=(Kp.refl none w).alloc (I7 0 0 0 0 0 0 0) 38
  have b:=Has.new w (I7 0 0 0 0 0 0 0) 38
  have HK:=hid k;have HB:=hid b;clear k b
  go_enter Tryz.func224,Tryz.ntmps224
  go_wp2_with fail
  refine (CN.out _).mono ?_
  rintro e w1 ⟨rfl,hq⟩
  have k:=HK.out.trans (kd hq);have b:=HB.out.kp (kd hq) (by simp)
  clear HK HB hq;have HK:=hid k;have HB:=hid b;clear k b
  go_wp2_with fail
  refine (CR.out _).mono ?_
  rintro e w2 ⟨rfl,hq⟩
  have k:=HK.out.trans (kd hq);have b:=HB.out.kp (kd hq) (by simp)
  clear HK HB hq;have HK:=hid k;have HB:=hid b;clear k b
  go_wp2_with fail
  refine (CM.out _).mono ?_
  rintro e w3 ⟨rfl,hq⟩
  have k:=HK.out.trans (kd hq);have b:=HB.out.kp (kd hq) (by simp)
  clear HK HB hq;have HK:=hid k;have HB:=hid b;clear k b
  have b:=HB.out;have k:=HK.out;clear HB HK
  obtain ⟨q0,q1,q2,q3,q4,q5,q6⟩:=b.seven
  have y:=b.free
  go_wp2
  (try simp only [Exit.inBlock,Exit.then])
  refine bodyPost_ret (results_cell_row rfl _ _ w.heap.size 38 _ (0,0) _ rfl (b.seven_set _ _ _ _ _ _ _) Tryz.underlying38 rfl (by kernel_rfl)) rfl ⟨rfl,?_⟩
  exact k.seven_set (Nat.le_refl _) _ _ _ _ _ _ _

theorem upper_lui (s:Nat) (op:Int) (w:World) (hs:s < 65536) (hn:(low (shiftN s:Nat) 6 == 0) = false) (hr:(((pc s 7 5:Nat):Int) == 2) = false):Calls Tryz.prog 224 #[.int .u16 s,.int .i64 op] w fun e w'=>e = .returned (.agg (I7 op (pc s 7 5:Nat) 0 0 (low (shiftN s:Nat) 6 * 4096) 0 0))∧Kp none w w':=by
  have CU:=hid (fun w=>upperNumber_any s w hs)
  have CN:=hid (fun w=>number_any s w hs)
  generalize low (shiftN s:Nat) 6 = n at *
  have CR:=hid (fun w=>rd_is s _ w hs rfl)
  generalize pc s 7 5 = r at *
  clear hs
  have k:=(Kp.refl none w).alloc (I7 0 0 0 0 0 0 0) 38
  have b:=Has.new w (I7 0 0 0 0 0 0 0) 38
  have HK:=hid k;have HB:=hid b;clear k b
  go_enter Tryz.func224,Tryz.ntmps224
  go_wp2_with fail
  refine (CN.out _).mono ?_
  rintro e w1 ⟨rfl,hq⟩
  have k:=HK.out.trans (kd hq);have b:=HB.out.kp (kd hq) (by simp)
  clear HK HB hq;have HK:=hid k;have HB:=hid b;clear k b
  go_wp2_with fail
  refine (CR.out _).mono ?_
  rintro e w2 ⟨rfl,hq⟩
  have k:=HK.out.trans (kd hq);have b:=HB.out.kp (kd hq) (by simp)
  clear HK HB hq;have HK:=hid k;have HB:=hid b;clear k b
  go_wp2_with fail
  refine (CR.out _).mono ?_
  rintro e w3 ⟨rfl,hq⟩
  have k:=HK.out.trans (kd hq);have b:=HB.out.kp (kd hq) (by simp)
  clear HK HB hq;have HK:=hid k;have HB:=hid b;clear k b
  go_wp2_with fail
  refine (CU.out _).mono ?_
  rintro e w4 ⟨rfl,hq⟩
  have k:=HK.out.trans (kd hq);have b:=HB.out.kp (kd hq) (by simp)
  clear HK HB hq;have HK:=hid k;have HB:=hid b;clear k b
  have b:=HB.out;have k:=HK.out;clear HB HK
  obtain ⟨q0,q1,q2,q3,q4,q5,q6⟩:=b.seven
  have y:=b.free
  go_wp2
  (try simp only [Exit.inBlock,Exit.then])
  refine bodyPost_ret (results_cell_row rfl _ _ w.heap.size 38 _ (0,0) _ rfl (b.seven_set _ _ _ _ _ _ _) Tryz.underlying38 rfl (by kernel_rfl)) rfl ⟨rfl,?_⟩
  exact k.seven_set (Nat.le_refl _) _ _ _ _ _ _ _

theorem move_add (s:Nat) (op:Int) (w:World) (hs:s < 65536) (hb:pc s 12 1 = 1) (h2:(((pc s 2 5:Nat):Int) == 0) = false) (h2':(((pc s 2 5:Nat):Int) != 0) = true):Calls Tryz.prog 229 #[.int .u16 s,.int .i64 op] w fun e w'=>e = .returned (.agg (I7 op (pc s 7 5:Nat) (pc s 7 5:Nat) (pc s 2 5:Nat) 0 0 0))∧Kp none w w':=by
  have CB:=hid (bits_is s 12 12 0 1 hs (by decide) (by decide) (by decide) (by show pc s 12 1 * 2 ^ 0 = 1;rw [hb]))
  have C2:=hid (fun w=>rs2_is s _ w hs rfl)
  generalize pc s 2 5 = r2 at *
  have CR:=hid (fun w=>rd_is s _ w hs rfl)
  generalize pc s 7 5 = r at *
  clear hb
  clear hs
  have k:=(Kp.refl none w).alloc (I7 0 0 0 0 0 0 0) 38
  have b:=Has.new w (I7 0 0 0 0 0 0 0) 38
  have HK:=hid k;have HB:=hid b;clear k b
  go_enter Tryz.func229,Tryz.ntmps229
  go_wp2_with fail
  refine (CB.out _).mono ?_
  rintro e w1 ⟨rfl,hq⟩
  have k:=HK.out.trans (kd hq);have b:=HB.out.kp (kd hq) (by simp)
  clear HK HB hq;have HK:=hid k;have HB:=hid b;clear k b
  go_wp2_with fail
  refine (C2.out _).mono ?_
  rintro e w2 ⟨rfl,hq⟩
  have k:=HK.out.trans (kd hq);have b:=HB.out.kp (kd hq) (by simp)
  clear HK HB hq;have HK:=hid k;have HB:=hid b;clear k b
  go_wp2_with fail
  refine (CR.out _).mono ?_
  rintro e w3 ⟨rfl,hq⟩
  have k:=HK.out.trans (kd hq);have b:=HB.out.kp (kd hq) (by simp)
  clear HK HB hq;have HK:=hid k;have HB:=hid b;clear k b
  go_wp2_with fail
  refine (CR.out _).mono ?_
  rintro e w4 ⟨rfl,hq⟩
  have k:=HK.out.trans (kd hq);have b:=HB.out.kp (kd hq) (by simp)
  clear HK HB hq;have HK:=hid k;have HB:=hid b;clear k b
  go_wp2_with fail
  refine (C2.out _).mono ?_
  rintro e w5 ⟨rfl,hq⟩
  have k:=HK.out.trans (kd hq);have b:=HB.out.kp (kd hq) (by simp)
  clear HK HB hq;have HK:=hid k;have HB:=hid b;clear k b
  have b:=HB.out;have k:=HK.out;clear HB HK
  obtain ⟨q0,q1,q2,q3,q4,q5,q6⟩:=b.seven
  have y:=b.free
  go_wp2
  (try simp only [Exit.inBlock,Exit.then])
  refine bodyPost_ret (results_cell_row rfl _ _ w.heap.size 38 _ (0,0) _ rfl (b.seven_set _ _ _ _ _ _ _) Tryz.underlying38 rfl (by kernel_rfl)) rfl ⟨rfl,?_⟩
  exact k.seven_set (Nat.le_refl _) _ _ _ _ _ _ _

theorem move_mv (s:Nat) (op:Int) (w:World) (hs:s < 65536) (hb:pc s 12 1 = 0) (h2:(((pc s 2 5:Nat):Int) == 0) = false) (h2':(((pc s 2 5:Nat):Int) != 0) = true):Calls Tryz.prog 229 #[.int .u16 s,.int .i64 op] w fun e w'=>e = .returned (.agg (I7 op (pc s 7 5:Nat) 0 (pc s 2 5:Nat) 0 0 0))∧Kp none w w':=by
  have CB:=hid (bits_is s 12 12 0 0 hs (by decide) (by decide) (by decide) (by show pc s 12 1 * 2 ^ 0 = 0;rw [hb]))
  have C2:=hid (fun w=>rs2_is s _ w hs rfl)
  generalize pc s 2 5 = r2 at *
  have CR:=hid (fun w=>rd_is s _ w hs rfl)
  generalize pc s 7 5 = r at *
  clear hb
  clear hs
  have k:=(Kp.refl none w).alloc (I7 0 0 0 0 0 0 0) 38
  have b:=Has.new w (I7 0 0 0 0 0 0 0) 38
  have HK:=hid k;have HB:=hid b;clear k b
  go_enter Tryz.func229,Tryz.ntmps229
  go_wp2_with fail
  refine (CB.out _).mono ?_
  rintro e w1 ⟨rfl,hq⟩
  have k:=HK.out.trans (kd hq);have b:=HB.out.kp (kd hq) (by simp)
  clear HK HB hq;have HK:=hid k;have HB:=hid b;clear k b
  go_wp2_with fail
  refine (C2.out _).mono ?_
  rintro e w2 ⟨rfl,hq⟩
  have k:=HK.out.trans (kd hq);have b:=HB.out.kp (kd hq) (by simp)
  clear HK HB hq;have HK:=hid k;have HB:=hid b;clear k b
  go_wp2_with fail
  refine (C2.out _).mono ?_
  rintro e w3 ⟨rfl,hq⟩
  have k:=HK.out.trans (kd hq);have b:=HB.out.kp (kd hq) (by simp)
  clear HK HB hq;have HK:=hid k;have HB:=hid b;clear k b
  go_wp2_with fail
  refine (CR.out _).mono ?_
  rintro e w4 ⟨rfl,hq⟩
  have k:=HK.out.trans (kd hq);have b:=HB.out.kp (kd hq) (by simp)
  clear HK HB hq;have HK:=hid k;have HB:=hid b;clear k b
  go_wp2_with fail
  refine (C2.out _).mono ?_
  rintro e w5 ⟨rfl,hq⟩
  have k:=HK.out.trans (kd hq);have b:=HB.out.kp (kd hq) (by simp)
  clear HK HB hq;have HK:=hid k;have HB:=hid b;clear k b
  have b:=HB.out;have k:=HK.out;clear HB HK
  obtain ⟨q0,q1,q2,q3,q4,q5,q6⟩:=b.seven
  have y:=b.free
  go_wp2
  (try simp only [Exit.inBlock,Exit.then])
  refine bodyPost_ret (results_cell_row rfl _ _ w.heap.size 38 _ (0,0) _ rfl (b.seven_set _ _ _ _ _ _ _) Tryz.underlying38 rfl (by kernel_rfl)) rfl ⟨rfl,?_⟩
  exact k.seven_set (Nat.le_refl _) _ _ _ _ _ _ _

theorem move_jalr (s:Nat) (op:Int) (w:World) (hs:s < 65536) (hb:pc s 12 1 = 1) (h2:pc s 2 5 = 0) (hr:(((pc s 7 5:Nat):Int) == 0) = false) (hr':(((pc s 7 5:Nat):Int) != 0) = true):Calls Tryz.prog 229 #[.int .u16 s,.int .i64 op] w fun e w'=>e = .returned (.agg (I7 4 1 (pc s 7 5:Nat) 0 0 0 0))∧Kp none w w':=by
  have CB:=hid (bits_is s 12 12 0 1 hs (by decide) (by decide) (by decide) (by show pc s 12 1 * 2 ^ 0 = 1;rw [hb]))
  have C2:=hid (fun w=>rs2_is s 0 w hs h2)
  clear h2
  have CR:=hid (fun w=>rd_is s _ w hs rfl)
  generalize pc s 7 5 = r at *
  clear hb
  clear hs
  have k:=(Kp.refl none w).alloc (I7 0 0 0 0 0 0 0) 38
  have b:=Has.new w (I7 0 0 0 0 0 0 0) 38
  have HK:=hid k;have HB:=hid b;clear k b
  go_enter Tryz.func229,Tryz.ntmps229
  go_wp2_with fail
  refine (CB.out _).mono ?_
  rintro e w1 ⟨rfl,hq⟩
  have k:=HK.out.trans (kd hq);have b:=HB.out.kp (kd hq) (by simp)
  clear HK HB hq;have HK:=hid k;have HB:=hid b;clear k b
  go_wp2_with fail
  refine (C2.out _).mono ?_
  rintro e w2 ⟨rfl,hq⟩
  have k:=HK.out.trans (kd hq);have b:=HB.out.kp (kd hq) (by simp)
  clear HK HB hq;have HK:=hid k;have HB:=hid b;clear k b
  go_wp2_with fail
  refine (C2.out _).mono ?_
  rintro e w3 ⟨rfl,hq⟩
  have k:=HK.out.trans (kd hq);have b:=HB.out.kp (kd hq) (by simp)
  clear HK HB hq;have HK:=hid k;have HB:=hid b;clear k b
  go_wp2_with fail
  refine (CR.out _).mono ?_
  rintro e w4 ⟨rfl,hq⟩
  have k:=HK.out.trans (kd hq);have b:=HB.out.kp (kd hq) (by simp)
  clear HK HB hq;have HK:=hid k;have HB:=hid b;clear k b
  go_wp2_with fail
  refine (CR.out _).mono ?_
  rintro e w5 ⟨rfl,hq⟩
  have k:=HK.out.trans (kd hq);have b:=HB.out.kp (kd hq) (by simp)
  clear HK HB hq;have HK:=hid k;have HB:=hid b;clear k b
  have b:=HB.out;have k:=HK.out;clear HB HK
  obtain ⟨q0,q1,q2,q3,q4,q5,q6⟩:=b.seven
  have y:=b.free
  go_wp2
  (try simp only [Exit.inBlock,Exit.then])
  refine bodyPost_ret (results_cell_row rfl _ _ w.heap.size 38 _ (0,0) _ rfl (b.seven_set _ _ _ _ _ _ _) Tryz.underlying38 rfl (by kernel_rfl)) rfl ⟨rfl,?_⟩
  exact k.seven_set (Nat.le_refl _) _ _ _ _ _ _ _

theorem move_jr (s:Nat) (op:Int) (w:World) (hs:s < 65536) (hb:pc s 12 1 = 0) (h2:pc s 2 5 = 0) (hr:(((pc s 7 5:Nat):Int) == 0) = false) (hr':(((pc s 7 5:Nat):Int) != 0) = true):Calls Tryz.prog 229 #[.int .u16 s,.int .i64 op] w fun e w'=>e = .returned (.agg (I7 4 0 (pc s 7 5:Nat) 0 0 0 0))∧Kp none w w':=by
  have CB:=hid (bits_is s 12 12 0 0 hs (by decide) (by decide) (by decide) (by show pc s 12 1 * 2 ^ 0 = 0;rw [hb]))
  have C2:=hid (fun w=>rs2_is s 0 w hs h2)
  clear h2
  have CR:=hid (fun w=>rd_is s _ w hs rfl)
  generalize pc s 7 5 = r at *
  clear hb
  clear hs
  have k:=(Kp.refl none w).alloc (I7 0 0 0 0 0 0 0) 38
  have b:=Has.new w (I7 0 0 0 0 0 0 0) 38
  have HK:=hid k;have HB:=hid b;clear k b
  go_enter Tryz.func229,Tryz.ntmps229
  go_wp2_with fail
  refine (CB.out _).mono ?_
  rintro e w1 ⟨rfl,hq⟩
  have k:=HK.out.trans (kd hq);have b:=HB.out.kp (kd hq) (by simp)
  clear HK HB hq;have HK:=hid k;have HB:=hid b;clear k b
  go_wp2_with fail
  refine (C2.out _).mono ?_
  rintro e w2 ⟨rfl,hq⟩
  have k:=HK.out.trans (kd hq);have b:=HB.out.kp (kd hq) (by simp)
  clear HK HB hq;have HK:=hid k;have HB:=hid b;clear k b
  go_wp2_with fail
  refine (C2.out _).mono ?_
  rintro e w3 ⟨rfl,hq⟩
  have k:=HK.out.trans (kd hq);have b:=HB.out.kp (kd hq) (by simp)
  clear HK HB hq;have HK:=hid k;have HB:=hid b;clear k b
  go_wp2_with fail
  refine (CR.out _).mono ?_
  rintro e w4 ⟨rfl,hq⟩
  have k:=HK.out.trans (kd hq);have b:=HB.out.kp (kd hq) (by simp)
  clear HK HB hq;have HK:=hid k;have HB:=hid b;clear k b
  go_wp2_with fail
  refine (CR.out _).mono ?_
  rintro e w5 ⟨rfl,hq⟩
  have k:=HK.out.trans (kd hq);have b:=HB.out.kp (kd hq) (by simp)
  clear HK HB hq;have HK:=hid k;have HB:=hid b;clear k b
  go_wp2_with fail
  refine (CR.out _).mono ?_
  rintro e w6 ⟨rfl,hq⟩
  have k:=HK.out.trans (kd hq);have b:=HB.out.kp (kd hq) (by simp)
  clear HK HB hq;have HK:=hid k;have HB:=hid b;clear k b
  have b:=HB.out;have k:=HK.out;clear HB HK
  obtain ⟨q0,q1,q2,q3,q4,q5,q6⟩:=b.seven
  have y:=b.free
  go_wp2
  (try simp only [Exit.inBlock,Exit.then])
  refine bodyPost_ret (results_cell_row rfl _ _ w.heap.size 38 _ (0,0) _ rfl (b.seven_set _ _ _ _ _ _ _) Tryz.underlying38 rfl (by kernel_rfl)) rfl ⟨rfl,?_⟩
  exact k.seven_set (Nat.le_refl _) _ _ _ _ _ _ _

theorem move_break (s:Nat) (op:Int) (w:World) (hs:s < 65536) (hb:pc s 12 1 = 1) (h2:pc s 2 5 = 0) (hr:pc s 7 5 = 0):Calls Tryz.prog 229 #[.int .u16 s,.int .i64 op] w fun e w'=>e = .returned (.agg (I7 88 0 0 0 0 0 0))∧Kp none w w':=by
  have CB:=hid (bits_is s 12 12 0 1 hs (by decide) (by decide) (by decide) (by show pc s 12 1 * 2 ^ 0 = 1;rw [hb]))
  have C2:=hid (fun w=>rs2_is s 0 w hs h2)
  clear h2
  have CR:=hid (fun w=>rd_is s 0 w hs hr)
  clear hr
  clear hb
  clear hs
  have k:=(Kp.refl none w).alloc (I7 0 0 0 0 0 0 0) 38
  have b:=Has.new w (I7 0 0 0 0 0 0 0) 38
  have HK:=hid k;have HB:=hid b;clear k b
  go_enter Tryz.func229,Tryz.ntmps229
  go_wp2_with fail
  refine (CB.out _).mono ?_
  rintro e w1 ⟨rfl,hq⟩
  have k:=HK.out.trans (kd hq);have b:=HB.out.kp (kd hq) (by simp)
  clear HK HB hq;have HK:=hid k;have HB:=hid b;clear k b
  go_wp2_with fail
  refine (C2.out _).mono ?_
  rintro e w2 ⟨rfl,hq⟩
  have k:=HK.out.trans (kd hq);have b:=HB.out.kp (kd hq) (by simp)
  clear HK HB hq;have HK:=hid k;have HB:=hid b;clear k b
  go_wp2_with fail
  refine (C2.out _).mono ?_
  rintro e w3 ⟨rfl,hq⟩
  have k:=HK.out.trans (kd hq);have b:=HB.out.kp (kd hq) (by simp)
  clear HK HB hq;have HK:=hid k;have HB:=hid b;clear k b
  go_wp2_with fail
  refine (CR.out _).mono ?_
  rintro e w4 ⟨rfl,hq⟩
  have k:=HK.out.trans (kd hq);have b:=HB.out.kp (kd hq) (by simp)
  clear HK HB hq;have HK:=hid k;have HB:=hid b;clear k b
  go_wp2_with fail
  refine (CR.out _).mono ?_
  rintro e w5 ⟨rfl,hq⟩
  have k:=HK.out.trans (kd hq);have b:=HB.out.kp (kd hq) (by simp)
  clear HK HB hq;have HK:=hid k;have HB:=hid b;clear k b
  have b:=HB.out;have k:=HK.out;clear HB HK
  obtain ⟨q0,q1,q2,q3,q4,q5,q6⟩:=b.seven
  have y:=b.free
  go_wp2
  (try simp only [Exit.inBlock,Exit.then])
  refine bodyPost_ret (results_cell_row rfl _ _ w.heap.size 38 _ (0,0) _ rfl (b.seven_set _ _ _ _ _ _ _) Tryz.underlying38 rfl (by kernel_rfl)) rfl ⟨rfl,?_⟩
  exact k.seven_set (Nat.le_refl _) _ _ _ _ _ _ _

theorem move_none (s:Nat) (op:Int) (w:World) (hs:s < 65536) (hb:pc s 12 1 = 0) (h2:pc s 2 5 = 0) (hr:pc s 7 5 = 0):Calls Tryz.prog 229 #[.int .u16 s,.int .i64 op] w fun e w'=>e = .returned (.agg (I7 0 0 0 0 0 0 0))∧Kp none w w':=by
  have CB:=hid (bits_is s 12 12 0 0 hs (by decide) (by decide) (by decide) (by show pc s 12 1 * 2 ^ 0 = 0;rw [hb]))
  have C2:=hid (fun w=>rs2_is s 0 w hs h2)
  clear h2
  have CR:=hid (fun w=>rd_is s 0 w hs hr)
  clear hr
  clear hb
  clear hs
  have k:=(Kp.refl none w).alloc (I7 0 0 0 0 0 0 0) 38
  have b:=Has.new w (I7 0 0 0 0 0 0 0) 38
  have HK:=hid k;have HB:=hid b;clear k b
  go_enter Tryz.func229,Tryz.ntmps229
  go_wp2_with fail
  refine (CB.out _).mono ?_
  rintro e w1 ⟨rfl,hq⟩
  have k:=HK.out.trans (kd hq);have b:=HB.out.kp (kd hq) (by simp)
  clear HK HB hq;have HK:=hid k;have HB:=hid b;clear k b
  go_wp2_with fail
  refine (C2.out _).mono ?_
  rintro e w2 ⟨rfl,hq⟩
  have k:=HK.out.trans (kd hq);have b:=HB.out.kp (kd hq) (by simp)
  clear HK HB hq;have HK:=hid k;have HB:=hid b;clear k b
  go_wp2_with fail
  refine (C2.out _).mono ?_
  rintro e w3 ⟨rfl,hq⟩
  have k:=HK.out.trans (kd hq);have b:=HB.out.kp (kd hq) (by simp)
  clear HK HB hq;have HK:=hid k;have HB:=hid b;clear k b
  go_wp2_with fail
  refine (CR.out _).mono ?_
  rintro e w4 ⟨rfl,hq⟩
  have k:=HK.out.trans (kd hq);have b:=HB.out.kp (kd hq) (by simp)
  clear HK HB hq;have HK:=hid k;have HB:=hid b;clear k b
  go_wp2_with fail
  refine (CR.out _).mono ?_
  rintro e w5 ⟨rfl,hq⟩
  have k:=HK.out.trans (kd hq);have b:=HB.out.kp (kd hq) (by simp)
  clear HK HB hq;have HK:=hid k;have HB:=hid b;clear k b
  have b:=HB.out;have k:=HK.out;clear HB HK
  obtain ⟨q0,q1,q2,q3,q4,q5,q6⟩:=b.seven
  have y:=b.free
  go_wp2
  (try simp only [Exit.inBlock,Exit.then])
  refine bodyPost_ret (results_cell_row rfl _ _ w.heap.size 38 _ (0,0) _ rfl (b.seven_set _ _ _ _ _ _ _) Tryz.underlying38 rfl (by kernel_rfl)) rfl ⟨rfl,?_⟩
  exact k.seven_set (Nat.le_refl _) _ _ _ _ _ _ _

theorem whole_shift (s:Nat) (op:Int) (w:World) (hs:s < 65536) (hk:pc s 13 3 = 0):Calls Tryz.prog 194 #[.int .u16 s,.int .i64 op] w fun e w'=>e = .returned (.agg (I7 op (pc s 7 5:Nat) (pc s 7 5:Nat) 0 (shiftN s:Nat) 0 0))∧Kp none w w':=by
  have CK:=hid (fun w=>kind_is s 0 w hs hk)
  have CS:=hid (fun w=>shiftC_any s w hs)
  generalize shiftN s = sh at *
  have CR:=hid (fun w=>rd_is s _ w hs rfl)
  generalize pc s 7 5 = r at *
  clear hk
  clear hs
  have k:=(Kp.refl none w).alloc (I7 0 0 0 0 0 0 0) 38
  have b:=Has.new w (I7 0 0 0 0 0 0 0) 38
  have HK:=hid k;have HB:=hid b;clear k b
  go_enter Tryz.func194,Tryz.ntmps194
  go_wp2_with fail
  refine (CK.out _).mono ?_
  rintro e w1 ⟨rfl,hq⟩
  have k:=HK.out.trans (kd hq);have b:=HB.out.kp (kd hq) (by simp)
  clear HK HB hq;have HK:=hid k;have HB:=hid b;clear k b
  go_wp2_with fail
  refine (CR.out _).mono ?_
  rintro e w2 ⟨rfl,hq⟩
  have k:=HK.out.trans (kd hq);have b:=HB.out.kp (kd hq) (by simp)
  clear HK HB hq;have HK:=hid k;have HB:=hid b;clear k b
  go_wp2_with fail
  refine (CR.out _).mono ?_
  rintro e w3 ⟨rfl,hq⟩
  have k:=HK.out.trans (kd hq);have b:=HB.out.kp (kd hq) (by simp)
  clear HK HB hq;have HK:=hid k;have HB:=hid b;clear k b
  go_wp2_with fail
  refine (CS.out _).mono ?_
  rintro e w4 ⟨rfl,hq⟩
  have k:=HK.out.trans (kd hq);have b:=HB.out.kp (kd hq) (by simp)
  clear HK HB hq;have HK:=hid k;have HB:=hid b;clear k b
  have b:=HB.out;have k:=HK.out;clear HB HK
  obtain ⟨q0,q1,q2,q3,q4,q5,q6⟩:=b.seven
  have y:=b.free
  go_wp2
  (try simp only [Exit.inBlock,Exit.then])
  refine bodyPost_ret (results_cell_row rfl _ _ w.heap.size 38 _ (0,0) _ rfl (b.seven_set _ _ _ _ _ _ _) Tryz.underlying38 rfl (by kernel_rfl)) rfl ⟨rfl,?_⟩
  exact k.seven_set (Nat.le_refl _) _ _ _ _ _ _ _

theorem whole_store (s:Nat) (op:Int) (w:World) (hs:s < 65536) (kk:Nat) (hk:pc s 13 3 = kk) (h4:((kk:Int) == 4) = false) (h0:((kk:Int) == 0) = false) (h15:pc s 15 1 = 1) (of:Int) (HO:∀ w,Calls Tryz.prog 231 #[.int .u16 s] w fun e w'=>e = .returned (.int .i64 of)∧∃ q,w' = w.drewN q):Calls Tryz.prog 194 #[.int .u16 s,.int .i64 op] w fun e w'=>e = .returned (.agg (I7 op 0 2 (pc s 2 5:Nat) of 0 0))∧Kp none w w':=by
  have CK:=hid (fun w=>kind_is s kk w hs hk)
  have CS:=hid (fun w=>stores_yes s w hs h15)
  have CO:=hid HO
  have C2:=hid (fun w=>rs2_is s _ w hs rfl)
  generalize pc s 2 5 = r2 at *
  clear hk h15 HO
  clear hs
  have k:=(Kp.refl none w).alloc (I7 0 0 0 0 0 0 0) 38
  have b:=Has.new w (I7 0 0 0 0 0 0 0) 38
  have HK:=hid k;have HB:=hid b;clear k b
  go_enter Tryz.func194,Tryz.ntmps194
  go_wp2_with fail
  refine (CK.out _).mono ?_
  rintro e w1 ⟨rfl,hq⟩
  have k:=HK.out.trans (kd hq);have b:=HB.out.kp (kd hq) (by simp)
  clear HK HB hq;have HK:=hid k;have HB:=hid b;clear k b
  go_wp2_with fail
  refine (CK.out _).mono ?_
  rintro e w2 ⟨rfl,hq⟩
  have k:=HK.out.trans (kd hq);have b:=HB.out.kp (kd hq) (by simp)
  clear HK HB hq;have HK:=hid k;have HB:=hid b;clear k b
  go_wp2_with fail
  refine (CS.out _).mono ?_
  rintro e w3 ⟨rfl,hq⟩
  have k:=HK.out.trans (kd hq);have b:=HB.out.kp (kd hq) (by simp)
  clear HK HB hq;have HK:=hid k;have HB:=hid b;clear k b
  go_wp2_with fail
  refine (C2.out _).mono ?_
  rintro e w4 ⟨rfl,hq⟩
  have k:=HK.out.trans (kd hq);have b:=HB.out.kp (kd hq) (by simp)
  clear HK HB hq;have HK:=hid k;have HB:=hid b;clear k b
  go_wp2_with fail
  refine (CO.out _).mono ?_
  rintro e w5 ⟨rfl,hq⟩
  have k:=HK.out.trans (kd hq);have b:=HB.out.kp (kd hq) (by simp)
  clear HK HB hq;have HK:=hid k;have HB:=hid b;clear k b
  have b:=HB.out;have k:=HK.out;clear HB HK
  obtain ⟨q0,q1,q2,q3,q4,q5,q6⟩:=b.seven
  have y:=b.free
  go_wp2
  (try simp only [Exit.inBlock,Exit.then])
  refine bodyPost_ret (results_cell_row rfl _ _ w.heap.size 38 _ (0,0) _ rfl (b.seven_set _ _ _ _ _ _ _) Tryz.underlying38 rfl (by kernel_rfl)) rfl ⟨rfl,?_⟩
  exact k.seven_set (Nat.le_refl _) _ _ _ _ _ _ _

theorem whole_load (s:Nat) (op:Int) (w:World) (hs:s < 65536) (kk:Nat) (hk:pc s 13 3 = kk) (h4:((kk:Int) == 4) = false) (h0:((kk:Int) == 0) = false) (h15:pc s 15 1 = 0) (of:Int) (HO:∀ w,Calls Tryz.prog 232 #[.int .u16 s] w fun e w'=>e = .returned (.int .i64 of)∧∃ q,w' = w.drewN q) (hr:(((pc s 7 5:Nat):Int) == 0) = false) (hr':(((pc s 7 5:Nat):Int) != 0) = true):Calls Tryz.prog 194 #[.int .u16 s,.int .i64 op] w fun e w'=>e = .returned (.agg (I7 op (pc s 7 5:Nat) 2 0 of 0 0))∧Kp none w w':=by
  have CK:=hid (fun w=>kind_is s kk w hs hk)
  have CS:=hid (fun w=>stores_no s w hs h15)
  have CO:=hid HO
  have CR:=hid (fun w=>rd_is s _ w hs rfl)
  generalize pc s 7 5 = r at *
  clear hk h15 HO
  clear hs
  have k:=(Kp.refl none w).alloc (I7 0 0 0 0 0 0 0) 38
  have b:=Has.new w (I7 0 0 0 0 0 0 0) 38
  have HK:=hid k;have HB:=hid b;clear k b
  go_enter Tryz.func194,Tryz.ntmps194
  go_wp2_with fail
  refine (CK.out _).mono ?_
  rintro e w1 ⟨rfl,hq⟩
  have k:=HK.out.trans (kd hq);have b:=HB.out.kp (kd hq) (by simp)
  clear HK HB hq;have HK:=hid k;have HB:=hid b;clear k b
  go_wp2_with fail
  refine (CK.out _).mono ?_
  rintro e w2 ⟨rfl,hq⟩
  have k:=HK.out.trans (kd hq);have b:=HB.out.kp (kd hq) (by simp)
  clear HK HB hq;have HK:=hid k;have HB:=hid b;clear k b
  go_wp2_with fail
  refine (CS.out _).mono ?_
  rintro e w3 ⟨rfl,hq⟩
  have k:=HK.out.trans (kd hq);have b:=HB.out.kp (kd hq) (by simp)
  clear HK HB hq;have HK:=hid k;have HB:=hid b;clear k b
  go_wp2_with fail
  refine (CR.out _).mono ?_
  rintro e w4 ⟨rfl,hq⟩
  have k:=HK.out.trans (kd hq);have b:=HB.out.kp (kd hq) (by simp)
  clear HK HB hq;have HK:=hid k;have HB:=hid b;clear k b
  go_wp2_with fail
  refine (CR.out _).mono ?_
  rintro e w5 ⟨rfl,hq⟩
  have k:=HK.out.trans (kd hq);have b:=HB.out.kp (kd hq) (by simp)
  clear HK HB hq;have HK:=hid k;have HB:=hid b;clear k b
  go_wp2_with fail
  refine (CO.out _).mono ?_
  rintro e w6 ⟨rfl,hq⟩
  have k:=HK.out.trans (kd hq);have b:=HB.out.kp (kd hq) (by simp)
  clear HK HB hq;have HK:=hid k;have HB:=hid b;clear k b
  have b:=HB.out;have k:=HK.out;clear HB HK
  obtain ⟨q0,q1,q2,q3,q4,q5,q6⟩:=b.seven
  have y:=b.free
  go_wp2
  (try simp only [Exit.inBlock,Exit.then])
  refine bodyPost_ret (results_cell_row rfl _ _ w.heap.size 38 _ (0,0) _ rfl (b.seven_set _ _ _ _ _ _ _) Tryz.underlying38 rfl (by kernel_rfl)) rfl ⟨rfl,?_⟩
  exact k.seven_set (Nat.le_refl _) _ _ _ _ _ _ _

theorem whole_none (s:Nat) (op:Int) (w:World) (hs:s < 65536) (kk:Nat) (hk:pc s 13 3 = kk) (h4:((kk:Int) == 4) = false) (h0:((kk:Int) == 0) = false) (h15:pc s 15 1 = 0) (hr:pc s 7 5 = 0):Calls Tryz.prog 194 #[.int .u16 s,.int .i64 op] w fun e w'=>e = .returned (.agg (I7 0 0 0 0 0 0 0))∧Kp none w w':=by
  have CK:=hid (fun w=>kind_is s kk w hs hk)
  have CS:=hid (fun w=>stores_no s w hs h15)
  have CR:=hid (fun w=>rd_is s 0 w hs hr)
  clear hr
  clear hk h15
  clear hs
  have k:=(Kp.refl none w).alloc (I7 0 0 0 0 0 0 0) 38
  have b:=Has.new w (I7 0 0 0 0 0 0 0) 38
  have HK:=hid k;have HB:=hid b;clear k b
  go_enter Tryz.func194,Tryz.ntmps194
  go_wp2_with fail
  refine (CK.out _).mono ?_
  rintro e w1 ⟨rfl,hq⟩
  have k:=HK.out.trans (kd hq);have b:=HB.out.kp (kd hq) (by simp)
  clear HK HB hq;have HK:=hid k;have HB:=hid b;clear k b
  go_wp2_with fail
  refine (CK.out _).mono ?_
  rintro e w2 ⟨rfl,hq⟩
  have k:=HK.out.trans (kd hq);have b:=HB.out.kp (kd hq) (by simp)
  clear HK HB hq;have HK:=hid k;have HB:=hid b;clear k b
  go_wp2_with fail
  refine (CS.out _).mono ?_
  rintro e w3 ⟨rfl,hq⟩
  have k:=HK.out.trans (kd hq);have b:=HB.out.kp (kd hq) (by simp)
  clear HK HB hq;have HK:=hid k;have HB:=hid b;clear k b
  go_wp2_with fail
  refine (CR.out _).mono ?_
  rintro e w4 ⟨rfl,hq⟩
  have k:=HK.out.trans (kd hq);have b:=HB.out.kp (kd hq) (by simp)
  clear HK HB hq;have HK:=hid k;have HB:=hid b;clear k b
  have b:=HB.out;have k:=HK.out;clear HB HK
  obtain ⟨q0,q1,q2,q3,q4,q5,q6⟩:=b.seven
  have y:=b.free
  go_wp2
  (try simp only [Exit.inBlock,Exit.then])
  refine bodyPost_ret (results_cell_row rfl _ _ w.heap.size 38 _ (0,0) _ rfl (b.seven_set _ _ _ _ _ _ _) Tryz.underlying38 rfl (by kernel_rfl)) rfl ⟨rfl,?_⟩
  exact k.seven_set (Nat.le_refl _) _ _ _ _ _ _ _

theorem constant_li (s:Nat) (op:Int) (w:World) (hs:s < 65536) (hk:pc s 13 3 = 2):Calls Tryz.prog 193 #[.int .u16 s,.int .i64 op] w fun e w'=>e = .returned (.agg (I7 op (pc s 7 5:Nat) 0 0 (low (shiftN s:Nat) 6) 0 0))∧Kp none w w':=by
  have CK:=hid (fun w=>kind_is s 2 w hs hk)
  have CN:=hid (fun w=>number_any s w hs)
  generalize low (shiftN s:Nat) 6 = n at *
  have CR:=hid (fun w=>rd_is s _ w hs rfl)
  generalize pc s 7 5 = r at *
  clear hk
  clear hs
  have k:=(Kp.refl none w).alloc (I7 0 0 0 0 0 0 0) 38
  have b:=Has.new w (I7 0 0 0 0 0 0 0) 38
  have HK:=hid k;have HB:=hid b;clear k b
  go_enter Tryz.func193,Tryz.ntmps193
  go_wp2_with fail
  refine (CK.out _).mono ?_
  rintro e w1 ⟨rfl,hq⟩
  have k:=HK.out.trans (kd hq);have b:=HB.out.kp (kd hq) (by simp)
  clear HK HB hq;have HK:=hid k;have HB:=hid b;clear k b
  go_wp2_with fail
  refine (CR.out _).mono ?_
  rintro e w2 ⟨rfl,hq⟩
  have k:=HK.out.trans (kd hq);have b:=HB.out.kp (kd hq) (by simp)
  clear HK HB hq;have HK:=hid k;have HB:=hid b;clear k b
  go_wp2_with fail
  refine (CN.out _).mono ?_
  rintro e w3 ⟨rfl,hq⟩
  have k:=HK.out.trans (kd hq);have b:=HB.out.kp (kd hq) (by simp)
  clear HK HB hq;have HK:=hid k;have HB:=hid b;clear k b
  have b:=HB.out;have k:=HK.out;clear HB HK
  obtain ⟨q0,q1,q2,q3,q4,q5,q6⟩:=b.seven
  have y:=b.free
  go_wp2
  (try simp only [Exit.inBlock,Exit.then])
  refine bodyPost_ret (results_cell_row rfl _ _ w.heap.size 38 _ (0,0) _ rfl (b.seven_set _ _ _ _ _ _ _) Tryz.underlying38 rfl (by kernel_rfl)) rfl ⟨rfl,?_⟩
  exact k.seven_set (Nat.le_refl _) _ _ _ _ _ _ _

theorem constant_jump (s:Nat) (op:Int) (w:World) (hs:s < 65536) (hk:pc s 13 3 = 5):Calls Tryz.prog 193 #[.int .u16 s,.int .i64 op] w fun e w'=>e = .returned (.agg (I7 op 0 0 0 (low (jumpN s:Nat) 12) 0 0))∧Kp none w w':=by
  have CK:=hid (fun w=>kind_is s 5 w hs hk)
  have CJ:=hid (fun w=>jump_any s w hs)
  generalize low (jumpN s:Nat) 12 = j at *
  clear hk
  clear hs
  have k:=(Kp.refl none w).alloc (I7 0 0 0 0 0 0 0) 38
  have b:=Has.new w (I7 0 0 0 0 0 0 0) 38
  have HK:=hid k;have HB:=hid b;clear k b
  go_enter Tryz.func193,Tryz.ntmps193
  go_wp2_with fail
  refine (CK.out _).mono ?_
  rintro e w1 ⟨rfl,hq⟩
  have k:=HK.out.trans (kd hq);have b:=HB.out.kp (kd hq) (by simp)
  clear HK HB hq;have HK:=hid k;have HB:=hid b;clear k b
  go_wp2_with fail
  refine (CJ.out _).mono ?_
  rintro e w2 ⟨rfl,hq⟩
  have k:=HK.out.trans (kd hq);have b:=HB.out.kp (kd hq) (by simp)
  clear HK HB hq;have HK:=hid k;have HB:=hid b;clear k b
  have b:=HB.out;have k:=HK.out;clear HB HK
  obtain ⟨q0,q1,q2,q3,q4,q5,q6⟩:=b.seven
  have y:=b.free
  go_wp2
  (try simp only [Exit.inBlock,Exit.then])
  refine bodyPost_ret (results_cell_row rfl _ _ w.heap.size 38 _ (0,0) _ rfl (b.seven_set _ _ _ _ _ _ _) Tryz.underlying38 rfl (by kernel_rfl)) rfl ⟨rfl,?_⟩
  exact k.seven_set (Nat.le_refl _) _ _ _ _ _ _ _

theorem constant_beq (s:Nat) (w:World) (hs:s < 65536) (hk:pc s 13 3 = 6):Calls Tryz.prog 193 #[.int .u16 s,.int .i64 5] w fun e w'=>e = .returned (.agg (I7 5 0 ((pc s 7 3:Nat) + 8) 0 (low (branchN s:Nat) 9) 0 0))∧Kp none w w':=by
  have CK:=hid (fun w=>kind_is s 6 w hs hk)
  have CJ:=hid (fun w=>branch_any s w hs)
  generalize low (branchN s:Nat) 9 = j at *
  have C1:=hid (fun w=>smallRs1_is s _ w hs rfl)
  generalize pc s 7 3 = r1 at *
  clear hk
  clear hs
  have k:=(Kp.refl none w).alloc (I7 0 0 0 0 0 0 0) 38
  have b:=Has.new w (I7 0 0 0 0 0 0 0) 38
  have HK:=hid k;have HB:=hid b;clear k b
  go_enter Tryz.func193,Tryz.ntmps193
  go_wp2_with fail
  refine (CK.out _).mono ?_
  rintro e w1 ⟨rfl,hq⟩
  have k:=HK.out.trans (kd hq);have b:=HB.out.kp (kd hq) (by simp)
  clear HK HB hq;have HK:=hid k;have HB:=hid b;clear k b
  go_wp2_with fail
  refine (C1.out _).mono ?_
  rintro e w2 ⟨rfl,hq⟩
  have k:=HK.out.trans (kd hq);have b:=HB.out.kp (kd hq) (by simp)
  clear HK HB hq;have HK:=hid k;have HB:=hid b;clear k b
  go_wp2_with fail
  refine (CJ.out _).mono ?_
  rintro e w3 ⟨rfl,hq⟩
  have k:=HK.out.trans (kd hq);have b:=HB.out.kp (kd hq) (by simp)
  clear HK HB hq;have HK:=hid k;have HB:=hid b;clear k b
  have b:=HB.out;have k:=HK.out;clear HB HK
  obtain ⟨q0,q1,q2,q3,q4,q5,q6⟩:=b.seven
  have y:=b.free
  go_wp2
  (try simp only [Exit.inBlock,Exit.then])
  refine bodyPost_ret (results_cell_row rfl _ _ w.heap.size 38 _ (0,0) _ rfl (b.seven_set _ _ _ _ _ _ _) Tryz.underlying38 rfl (by kernel_rfl)) rfl ⟨rfl,?_⟩
  exact k.seven_set (Nat.le_refl _) _ _ _ _ _ _ _

theorem constant_bne (s:Nat) (w:World) (hs:s < 65536) (hk:pc s 13 3 = 7):Calls Tryz.prog 193 #[.int .u16 s,.int .i64 6] w fun e w'=>e = .returned (.agg (I7 6 0 ((pc s 7 3:Nat) + 8) 0 (low (branchN s:Nat) 9) 0 0))∧Kp none w w':=by
  have CK:=hid (fun w=>kind_is s 7 w hs hk)
  have CJ:=hid (fun w=>branch_any s w hs)
  generalize low (branchN s:Nat) 9 = j at *
  have C1:=hid (fun w=>smallRs1_is s _ w hs rfl)
  generalize pc s 7 3 = r1 at *
  clear hk
  clear hs
  have k:=(Kp.refl none w).alloc (I7 0 0 0 0 0 0 0) 38
  have b:=Has.new w (I7 0 0 0 0 0 0 0) 38
  have HK:=hid k;have HB:=hid b;clear k b
  go_enter Tryz.func193,Tryz.ntmps193
  go_wp2_with fail
  refine (CK.out _).mono ?_
  rintro e w1 ⟨rfl,hq⟩
  have k:=HK.out.trans (kd hq);have b:=HB.out.kp (kd hq) (by simp)
  clear HK HB hq;have HK:=hid k;have HB:=hid b;clear k b
  go_wp2_with fail
  refine (C1.out _).mono ?_
  rintro e w2 ⟨rfl,hq⟩
  have k:=HK.out.trans (kd hq);have b:=HB.out.kp (kd hq) (by simp)
  clear HK HB hq;have HK:=hid k;have HB:=hid b;clear k b
  go_wp2_with fail
  refine (CJ.out _).mono ?_
  rintro e w3 ⟨rfl,hq⟩
  have k:=HK.out.trans (kd hq);have b:=HB.out.kp (kd hq) (by simp)
  clear HK HB hq;have HK:=hid k;have HB:=hid b;clear k b
  have b:=HB.out;have k:=HK.out;clear HB HK
  obtain ⟨q0,q1,q2,q3,q4,q5,q6⟩:=b.seven
  have y:=b.free
  go_wp2
  (try simp only [Exit.inBlock,Exit.then])
  refine bodyPost_ret (results_cell_row rfl _ _ w.heap.size 38 _ (0,0) _ rfl (b.seven_set _ _ _ _ _ _ _) Tryz.underlying38 rfl (by kernel_rfl)) rfl ⟨rfl,?_⟩
  exact k.seven_set (Nat.le_refl _) _ _ _ _ _ _ _

theorem constant_addi (s:Nat) (w:World) (hs:s < 65536) (hk:pc s 13 3 = 0):Calls Tryz.prog 193 #[.int .u16 s,.int .i64 22] w fun e w'=>e = .returned (.agg (I7 22 (pc s 7 5:Nat) (pc s 7 5:Nat) 0 (low (shiftN s:Nat) 6) 0 0))∧Kp none w w':=by
  have CK:=hid (fun w=>kind_is s 0 w hs hk)
  have CN:=hid (fun w=>number_any s w hs)
  generalize low (shiftN s:Nat) 6 = n at *
  have CR:=hid (fun w=>rd_is s _ w hs rfl)
  generalize pc s 7 5 = r at *
  clear hk
  clear hs
  have k:=(Kp.refl none w).alloc (I7 0 0 0 0 0 0 0) 38
  have b:=Has.new w (I7 0 0 0 0 0 0 0) 38
  have HK:=hid k;have HB:=hid b;clear k b
  go_enter Tryz.func193,Tryz.ntmps193
  go_wp2_with fail
  refine (CK.out _).mono ?_
  rintro e w1 ⟨rfl,hq⟩
  have k:=HK.out.trans (kd hq);have b:=HB.out.kp (kd hq) (by simp)
  clear HK HB hq;have HK:=hid k;have HB:=hid b;clear k b
  go_wp2_with fail
  refine (CR.out _).mono ?_
  rintro e w2 ⟨rfl,hq⟩
  have k:=HK.out.trans (kd hq);have b:=HB.out.kp (kd hq) (by simp)
  clear HK HB hq;have HK:=hid k;have HB:=hid b;clear k b
  go_wp2_with fail
  refine (CR.out _).mono ?_
  rintro e w3 ⟨rfl,hq⟩
  have k:=HK.out.trans (kd hq);have b:=HB.out.kp (kd hq) (by simp)
  clear HK HB hq;have HK:=hid k;have HB:=hid b;clear k b
  go_wp2_with fail
  refine (CN.out _).mono ?_
  rintro e w4 ⟨rfl,hq⟩
  have k:=HK.out.trans (kd hq);have b:=HB.out.kp (kd hq) (by simp)
  clear HK HB hq;have HK:=hid k;have HB:=hid b;clear k b
  have b:=HB.out;have k:=HK.out;clear HB HK
  obtain ⟨q0,q1,q2,q3,q4,q5,q6⟩:=b.seven
  have y:=b.free
  go_wp2
  (try simp only [Exit.inBlock,Exit.then])
  refine bodyPost_ret (results_cell_row rfl _ _ w.heap.size 38 _ (0,0) _ rfl (b.seven_set _ _ _ _ _ _ _) Tryz.underlying38 rfl (by kernel_rfl)) rfl ⟨rfl,?_⟩
  exact k.seven_set (Nat.le_refl _) _ _ _ _ _ _ _

theorem constant_addiw (s:Nat) (w:World) (hs:s < 65536) (hk:pc s 13 3 = 1) (hr:(((pc s 7 5:Nat):Int) == 0) = false) (hr':(((pc s 7 5:Nat):Int) != 0) = true):Calls Tryz.prog 193 #[.int .u16 s,.int .i64 41] w fun e w'=>e = .returned (.agg (I7 41 (pc s 7 5:Nat) (pc s 7 5:Nat) 0 (low (shiftN s:Nat) 6) 0 0))∧Kp none w w':=by
  have CK:=hid (fun w=>kind_is s 1 w hs hk)
  have CN:=hid (fun w=>number_any s w hs)
  generalize low (shiftN s:Nat) 6 = n at *
  have CR:=hid (fun w=>rd_is s _ w hs rfl)
  generalize pc s 7 5 = r at *
  clear hk
  clear hs
  have k:=(Kp.refl none w).alloc (I7 0 0 0 0 0 0 0) 38
  have b:=Has.new w (I7 0 0 0 0 0 0 0) 38
  have HK:=hid k;have HB:=hid b;clear k b
  go_enter Tryz.func193,Tryz.ntmps193
  go_wp2_with fail
  refine (CK.out _).mono ?_
  rintro e w1 ⟨rfl,hq⟩
  have k:=HK.out.trans (kd hq);have b:=HB.out.kp (kd hq) (by simp)
  clear HK HB hq;have HK:=hid k;have HB:=hid b;clear k b
  go_wp2_with fail
  refine (CR.out _).mono ?_
  rintro e w2 ⟨rfl,hq⟩
  have k:=HK.out.trans (kd hq);have b:=HB.out.kp (kd hq) (by simp)
  clear HK HB hq;have HK:=hid k;have HB:=hid b;clear k b
  go_wp2_with fail
  refine (CR.out _).mono ?_
  rintro e w3 ⟨rfl,hq⟩
  have k:=HK.out.trans (kd hq);have b:=HB.out.kp (kd hq) (by simp)
  clear HK HB hq;have HK:=hid k;have HB:=hid b;clear k b
  go_wp2_with fail
  refine (CR.out _).mono ?_
  rintro e w4 ⟨rfl,hq⟩
  have k:=HK.out.trans (kd hq);have b:=HB.out.kp (kd hq) (by simp)
  clear HK HB hq;have HK:=hid k;have HB:=hid b;clear k b
  go_wp2_with fail
  refine (CN.out _).mono ?_
  rintro e w5 ⟨rfl,hq⟩
  have k:=HK.out.trans (kd hq);have b:=HB.out.kp (kd hq) (by simp)
  clear HK HB hq;have HK:=hid k;have HB:=hid b;clear k b
  have b:=HB.out;have k:=HK.out;clear HB HK
  obtain ⟨q0,q1,q2,q3,q4,q5,q6⟩:=b.seven
  have y:=b.free
  go_wp2
  (try simp only [Exit.inBlock,Exit.then])
  refine bodyPost_ret (results_cell_row rfl _ _ w.heap.size 38 _ (0,0) _ rfl (b.seven_set _ _ _ _ _ _ _) Tryz.underlying38 rfl (by kernel_rfl)) rfl ⟨rfl,?_⟩
  exact k.seven_set (Nat.le_refl _) _ _ _ _ _ _ _

theorem constant_none (s:Nat) (w:World) (hs:s < 65536) (hk:pc s 13 3 = 1) (hr:pc s 7 5 = 0):Calls Tryz.prog 193 #[.int .u16 s,.int .i64 41] w fun e w'=>e = .returned (.agg (I7 0 0 0 0 0 0 0))∧Kp none w w':=by
  have CK:=hid (fun w=>kind_is s 1 w hs hk)
  have CR:=hid (fun w=>rd_is s 0 w hs hr)
  clear hr
  clear hk
  clear hs
  have k:=(Kp.refl none w).alloc (I7 0 0 0 0 0 0 0) 38
  have b:=Has.new w (I7 0 0 0 0 0 0 0) 38
  have HK:=hid k;have HB:=hid b;clear k b
  go_enter Tryz.func193,Tryz.ntmps193
  go_wp2_with fail
  refine (CK.out _).mono ?_
  rintro e w1 ⟨rfl,hq⟩
  have k:=HK.out.trans (kd hq);have b:=HB.out.kp (kd hq) (by simp)
  clear HK HB hq;have HK:=hid k;have HB:=hid b;clear k b
  go_wp2_with fail
  refine (CR.out _).mono ?_
  rintro e w2 ⟨rfl,hq⟩
  have k:=HK.out.trans (kd hq);have b:=HB.out.kp (kd hq) (by simp)
  clear HK HB hq;have HK:=hid k;have HB:=hid b;clear k b
  have b:=HB.out;have k:=HK.out;clear HB HK
  obtain ⟨q0,q1,q2,q3,q4,q5,q6⟩:=b.seven
  have y:=b.free
  go_wp2
  (try simp only [Exit.inBlock,Exit.then])
  refine bodyPost_ret (results_cell_row rfl _ _ w.heap.size 38 _ (0,0) _ rfl (b.seven_set _ _ _ _ _ _ _) Tryz.underlying38 rfl (by kernel_rfl)) rfl ⟨rfl,?_⟩
  exact k.seven_set (Nat.le_refl _) _ _ _ _ _ _ _

theorem whole_move (s:Nat) (op:Int) (w:World) (hs:s < 65536) (hk:pc s 13 3 = 4) (a0 a1 a2 a3 a4 a5 a6:Int) (HM:∀ w',Kp none w w' → Calls Tryz.prog 229 #[.int .u16 s,.int .i64 op] w' fun e w''=>e = .returned (.agg (I7 a0 a1 a2 a3 a4 a5 a6))∧Kp none w' w''):Calls Tryz.prog 194 #[.int .u16 s,.int .i64 op] w fun e w'=>e = .returned (.agg (I7 a0 a1 a2 a3 a4 a5 a6))∧Kp none w w':=by
  have CK:=hid (fun w=>kind_is s 4 w hs hk)
  have CM:=hid HM
  clear hs hk HM
  have k:=(Kp.refl none w).alloc (I7 0 0 0 0 0 0 0) 38
  have b:=Has.new w (I7 0 0 0 0 0 0 0) 38
  have HK:=hid k;have HB:=hid b;clear k b
  go_enter Tryz.func194,Tryz.ntmps194
  go_wp2_with fail
  refine (CK.out _).mono ?_
  rintro e w0 ⟨rfl,hq⟩
  have k:=HK.out.trans (kd hq);have b:=HB.out.kp (kd hq) (by simp)
  clear HK HB hq;have HK:=hid k;have HB:=hid b;clear k b
  go_wp2_with fail
  refine (CK.out _).mono ?_
  rintro e w1 ⟨rfl,hq⟩
  have k:=HK.out.trans (kd hq);have b:=HB.out.kp (kd hq) (by simp)
  clear HK HB hq;have HK:=hid k;have HB:=hid b;clear k b
  go_wp2_with fail
  refine (CM.out _ HK.out).mono ?_
  rintro e wz ⟨rfl,hq⟩
  have k:=HK.out.trans hq;have b:=HB.out.kp hq (by simp)
  clear HK HB hq CM CK
  obtain ⟨q0,q1,q2,q3,q4,q5,q6⟩:=b.seven
  have y:=b.free
  go_wp2
  (try simp only [Exit.inBlock,Exit.then])
  refine bodyPost_ret (results_cell_row rfl _ _ w.heap.size 38 _ (0,0) _ rfl (b.seven_set _ _ _ _ _ _ _) Tryz.underlying38 rfl (by kernel_rfl)) rfl ⟨rfl,?_⟩
  exact k.seven_set (Nat.le_refl _) _ _ _ _ _ _ _

theorem constant_upper (s:Nat) (op:Int) (w:World) (hs:s < 65536) (hk:pc s 13 3 = 3) (a0 a1 a2 a3 a4 a5 a6:Int) (HM:∀ w',Kp none w w' → Calls Tryz.prog 224 #[.int .u16 s,.int .i64 op] w' fun e w''=>e = .returned (.agg (I7 a0 a1 a2 a3 a4 a5 a6))∧Kp none w' w''):Calls Tryz.prog 193 #[.int .u16 s,.int .i64 op] w fun e w'=>e = .returned (.agg (I7 a0 a1 a2 a3 a4 a5 a6))∧Kp none w w':=by
  have CK:=hid (fun w=>kind_is s 3 w hs hk)
  have CM:=hid HM
  clear hs hk HM
  have k:=(Kp.refl none w).alloc (I7 0 0 0 0 0 0 0) 38
  have b:=Has.new w (I7 0 0 0 0 0 0 0) 38
  have HK:=hid k;have HB:=hid b;clear k b
  go_enter Tryz.func193,Tryz.ntmps193
  go_wp2_with fail
  refine (CK.out _).mono ?_
  rintro e w0 ⟨rfl,hq⟩
  have k:=HK.out.trans (kd hq);have b:=HB.out.kp (kd hq) (by simp)
  clear HK HB hq;have HK:=hid k;have HB:=hid b;clear k b
  go_wp2_with fail
  refine (CM.out _ HK.out).mono ?_
  rintro e wz ⟨rfl,hq⟩
  have k:=HK.out.trans hq;have b:=HB.out.kp hq (by simp)
  clear HK HB hq CM CK
  obtain ⟨q0,q1,q2,q3,q4,q5,q6⟩:=b.seven
  have y:=b.free
  go_wp2
  (try simp only [Exit.inBlock,Exit.then])
  refine bodyPost_ret (results_cell_row rfl _ _ w.heap.size 38 _ (0,0) _ rfl (b.seven_set _ _ _ _ _ _ _) Tryz.underlying38 rfl (by kernel_rfl)) rfl ⟨rfl,?_⟩
  exact k.seven_set (Nat.le_refl _) _ _ _ _ _ _ _

theorem constant_reckon (s:Nat) (op:Int) (w:World) (hs:s < 65536) (hk:pc s 13 3 = 4) (a0 a1 a2 a3 a4 a5 a6:Int) (HM:∀ w',Kp none w w' → Calls Tryz.prog 225 #[.int .u16 s,.int .i64 op] w' fun e w''=>e = .returned (.agg (I7 a0 a1 a2 a3 a4 a5 a6))∧Kp none w' w''):Calls Tryz.prog 193 #[.int .u16 s,.int .i64 op] w fun e w'=>e = .returned (.agg (I7 a0 a1 a2 a3 a4 a5 a6))∧Kp none w w':=by
  have CK:=hid (fun w=>kind_is s 4 w hs hk)
  have CM:=hid HM
  clear hs hk HM
  have k:=(Kp.refl none w).alloc (I7 0 0 0 0 0 0 0) 38
  have b:=Has.new w (I7 0 0 0 0 0 0 0) 38
  have HK:=hid k;have HB:=hid b;clear k b
  go_enter Tryz.func193,Tryz.ntmps193
  go_wp2_with fail
  refine (CK.out _).mono ?_
  rintro e w0 ⟨rfl,hq⟩
  have k:=HK.out.trans (kd hq);have b:=HB.out.kp (kd hq) (by simp)
  clear HK HB hq;have HK:=hid k;have HB:=hid b;clear k b
  go_wp2_with fail
  refine (CM.out _ HK.out).mono ?_
  rintro e wz ⟨rfl,hq⟩
  have k:=HK.out.trans hq;have b:=HB.out.kp hq (by simp)
  clear HK HB hq CM CK
  obtain ⟨q0,q1,q2,q3,q4,q5,q6⟩:=b.seven
  have y:=b.free
  go_wp2
  (try simp only [Exit.inBlock,Exit.then])
  refine bodyPost_ret (results_cell_row rfl _ _ w.heap.size 38 _ (0,0) _ rfl (b.seven_set _ _ _ _ _ _ _) Tryz.underlying38 rfl (by kernel_rfl)) rfl ⟨rfl,?_⟩
  exact k.seven_set (Nat.le_refl _) _ _ _ _ _ _ _

end Go.Proofs.YtlhpodholnfppaaGreatDoor.Td
