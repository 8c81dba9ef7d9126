/-
  Contracts of the reference's Expand, a kind each.
-/
import Derived.Test.YtbngjbmfkekdnaaGreatDoorT25
import Derived.Deep.Cut
import Derived.Lib.Hide
set_option linter.unusedVariables false
set_option linter.unusedSimpArgs false
set_option maxHeartbeats 16000000
open Go.Lib (hid)
namespace Go.Proofs.YtbngjbmfkekdnaaGreatDoor.Td
open Go.RowKit
set_option maxRecDepth 100000 in
theorem refx_slli (s:Nat) (w:World) (hs:s < 65536) (hg:pc s 0 2 = 2) (hk:pc s 13 3 = 0) :
    Calls Tryz.prog 51 #[.int .u16 s] w fun e w'=>e = .returned (.tuple #[.agg (I7 28 (pc s 7 5:Nat) (pc s 7 5:Nat) 0 (shiftN s:Nat) 0 2),.bool true])∧Kp none w w':=by
  have f1:=FrR.two w (I7 0 0 0 0 0 0 2)
  have Cg:=hid (fun w=>F_at s 1 0 2 w hs (by decide) (by decide) rfl)
  have Ck:=hid (fun w=>F_at s 15 13 3 w hs (by decide) (by decide) rfl)
  have Hg:pc s 0 2 < 4:=pc_lt s 0 2
  have Hk:pc s 13 3 < 8:=pc_lt s 13 3
  rw [hg] at Cg Hg
  rw [hk] at Ck Hk
  clear hg hk
  have Crd:=hid (fun w=>F_at s 11 7 5 w hs (by decide) (by decide) rfl)
  have Hrd:pc s 7 5 < 32:=pc_lt s 7 5
  generalize pc s 7 5 = rd at *
  have Cr2:=hid (fun w=>F_at s 6 2 5 w hs (by decide) (by decide) rfl)
  have Hr2:pc s 2 5 < 32:=pc_lt s 2 5
  generalize pc s 2 5 = r2 at *
  have Ca:=hid (fun w=>F_at s 9 7 3 w hs (by decide) (by decide) rfl)
  have Ha:pc s 7 3 < 8:=pc_lt s 7 3
  generalize pc s 7 3 = a at *
  have Cb:=hid (fun w=>F_at s 4 2 3 w hs (by decide) (by decide) rfl)
  have Hb:pc s 2 3 < 8:=pc_lt s 2 3
  generalize pc s 2 3 = b at *
  have Psix:=hid (fun w0 w1 hw=>pieces_six s w0 w1 hw hs)
  have Hsix:shiftN s < 64:=six_lt s
  generalize shiftN s = x6 at *
  have Ssix:=hid (fun w=>S_any (x6:Int) 6 w (by decide) (by decide) (by omega) (by omega))
  have lsix:-32 ≤ low (x6:Int) 6:=low_lo _ 6
  have msix:low (x6:Int) 6 < 32:=low_hi _ 6 (by decide)
  generalize low (x6:Int) 6 = d6 at *
  have Pwords:=hid (fun w0 w1 hw=>pieces_words s w0 w1 hw hs)
  have Hwords:wordsN s < 128:=words_lt s
  generalize wordsN s = xw at *
  have Pdoubles:=hid (fun w0 w1 hw=>pieces_doubles s w0 w1 hw hs)
  have Hdoubles:doublesN s < 256:=doubles_lt s
  generalize doublesN s = xd at *
  have Pbranch:=hid (fun w0 w1 hw=>pieces_branch s w0 w1 hw hs)
  have Hbranch:branchN s < 512:=branch_lt s
  generalize branchN s = xb at *
  have Sbranch:=hid (fun w=>S_any (xb:Int) 9 w (by decide) (by decide) (by omega) (by omega))
  have lbranch:-256 ≤ low (xb:Int) 9:=low_lo _ 9
  have mbranch:low (xb:Int) 9 < 256:=low_hi _ 9 (by decide)
  generalize low (xb:Int) 9 = d9 at *
  go_enter Tryz.func51,Tryz.ntmps51
  go_wp2_with fail
  refine (Crd.out _).mono ?_
  rintro e wx ⟨rfl,rfl⟩
  generalize (w.alloc (.cells (I7 0 0 0 0 0 0 0) 47)).alloc (.cells (I7 0 0 0 0 0 0 2) 47) = w1 at f1 ⊢
  go_wp2_with fail
  refine (Cr2.out _).mono ?_
  rintro e wx ⟨rfl,rfl⟩
  go_wp2_with fail
  refine (Ca.out _).mono ?_
  rintro e wx ⟨rfl,rfl⟩
  go_wp2_with fail
  refine (Cb.out _).mono ?_
  rintro e wx ⟨rfl,rfl⟩
  go_wp2_with fail
  refine (Psix.out w1 _ (by rfl)).mono ?_
  rintro e wx ⟨rfl,rfl⟩
  have f2:=f1.alloc #[.int .i64 12,.int .i64 12,.int .i64 6,.int .i64 2] 3
  generalize w1.alloc (.cells #[.int .i64 12,.int .i64 12,.int .i64 6,.int .i64 2] 3) = w2 at f2 ⊢
  clear f1
  go_wp2_with fail
  refine (Ssix.out _).mono ?_
  rintro e wx ⟨rfl,rfl⟩
  go_wp2_with fail
  refine (Pwords.out w2 _ (by rfl)).mono ?_
  rintro e wx ⟨rfl,rfl⟩
  have f3:=f2.alloc #[.int .i64 5,.int .i64 5,.int .i64 12,.int .i64 10,.int .i64 6,.int .i64 6] 3
  generalize w2.alloc (.cells #[.int .i64 5,.int .i64 5,.int .i64 12,.int .i64 10,.int .i64 6,.int .i64 6] 3) = w3 at f3 ⊢
  clear f2
  go_wp2_with fail
  refine (Pdoubles.out w3 _ (by rfl)).mono ?_
  rintro e wx ⟨rfl,rfl⟩
  have f4:=f3.alloc #[.int .i64 6,.int .i64 5,.int .i64 12,.int .i64 10] 3
  generalize w3.alloc (.cells #[.int .i64 6,.int .i64 5,.int .i64 12,.int .i64 10] 3) = w4 at f4 ⊢
  clear f3
  go_wp2_with fail
  refine (Pbranch.out w4 _ (by rfl)).mono ?_
  rintro e wx ⟨rfl,rfl⟩
  have f5:=f4.alloc #[.int .i64 12,.int .i64 12,.int .i64 6,.int .i64 5,.int .i64 2,.int .i64 2,.int .i64 11,.int .i64 10,.int .i64 4,.int .i64 3] 3
  generalize w4.alloc (.cells #[.int .i64 12,.int .i64 12,.int .i64 6,.int .i64 5,.int .i64 2,.int .i64 2,.int .i64 11,.int .i64 10,.int .i64 4,.int .i64 3] 3) = w5 at f5 ⊢
  clear f4
  go_wp2_with fail
  refine (Sbranch.out _).mono ?_
  rintro e wx ⟨rfl,rfl⟩
  go_wp2_with fail
  refine (Cg.out _).mono ?_
  rintro e wx ⟨rfl,rfl⟩
  go_wp2_with fail
  refine (Ck.out _).mono ?_
  rintro e wx ⟨rfl,rfl⟩
  obtain ⟨b0,b1,b2,b3,b4,b5,b6⟩:=f5.box.seven
  have z:=f5.box.free
  go_upto_region 60 with (fail)
  have f6:FrR w (I7 28 (rd:Int) (rd:Int) 0 (x6:Int) 0 0) _:=(((((((f5.set 0 (.int .i64 28)).set 1 (.int .i64 (rd:Int))).set 2 (.int .i64 (rd:Int))).set 3 (.int .i64 0)).set 4 (.int .i64 (x6:Int))).set 5 (.int .i64 0)).set 6 (.int .i64 0))
  generalize (((((((w5.setCell ⟨w.heap.size + 1,0,none⟩ (.int .i64 28)).setCell ⟨w.heap.size + 1,1,none⟩ (.int .i64 (rd:Int))).setCell ⟨w.heap.size + 1,2,none⟩ (.int .i64 (rd:Int))).setCell ⟨w.heap.size + 1,3,none⟩ (.int .i64 0)).setCell ⟨w.heap.size + 1,4,none⟩ (.int .i64 (x6:Int))).setCell ⟨w.heap.size + 1,5,none⟩ (.int .i64 0)).setCell ⟨w.heap.size + 1,6,none⟩ (.int .i64 0)) = w6 at f6 ⊢
  clear b0 b1 b2 b3 b4 b5 b6 z f5
  obtain ⟨b0,b1,b2,b3,b4,b5,b6⟩:=f6.box.seven
  have z:=f6.box.free
  obtain ⟨q0,q1,q2,q3,q4,q5,q6⟩:=f6.res.seven
  have y:=f6.res.free
  go_wp2
  have g:=f6.set 6 (.int .i64 2)
  (try simp only [Exit.inBlock,Exit.then])
  refine bodyPost_ret (results_twoC rfl _ _ w.heap.size _ _ _ _ _ _ _ rfl (g.res.seven_set _ _ _ _ _ _ _)) rfl ⟨rfl,?_⟩
  exact g.kp.seven_set (Nat.le_refl _) _ _ _ _ _ _ _

set_option maxRecDepth 100000 in
theorem refx_lwsp0 (s:Nat) (w:World) (hs:s < 65536) (hg:pc s 0 2 = 2) (hk:pc s 13 3 = 2) (hr:pc s 7 5 = 0) :
    Calls Tryz.prog 51 #[.int .u16 s] w fun e w'=>e = .returned (.tuple #[.agg (I7 0 0 0 0 0 0 0),.bool false])∧Kp none w w':=by
  have f1:=FrR.two w (I7 0 0 0 0 0 0 2)
  have Cg:=hid (fun w=>F_at s 1 0 2 w hs (by decide) (by decide) rfl)
  have Ck:=hid (fun w=>F_at s 15 13 3 w hs (by decide) (by decide) rfl)
  have Hg:pc s 0 2 < 4:=pc_lt s 0 2
  have Hk:pc s 13 3 < 8:=pc_lt s 13 3
  rw [hg] at Cg Hg
  rw [hk] at Ck Hk
  clear hg hk
  have Crd:=hid (fun w=>F_at s 11 7 5 w hs (by decide) (by decide) rfl)
  have Hrd:pc s 7 5 < 32:=pc_lt s 7 5
  generalize pc s 7 5 = rd at *
  have Cr2:=hid (fun w=>F_at s 6 2 5 w hs (by decide) (by decide) rfl)
  have Hr2:pc s 2 5 < 32:=pc_lt s 2 5
  generalize pc s 2 5 = r2 at *
  have Ca:=hid (fun w=>F_at s 9 7 3 w hs (by decide) (by decide) rfl)
  have Ha:pc s 7 3 < 8:=pc_lt s 7 3
  generalize pc s 7 3 = a at *
  have Cb:=hid (fun w=>F_at s 4 2 3 w hs (by decide) (by decide) rfl)
  have Hb:pc s 2 3 < 8:=pc_lt s 2 3
  generalize pc s 2 3 = b at *
  have Psix:=hid (fun w0 w1 hw=>pieces_six s w0 w1 hw hs)
  have Hsix:shiftN s < 64:=six_lt s
  generalize shiftN s = x6 at *
  have Ssix:=hid (fun w=>S_any (x6:Int) 6 w (by decide) (by decide) (by omega) (by omega))
  have lsix:-32 ≤ low (x6:Int) 6:=low_lo _ 6
  have msix:low (x6:Int) 6 < 32:=low_hi _ 6 (by decide)
  generalize low (x6:Int) 6 = d6 at *
  have Pwords:=hid (fun w0 w1 hw=>pieces_words s w0 w1 hw hs)
  have Hwords:wordsN s < 128:=words_lt s
  generalize wordsN s = xw at *
  have Pdoubles:=hid (fun w0 w1 hw=>pieces_doubles s w0 w1 hw hs)
  have Hdoubles:doublesN s < 256:=doubles_lt s
  generalize doublesN s = xd at *
  have Pbranch:=hid (fun w0 w1 hw=>pieces_branch s w0 w1 hw hs)
  have Hbranch:branchN s < 512:=branch_lt s
  generalize branchN s = xb at *
  have Sbranch:=hid (fun w=>S_any (xb:Int) 9 w (by decide) (by decide) (by omega) (by omega))
  have lbranch:-256 ≤ low (xb:Int) 9:=low_lo _ 9
  have mbranch:low (xb:Int) 9 < 256:=low_hi _ 9 (by decide)
  generalize low (xb:Int) 9 = d9 at *
  subst hr
  go_enter Tryz.func51,Tryz.ntmps51
  go_wp2_with fail
  refine (Crd.out _).mono ?_
  rintro e wx ⟨rfl,rfl⟩
  generalize (w.alloc (.cells (I7 0 0 0 0 0 0 0) 47)).alloc (.cells (I7 0 0 0 0 0 0 2) 47) = w1 at f1 ⊢
  go_wp2_with fail
  refine (Cr2.out _).mono ?_
  rintro e wx ⟨rfl,rfl⟩
  go_wp2_with fail
  refine (Ca.out _).mono ?_
  rintro e wx ⟨rfl,rfl⟩
  go_wp2_with fail
  refine (Cb.out _).mono ?_
  rintro e wx ⟨rfl,rfl⟩
  go_wp2_with fail
  refine (Psix.out w1 _ (by rfl)).mono ?_
  rintro e wx ⟨rfl,rfl⟩
  have f2:=f1.alloc #[.int .i64 12,.int .i64 12,.int .i64 6,.int .i64 2] 3
  generalize w1.alloc (.cells #[.int .i64 12,.int .i64 12,.int .i64 6,.int .i64 2] 3) = w2 at f2 ⊢
  clear f1
  go_wp2_with fail
  refine (Ssix.out _).mono ?_
  rintro e wx ⟨rfl,rfl⟩
  go_wp2_with fail
  refine (Pwords.out w2 _ (by rfl)).mono ?_
  rintro e wx ⟨rfl,rfl⟩
  have f3:=f2.alloc #[.int .i64 5,.int .i64 5,.int .i64 12,.int .i64 10,.int .i64 6,.int .i64 6] 3
  generalize w2.alloc (.cells #[.int .i64 5,.int .i64 5,.int .i64 12,.int .i64 10,.int .i64 6,.int .i64 6] 3) = w3 at f3 ⊢
  clear f2
  go_wp2_with fail
  refine (Pdoubles.out w3 _ (by rfl)).mono ?_
  rintro e wx ⟨rfl,rfl⟩
  have f4:=f3.alloc #[.int .i64 6,.int .i64 5,.int .i64 12,.int .i64 10] 3
  generalize w3.alloc (.cells #[.int .i64 6,.int .i64 5,.int .i64 12,.int .i64 10] 3) = w4 at f4 ⊢
  clear f3
  go_wp2_with fail
  refine (Pbranch.out w4 _ (by rfl)).mono ?_
  rintro e wx ⟨rfl,rfl⟩
  have f5:=f4.alloc #[.int .i64 12,.int .i64 12,.int .i64 6,.int .i64 5,.int .i64 2,.int .i64 2,.int .i64 11,.int .i64 10,.int .i64 4,.int .i64 3] 3
  generalize w4.alloc (.cells #[.int .i64 12,.int .i64 12,.int .i64 6,.int .i64 5,.int .i64 2,.int .i64 2,.int .i64 11,.int .i64 10,.int .i64 4,.int .i64 3] 3) = w5 at f5 ⊢
  clear f4
  go_wp2_with fail
  refine (Sbranch.out _).mono ?_
  rintro e wx ⟨rfl,rfl⟩
  go_wp2_with fail
  refine (Cg.out _).mono ?_
  rintro e wx ⟨rfl,rfl⟩
  go_wp2_with fail
  refine (Ck.out _).mono ?_
  rintro e wx ⟨rfl,rfl⟩
  obtain ⟨b0,b1,b2,b3,b4,b5,b6⟩:=f5.box.seven
  have z:=f5.box.free
  obtain ⟨q0,q1,q2,q3,q4,q5,q6⟩:=f5.res.seven
  have y:=f5.res.free
  go_wp2
  have g:=f5
  (try simp only [Exit.inBlock,Exit.then])
  refine bodyPost_ret (results_twoC rfl _ _ w.heap.size _ _ _ _ _ _ _ rfl (g.res.seven_set _ _ _ _ _ _ _)) rfl ⟨rfl,?_⟩
  exact g.kp.seven_set (Nat.le_refl _) _ _ _ _ _ _ _

set_option maxRecDepth 100000 in
theorem refx_lwsp (s:Nat) (w:World) (hs:s < 65536) (hg:pc s 0 2 = 2) (hk:pc s 13 3 = 2) (hr:0 < pc s 7 5) :
    Calls Tryz.prog 51 #[.int .u16 s] w fun e w'=>e = .returned (.tuple #[.agg (I7 13 (pc s 7 5:Nat) 2 0 (loadW s:Nat) 0 2),.bool true])∧Kp none w w':=by
  have f1:=FrR.two w (I7 0 0 0 0 0 0 2)
  have Cg:=hid (fun w=>F_at s 1 0 2 w hs (by decide) (by decide) rfl)
  have Ck:=hid (fun w=>F_at s 15 13 3 w hs (by decide) (by decide) rfl)
  have Hg:pc s 0 2 < 4:=pc_lt s 0 2
  have Hk:pc s 13 3 < 8:=pc_lt s 13 3
  rw [hg] at Cg Hg
  rw [hk] at Ck Hk
  clear hg hk
  have Ploadw:=hid (fun w0 w1 hw=>pieces_loadw s w0 w1 hw hs)
  have Hloadw:loadW s < 256:=loadw_lt s
  generalize loadW s = xl at *
  have Crd:=hid (fun w=>F_at s 11 7 5 w hs (by decide) (by decide) rfl)
  have Hrd:pc s 7 5 < 32:=pc_lt s 7 5
  generalize pc s 7 5 = rd at *
  have Cr2:=hid (fun w=>F_at s 6 2 5 w hs (by decide) (by decide) rfl)
  have Hr2:pc s 2 5 < 32:=pc_lt s 2 5
  generalize pc s 2 5 = r2 at *
  have Ca:=hid (fun w=>F_at s 9 7 3 w hs (by decide) (by decide) rfl)
  have Ha:pc s 7 3 < 8:=pc_lt s 7 3
  generalize pc s 7 3 = a at *
  have Cb:=hid (fun w=>F_at s 4 2 3 w hs (by decide) (by decide) rfl)
  have Hb:pc s 2 3 < 8:=pc_lt s 2 3
  generalize pc s 2 3 = b at *
  have Psix:=hid (fun w0 w1 hw=>pieces_six s w0 w1 hw hs)
  have Hsix:shiftN s < 64:=six_lt s
  generalize shiftN s = x6 at *
  have Ssix:=hid (fun w=>S_any (x6:Int) 6 w (by decide) (by decide) (by omega) (by omega))
  have lsix:-32 ≤ low (x6:Int) 6:=low_lo _ 6
  have msix:low (x6:Int) 6 < 32:=low_hi _ 6 (by decide)
  generalize low (x6:Int) 6 = d6 at *
  have Pwords:=hid (fun w0 w1 hw=>pieces_words s w0 w1 hw hs)
  have Hwords:wordsN s < 128:=words_lt s
  generalize wordsN s = xw at *
  have Pdoubles:=hid (fun w0 w1 hw=>pieces_doubles s w0 w1 hw hs)
  have Hdoubles:doublesN s < 256:=doubles_lt s
  generalize doublesN s = xd at *
  have Pbranch:=hid (fun w0 w1 hw=>pieces_branch s w0 w1 hw hs)
  have Hbranch:branchN s < 512:=branch_lt s
  generalize branchN s = xb at *
  have Sbranch:=hid (fun w=>S_any (xb:Int) 9 w (by decide) (by decide) (by omega) (by omega))
  have lbranch:-256 ≤ low (xb:Int) 9:=low_lo _ 9
  have mbranch:low (xb:Int) 9 < 256:=low_hi _ 9 (by decide)
  generalize low (xb:Int) 9 = d9 at *
  have hr':(0:Int) < (rd:Int):=by omega
  go_enter Tryz.func51,Tryz.ntmps51
  go_wp2_with fail
  refine (Crd.out _).mono ?_
  rintro e wx ⟨rfl,rfl⟩
  generalize (w.alloc (.cells (I7 0 0 0 0 0 0 0) 47)).alloc (.cells (I7 0 0 0 0 0 0 2) 47) = w1 at f1 ⊢
  go_wp2_with fail
  refine (Cr2.out _).mono ?_
  rintro e wx ⟨rfl,rfl⟩
  go_wp2_with fail
  refine (Ca.out _).mono ?_
  rintro e wx ⟨rfl,rfl⟩
  go_wp2_with fail
  refine (Cb.out _).mono ?_
  rintro e wx ⟨rfl,rfl⟩
  go_wp2_with fail
  refine (Psix.out w1 _ (by rfl)).mono ?_
  rintro e wx ⟨rfl,rfl⟩
  have f2:=f1.alloc #[.int .i64 12,.int .i64 12,.int .i64 6,.int .i64 2] 3
  generalize w1.alloc (.cells #[.int .i64 12,.int .i64 12,.int .i64 6,.int .i64 2] 3) = w2 at f2 ⊢
  clear f1
  go_wp2_with fail
  refine (Ssix.out _).mono ?_
  rintro e wx ⟨rfl,rfl⟩
  go_wp2_with fail
  refine (Pwords.out w2 _ (by rfl)).mono ?_
  rintro e wx ⟨rfl,rfl⟩
  have f3:=f2.alloc #[.int .i64 5,.int .i64 5,.int .i64 12,.int .i64 10,.int .i64 6,.int .i64 6] 3
  generalize w2.alloc (.cells #[.int .i64 5,.int .i64 5,.int .i64 12,.int .i64 10,.int .i64 6,.int .i64 6] 3) = w3 at f3 ⊢
  clear f2
  go_wp2_with fail
  refine (Pdoubles.out w3 _ (by rfl)).mono ?_
  rintro e wx ⟨rfl,rfl⟩
  have f4:=f3.alloc #[.int .i64 6,.int .i64 5,.int .i64 12,.int .i64 10] 3
  generalize w3.alloc (.cells #[.int .i64 6,.int .i64 5,.int .i64 12,.int .i64 10] 3) = w4 at f4 ⊢
  clear f3
  go_wp2_with fail
  refine (Pbranch.out w4 _ (by rfl)).mono ?_
  rintro e wx ⟨rfl,rfl⟩
  have f5:=f4.alloc #[.int .i64 12,.int .i64 12,.int .i64 6,.int .i64 5,.int .i64 2,.int .i64 2,.int .i64 11,.int .i64 10,.int .i64 4,.int .i64 3] 3
  generalize w4.alloc (.cells #[.int .i64 12,.int .i64 12,.int .i64 6,.int .i64 5,.int .i64 2,.int .i64 2,.int .i64 11,.int .i64 10,.int .i64 4,.int .i64 3] 3) = w5 at f5 ⊢
  clear f4
  go_wp2_with fail
  refine (Sbranch.out _).mono ?_
  rintro e wx ⟨rfl,rfl⟩
  go_wp2_with fail
  refine (Cg.out _).mono ?_
  rintro e wx ⟨rfl,rfl⟩
  go_wp2_with fail
  refine (Ck.out _).mono ?_
  rintro e wx ⟨rfl,rfl⟩
  go_wp2_with fail
  refine (Ploadw.out w5 _ (by rfl)).mono ?_
  rintro e wx ⟨rfl,rfl⟩
  have f6:=f5.alloc #[.int .i64 3,.int .i64 2,.int .i64 12,.int .i64 12,.int .i64 6,.int .i64 4] 3
  generalize w5.alloc (.cells #[.int .i64 3,.int .i64 2,.int .i64 12,.int .i64 12,.int .i64 6,.int .i64 4] 3) = w6 at f6 ⊢
  clear f5
  obtain ⟨b0,b1,b2,b3,b4,b5,b6⟩:=f6.box.seven
  have z:=f6.box.free
  go_upto_region 60 with (fail)
  have f7:FrR w (I7 13 (rd:Int) 2 0 (xl:Int) 0 0) _:=(((((((f6.set 0 (.int .i64 13)).set 1 (.int .i64 (rd:Int))).set 2 (.int .i64 2)).set 3 (.int .i64 0)).set 4 (.int .i64 (xl:Int))).set 5 (.int .i64 0)).set 6 (.int .i64 0))
  generalize (((((((w6.setCell ⟨w.heap.size + 1,0,none⟩ (.int .i64 13)).setCell ⟨w.heap.size + 1,1,none⟩ (.int .i64 (rd:Int))).setCell ⟨w.heap.size + 1,2,none⟩ (.int .i64 2)).setCell ⟨w.heap.size + 1,3,none⟩ (.int .i64 0)).setCell ⟨w.heap.size + 1,4,none⟩ (.int .i64 (xl:Int))).setCell ⟨w.heap.size + 1,5,none⟩ (.int .i64 0)).setCell ⟨w.heap.size + 1,6,none⟩ (.int .i64 0)) = w7 at f7 ⊢
  clear b0 b1 b2 b3 b4 b5 b6 z f6
  obtain ⟨b0,b1,b2,b3,b4,b5,b6⟩:=f7.box.seven
  have z:=f7.box.free
  obtain ⟨q0,q1,q2,q3,q4,q5,q6⟩:=f7.res.seven
  have y:=f7.res.free
  go_wp2
  have g:=f7.set 6 (.int .i64 2)
  (try simp only [Exit.inBlock,Exit.then])
  refine bodyPost_ret (results_twoC rfl _ _ w.heap.size _ _ _ _ _ _ _ rfl (g.res.seven_set _ _ _ _ _ _ _)) rfl ⟨rfl,?_⟩
  exact g.kp.seven_set (Nat.le_refl _) _ _ _ _ _ _ _

set_option maxRecDepth 100000 in
theorem refx_ldsp0 (s:Nat) (w:World) (hs:s < 65536) (hg:pc s 0 2 = 2) (hk:pc s 13 3 = 3) (hr:pc s 7 5 = 0) :
    Calls Tryz.prog 51 #[.int .u16 s] w fun e w'=>e = .returned (.tuple #[.agg (I7 0 0 0 0 0 0 0),.bool false])∧Kp none w w':=by
  have f1:=FrR.two w (I7 0 0 0 0 0 0 2)
  have Cg:=hid (fun w=>F_at s 1 0 2 w hs (by decide) (by decide) rfl)
  have Ck:=hid (fun w=>F_at s 15 13 3 w hs (by decide) (by decide) rfl)
  have Hg:pc s 0 2 < 4:=pc_lt s 0 2
  have Hk:pc s 13 3 < 8:=pc_lt s 13 3
  rw [hg] at Cg Hg
  rw [hk] at Ck Hk
  clear hg hk
  have Crd:=hid (fun w=>F_at s 11 7 5 w hs (by decide) (by decide) rfl)
  have Hrd:pc s 7 5 < 32:=pc_lt s 7 5
  generalize pc s 7 5 = rd at *
  have Cr2:=hid (fun w=>F_at s 6 2 5 w hs (by decide) (by decide) rfl)
  have Hr2:pc s 2 5 < 32:=pc_lt s 2 5
  generalize pc s 2 5 = r2 at *
  have Ca:=hid (fun w=>F_at s 9 7 3 w hs (by decide) (by decide) rfl)
  have Ha:pc s 7 3 < 8:=pc_lt s 7 3
  generalize pc s 7 3 = a at *
  have Cb:=hid (fun w=>F_at s 4 2 3 w hs (by decide) (by decide) rfl)
  have Hb:pc s 2 3 < 8:=pc_lt s 2 3
  generalize pc s 2 3 = b at *
  have Psix:=hid (fun w0 w1 hw=>pieces_six s w0 w1 hw hs)
  have Hsix:shiftN s < 64:=six_lt s
  generalize shiftN s = x6 at *
  have Ssix:=hid (fun w=>S_any (x6:Int) 6 w (by decide) (by decide) (by omega) (by omega))
  have lsix:-32 ≤ low (x6:Int) 6:=low_lo _ 6
  have msix:low (x6:Int) 6 < 32:=low_hi _ 6 (by decide)
  generalize low (x6:Int) 6 = d6 at *
  have Pwords:=hid (fun w0 w1 hw=>pieces_words s w0 w1 hw hs)
  have Hwords:wordsN s < 128:=words_lt s
  generalize wordsN s = xw at *
  have Pdoubles:=hid (fun w0 w1 hw=>pieces_doubles s w0 w1 hw hs)
  have Hdoubles:doublesN s < 256:=doubles_lt s
  generalize doublesN s = xd at *
  have Pbranch:=hid (fun w0 w1 hw=>pieces_branch s w0 w1 hw hs)
  have Hbranch:branchN s < 512:=branch_lt s
  generalize branchN s = xb at *
  have Sbranch:=hid (fun w=>S_any (xb:Int) 9 w (by decide) (by decide) (by omega) (by omega))
  have lbranch:-256 ≤ low (xb:Int) 9:=low_lo _ 9
  have mbranch:low (xb:Int) 9 < 256:=low_hi _ 9 (by decide)
  generalize low (xb:Int) 9 = d9 at *
  subst hr
  go_enter Tryz.func51,Tryz.ntmps51
  go_wp2_with fail
  refine (Crd.out _).mono ?_
  rintro e wx ⟨rfl,rfl⟩
  generalize (w.alloc (.cells (I7 0 0 0 0 0 0 0) 47)).alloc (.cells (I7 0 0 0 0 0 0 2) 47) = w1 at f1 ⊢
  go_wp2_with fail
  refine (Cr2.out _).mono ?_
  rintro e wx ⟨rfl,rfl⟩
  go_wp2_with fail
  refine (Ca.out _).mono ?_
  rintro e wx ⟨rfl,rfl⟩
  go_wp2_with fail
  refine (Cb.out _).mono ?_
  rintro e wx ⟨rfl,rfl⟩
  go_wp2_with fail
  refine (Psix.out w1 _ (by rfl)).mono ?_
  rintro e wx ⟨rfl,rfl⟩
  have f2:=f1.alloc #[.int .i64 12,.int .i64 12,.int .i64 6,.int .i64 2] 3
  generalize w1.alloc (.cells #[.int .i64 12,.int .i64 12,.int .i64 6,.int .i64 2] 3) = w2 at f2 ⊢
  clear f1
  go_wp2_with fail
  refine (Ssix.out _).mono ?_
  rintro e wx ⟨rfl,rfl⟩
  go_wp2_with fail
  refine (Pwords.out w2 _ (by rfl)).mono ?_
  rintro e wx ⟨rfl,rfl⟩
  have f3:=f2.alloc #[.int .i64 5,.int .i64 5,.int .i64 12,.int .i64 10,.int .i64 6,.int .i64 6] 3
  generalize w2.alloc (.cells #[.int .i64 5,.int .i64 5,.int .i64 12,.int .i64 10,.int .i64 6,.int .i64 6] 3) = w3 at f3 ⊢
  clear f2
  go_wp2_with fail
  refine (Pdoubles.out w3 _ (by rfl)).mono ?_
  rintro e wx ⟨rfl,rfl⟩
  have f4:=f3.alloc #[.int .i64 6,.int .i64 5,.int .i64 12,.int .i64 10] 3
  generalize w3.alloc (.cells #[.int .i64 6,.int .i64 5,.int .i64 12,.int .i64 10] 3) = w4 at f4 ⊢
  clear f3
  go_wp2_with fail
  refine (Pbranch.out w4 _ (by rfl)).mono ?_
  rintro e wx ⟨rfl,rfl⟩
  have f5:=f4.alloc #[.int .i64 12,.int .i64 12,.int .i64 6,.int .i64 5,.int .i64 2,.int .i64 2,.int .i64 11,.int .i64 10,.int .i64 4,.int .i64 3] 3
  generalize w4.alloc (.cells #[.int .i64 12,.int .i64 12,.int .i64 6,.int .i64 5,.int .i64 2,.int .i64 2,.int .i64 11,.int .i64 10,.int .i64 4,.int .i64 3] 3) = w5 at f5 ⊢
  clear f4
  go_wp2_with fail
  refine (Sbranch.out _).mono ?_
  rintro e wx ⟨rfl,rfl⟩
  go_wp2_with fail
  refine (Cg.out _).mono ?_
  rintro e wx ⟨rfl,rfl⟩
  go_wp2_with fail
  refine (Ck.out _).mono ?_
  rintro e wx ⟨rfl,rfl⟩
  obtain ⟨b0,b1,b2,b3,b4,b5,b6⟩:=f5.box.seven
  have z:=f5.box.free
  obtain ⟨q0,q1,q2,q3,q4,q5,q6⟩:=f5.res.seven
  have y:=f5.res.free
  go_wp2
  have g:=f5
  (try simp only [Exit.inBlock,Exit.then])
  refine bodyPost_ret (results_twoC rfl _ _ w.heap.size _ _ _ _ _ _ _ rfl (g.res.seven_set _ _ _ _ _ _ _)) rfl ⟨rfl,?_⟩
  exact g.kp.seven_set (Nat.le_refl _) _ _ _ _ _ _ _

set_option maxRecDepth 100000 in
theorem refx_ldsp (s:Nat) (w:World) (hs:s < 65536) (hg:pc s 0 2 = 2) (hk:pc s 13 3 = 3) (hr:0 < pc s 7 5) :
    Calls Tryz.prog 51 #[.int .u16 s] w fun e w'=>e = .returned (.tuple #[.agg (I7 14 (pc s 7 5:Nat) 2 0 (loadD s:Nat) 0 2),.bool true])∧Kp none w w':=by
  have f1:=FrR.two w (I7 0 0 0 0 0 0 2)
  have Cg:=hid (fun w=>F_at s 1 0 2 w hs (by decide) (by decide) rfl)
  have Ck:=hid (fun w=>F_at s 15 13 3 w hs (by decide) (by decide) rfl)
  have Hg:pc s 0 2 < 4:=pc_lt s 0 2
  have Hk:pc s 13 3 < 8:=pc_lt s 13 3
  rw [hg] at Cg Hg
  rw [hk] at Ck Hk
  clear hg hk
  have Ploadd:=hid (fun w0 w1 hw=>pieces_loadd s w0 w1 hw hs)
  have Hloadd:loadD s < 512:=loadd_lt s
  generalize loadD s = xl at *
  have Crd:=hid (fun w=>F_at s 11 7 5 w hs (by decide) (by decide) rfl)
  have Hrd:pc s 7 5 < 32:=pc_lt s 7 5
  generalize pc s 7 5 = rd at *
  have Cr2:=hid (fun w=>F_at s 6 2 5 w hs (by decide) (by decide) rfl)
  have Hr2:pc s 2 5 < 32:=pc_lt s 2 5
  generalize pc s 2 5 = r2 at *
  have Ca:=hid (fun w=>F_at s 9 7 3 w hs (by decide) (by decide) rfl)
  have Ha:pc s 7 3 < 8:=pc_lt s 7 3
  generalize pc s 7 3 = a at *
  have Cb:=hid (fun w=>F_at s 4 2 3 w hs (by decide) (by decide) rfl)
  have Hb:pc s 2 3 < 8:=pc_lt s 2 3
  generalize pc s 2 3 = b at *
  have Psix:=hid (fun w0 w1 hw=>pieces_six s w0 w1 hw hs)
  have Hsix:shiftN s < 64:=six_lt s
  generalize shiftN s = x6 at *
  have Ssix:=hid (fun w=>S_any (x6:Int) 6 w (by decide) (by decide) (by omega) (by omega))
  have lsix:-32 ≤ low (x6:Int) 6:=low_lo _ 6
  have msix:low (x6:Int) 6 < 32:=low_hi _ 6 (by decide)
  generalize low (x6:Int) 6 = d6 at *
  have Pwords:=hid (fun w0 w1 hw=>pieces_words s w0 w1 hw hs)
  have Hwords:wordsN s < 128:=words_lt s
  generalize wordsN s = xw at *
  have Pdoubles:=hid (fun w0 w1 hw=>pieces_doubles s w0 w1 hw hs)
  have Hdoubles:doublesN s < 256:=doubles_lt s
  generalize doublesN s = xd at *
  have Pbranch:=hid (fun w0 w1 hw=>pieces_branch s w0 w1 hw hs)
  have Hbranch:branchN s < 512:=branch_lt s
  generalize branchN s = xb at *
  have Sbranch:=hid (fun w=>S_any (xb:Int) 9 w (by decide) (by decide) (by omega) (by omega))
  have lbranch:-256 ≤ low (xb:Int) 9:=low_lo _ 9
  have mbranch:low (xb:Int) 9 < 256:=low_hi _ 9 (by decide)
  generalize low (xb:Int) 9 = d9 at *
  have hr':(0:Int) < (rd:Int):=by omega
  go_enter Tryz.func51,Tryz.ntmps51
  go_wp2_with fail
  refine (Crd.out _).mono ?_
  rintro e wx ⟨rfl,rfl⟩
  generalize (w.alloc (.cells (I7 0 0 0 0 0 0 0) 47)).alloc (.cells (I7 0 0 0 0 0 0 2) 47) = w1 at f1 ⊢
  go_wp2_with fail
  refine (Cr2.out _).mono ?_
  rintro e wx ⟨rfl,rfl⟩
  go_wp2_with fail
  refine (Ca.out _).mono ?_
  rintro e wx ⟨rfl,rfl⟩
  go_wp2_with fail
  refine (Cb.out _).mono ?_
  rintro e wx ⟨rfl,rfl⟩
  go_wp2_with fail
  refine (Psix.out w1 _ (by rfl)).mono ?_
  rintro e wx ⟨rfl,rfl⟩
  have f2:=f1.alloc #[.int .i64 12,.int .i64 12,.int .i64 6,.int .i64 2] 3
  generalize w1.alloc (.cells #[.int .i64 12,.int .i64 12,.int .i64 6,.int .i64 2] 3) = w2 at f2 ⊢
  clear f1
  go_wp2_with fail
  refine (Ssix.out _).mono ?_
  rintro e wx ⟨rfl,rfl⟩
  go_wp2_with fail
  refine (Pwords.out w2 _ (by rfl)).mono ?_
  rintro e wx ⟨rfl,rfl⟩
  have f3:=f2.alloc #[.int .i64 5,.int .i64 5,.int .i64 12,.int .i64 10,.int .i64 6,.int .i64 6] 3
  generalize w2.alloc (.cells #[.int .i64 5,.int .i64 5,.int .i64 12,.int .i64 10,.int .i64 6,.int .i64 6] 3) = w3 at f3 ⊢
  clear f2
  go_wp2_with fail
  refine (Pdoubles.out w3 _ (by rfl)).mono ?_
  rintro e wx ⟨rfl,rfl⟩
  have f4:=f3.alloc #[.int .i64 6,.int .i64 5,.int .i64 12,.int .i64 10] 3
  generalize w3.alloc (.cells #[.int .i64 6,.int .i64 5,.int .i64 12,.int .i64 10] 3) = w4 at f4 ⊢
  clear f3
  go_wp2_with fail
  refine (Pbranch.out w4 _ (by rfl)).mono ?_
  rintro e wx ⟨rfl,rfl⟩
  have f5:=f4.alloc #[.int .i64 12,.int .i64 12,.int .i64 6,.int .i64 5,.int .i64 2,.int .i64 2,.int .i64 11,.int .i64 10,.int .i64 4,.int .i64 3] 3
  generalize w4.alloc (.cells #[.int .i64 12,.int .i64 12,.int .i64 6,.int .i64 5,.int .i64 2,.int .i64 2,.int .i64 11,.int .i64 10,.int .i64 4,.int .i64 3] 3) = w5 at f5 ⊢
  clear f4
  go_wp2_with fail
  refine (Sbranch.out _).mono ?_
  rintro e wx ⟨rfl,rfl⟩
  go_wp2_with fail
  refine (Cg.out _).mono ?_
  rintro e wx ⟨rfl,rfl⟩
  go_wp2_with fail
  refine (Ck.out _).mono ?_
  rintro e wx ⟨rfl,rfl⟩
  go_wp2_with fail
  refine (Ploadd.out w5 _ (by rfl)).mono ?_
  rintro e wx ⟨rfl,rfl⟩
  have f6:=f5.alloc #[.int .i64 4,.int .i64 2,.int .i64 12,.int .i64 12,.int .i64 6,.int .i64 5] 3
  generalize w5.alloc (.cells #[.int .i64 4,.int .i64 2,.int .i64 12,.int .i64 12,.int .i64 6,.int .i64 5] 3) = w6 at f6 ⊢
  clear f5
  obtain ⟨b0,b1,b2,b3,b4,b5,b6⟩:=f6.box.seven
  have z:=f6.box.free
  go_upto_region 60 with (fail)
  have f7:FrR w (I7 14 (rd:Int) 2 0 (xl:Int) 0 0) _:=(((((((f6.set 0 (.int .i64 14)).set 1 (.int .i64 (rd:Int))).set 2 (.int .i64 2)).set 3 (.int .i64 0)).set 4 (.int .i64 (xl:Int))).set 5 (.int .i64 0)).set 6 (.int .i64 0))
  generalize (((((((w6.setCell ⟨w.heap.size + 1,0,none⟩ (.int .i64 14)).setCell ⟨w.heap.size + 1,1,none⟩ (.int .i64 (rd:Int))).setCell ⟨w.heap.size + 1,2,none⟩ (.int .i64 2)).setCell ⟨w.heap.size + 1,3,none⟩ (.int .i64 0)).setCell ⟨w.heap.size + 1,4,none⟩ (.int .i64 (xl:Int))).setCell ⟨w.heap.size + 1,5,none⟩ (.int .i64 0)).setCell ⟨w.heap.size + 1,6,none⟩ (.int .i64 0)) = w7 at f7 ⊢
  clear b0 b1 b2 b3 b4 b5 b6 z f6
  obtain ⟨b0,b1,b2,b3,b4,b5,b6⟩:=f7.box.seven
  have z:=f7.box.free
  obtain ⟨q0,q1,q2,q3,q4,q5,q6⟩:=f7.res.seven
  have y:=f7.res.free
  go_wp2
  have g:=f7.set 6 (.int .i64 2)
  (try simp only [Exit.inBlock,Exit.then])
  refine bodyPost_ret (results_twoC rfl _ _ w.heap.size _ _ _ _ _ _ _ rfl (g.res.seven_set _ _ _ _ _ _ _)) rfl ⟨rfl,?_⟩
  exact g.kp.seven_set (Nat.le_refl _) _ _ _ _ _ _ _

set_option maxRecDepth 100000 in
theorem refx_swsp (s:Nat) (w:World) (hs:s < 65536) (hg:pc s 0 2 = 2) (hk:pc s 13 3 = 6) :
    Calls Tryz.prog 51 #[.int .u16 s] w fun e w'=>e = .returned (.tuple #[.agg (I7 20 0 2 (pc s 2 5:Nat) (storeW s:Nat) 0 2),.bool true])∧Kp none w w':=by
  have f1:=FrR.two w (I7 0 0 0 0 0 0 2)
  have Cg:=hid (fun w=>F_at s 1 0 2 w hs (by decide) (by decide) rfl)
  have Ck:=hid (fun w=>F_at s 15 13 3 w hs (by decide) (by decide) rfl)
  have Hg:pc s 0 2 < 4:=pc_lt s 0 2
  have Hk:pc s 13 3 < 8:=pc_lt s 13 3
  rw [hg] at Cg Hg
  rw [hk] at Ck Hk
  clear hg hk
  have Pstorew:=hid (fun w0 w1 hw=>pieces_storew s w0 w1 hw hs)
  have Hstorew:storeW s < 256:=storew_lt s
  generalize storeW s = xl at *
  have Crd:=hid (fun w=>F_at s 11 7 5 w hs (by decide) (by decide) rfl)
  have Hrd:pc s 7 5 < 32:=pc_lt s 7 5
  generalize pc s 7 5 = rd at *
  have Cr2:=hid (fun w=>F_at s 6 2 5 w hs (by decide) (by decide) rfl)
  have Hr2:pc s 2 5 < 32:=pc_lt s 2 5
  generalize pc s 2 5 = r2 at *
  have Ca:=hid (fun w=>F_at s 9 7 3 w hs (by decide) (by decide) rfl)
  have Ha:pc s 7 3 < 8:=pc_lt s 7 3
  generalize pc s 7 3 = a at *
  have Cb:=hid (fun w=>F_at s 4 2 3 w hs (by decide) (by decide) rfl)
  have Hb:pc s 2 3 < 8:=pc_lt s 2 3
  generalize pc s 2 3 = b at *
  have Psix:=hid (fun w0 w1 hw=>pieces_six s w0 w1 hw hs)
  have Hsix:shiftN s < 64:=six_lt s
  generalize shiftN s = x6 at *
  have Ssix:=hid (fun w=>S_any (x6:Int) 6 w (by decide) (by decide) (by omega) (by omega))
  have lsix:-32 ≤ low (x6:Int) 6:=low_lo _ 6
  have msix:low (x6:Int) 6 < 32:=low_hi _ 6 (by decide)
  generalize low (x6:Int) 6 = d6 at *
  have Pwords:=hid (fun w0 w1 hw=>pieces_words s w0 w1 hw hs)
  have Hwords:wordsN s < 128:=words_lt s
  generalize wordsN s = xw at *
  have Pdoubles:=hid (fun w0 w1 hw=>pieces_doubles s w0 w1 hw hs)
  have Hdoubles:doublesN s < 256:=doubles_lt s
  generalize doublesN s = xd at *
  have Pbranch:=hid (fun w0 w1 hw=>pieces_branch s w0 w1 hw hs)
  have Hbranch:branchN s < 512:=branch_lt s
  generalize branchN s = xb at *
  have Sbranch:=hid (fun w=>S_any (xb:Int) 9 w (by decide) (by decide) (by omega) (by omega))
  have lbranch:-256 ≤ low (xb:Int) 9:=low_lo _ 9
  have mbranch:low (xb:Int) 9 < 256:=low_hi _ 9 (by decide)
  generalize low (xb:Int) 9 = d9 at *
  go_enter Tryz.func51,Tryz.ntmps51
  go_wp2_with fail
  refine (Crd.out _).mono ?_
  rintro e wx ⟨rfl,rfl⟩
  generalize (w.alloc (.cells (I7 0 0 0 0 0 0 0) 47)).alloc (.cells (I7 0 0 0 0 0 0 2) 47) = w1 at f1 ⊢
  go_wp2_with fail
  refine (Cr2.out _).mono ?_
  rintro e wx ⟨rfl,rfl⟩
  go_wp2_with fail
  refine (Ca.out _).mono ?_
  rintro e wx ⟨rfl,rfl⟩
  go_wp2_with fail
  refine (Cb.out _).mono ?_
  rintro e wx ⟨rfl,rfl⟩
  go_wp2_with fail
  refine (Psix.out w1 _ (by rfl)).mono ?_
  rintro e wx ⟨rfl,rfl⟩
  have f2:=f1.alloc #[.int .i64 12,.int .i64 12,.int .i64 6,.int .i64 2] 3
  generalize w1.alloc (.cells #[.int .i64 12,.int .i64 12,.int .i64 6,.int .i64 2] 3) = w2 at f2 ⊢
  clear f1
  go_wp2_with fail
  refine (Ssix.out _).mono ?_
  rintro e wx ⟨rfl,rfl⟩
  go_wp2_with fail
  refine (Pwords.out w2 _ (by rfl)).mono ?_
  rintro e wx ⟨rfl,rfl⟩
  have f3:=f2.alloc #[.int .i64 5,.int .i64 5,.int .i64 12,.int .i64 10,.int .i64 6,.int .i64 6] 3
  generalize w2.alloc (.cells #[.int .i64 5,.int .i64 5,.int .i64 12,.int .i64 10,.int .i64 6,.int .i64 6] 3) = w3 at f3 ⊢
  clear f2
  go_wp2_with fail
  refine (Pdoubles.out w3 _ (by rfl)).mono ?_
  rintro e wx ⟨rfl,rfl⟩
  have f4:=f3.alloc #[.int .i64 6,.int .i64 5,.int .i64 12,.int .i64 10] 3
  generalize w3.alloc (.cells #[.int .i64 6,.int .i64 5,.int .i64 12,.int .i64 10] 3) = w4 at f4 ⊢
  clear f3
  go_wp2_with fail
  refine (Pbranch.out w4 _ (by rfl)).mono ?_
  rintro e wx ⟨rfl,rfl⟩
  have f5:=f4.alloc #[.int .i64 12,.int .i64 12,.int .i64 6,.int .i64 5,.int .i64 2,.int .i64 2,.int .i64 11,.int .i64 10,.int .i64 4,.int .i64 3] 3
  generalize w4.alloc (.cells #[.int .i64 12,.int .i64 12,.int .i64 6,.int .i64 5,.int .i64 2,.int .i64 2,.int .i64 11,.int .i64 10,.int .i64 4,.int .i64 3] 3) = w5 at f5 ⊢
  clear f4
  go_wp2_with fail
  refine (Sbranch.out _).mono ?_
  rintro e wx ⟨rfl,rfl⟩
  go_wp2_with fail
  refine (Cg.out _).mono ?_
  rintro e wx ⟨rfl,rfl⟩
  go_wp2_with fail
  refine (Ck.out _).mono ?_
  rintro e wx ⟨rfl,rfl⟩
  go_wp2_with fail
  refine (Pstorew.out w5 _ (by rfl)).mono ?_
  rintro e wx ⟨rfl,rfl⟩
  have f6:=f5.alloc #[.int .i64 8,.int .i64 7,.int .i64 12,.int .i64 9] 3
  generalize w5.alloc (.cells #[.int .i64 8,.int .i64 7,.int .i64 12,.int .i64 9] 3) = w6 at f6 ⊢
  clear f5
  obtain ⟨b0,b1,b2,b3,b4,b5,b6⟩:=f6.box.seven
  have z:=f6.box.free
  go_upto_region 60 with (fail)
  have f7:FrR w (I7 20 0 2 (r2:Int) (xl:Int) 0 0) _:=(((((((f6.set 0 (.int .i64 20)).set 1 (.int .i64 0)).set 2 (.int .i64 2)).set 3 (.int .i64 (r2:Int))).set 4 (.int .i64 (xl:Int))).set 5 (.int .i64 0)).set 6 (.int .i64 0))
  generalize (((((((w6.setCell ⟨w.heap.size + 1,0,none⟩ (.int .i64 20)).setCell ⟨w.heap.size + 1,1,none⟩ (.int .i64 0)).setCell ⟨w.heap.size + 1,2,none⟩ (.int .i64 2)).setCell ⟨w.heap.size + 1,3,none⟩ (.int .i64 (r2:Int))).setCell ⟨w.heap.size + 1,4,none⟩ (.int .i64 (xl:Int))).setCell ⟨w.heap.size + 1,5,none⟩ (.int .i64 0)).setCell ⟨w.heap.size + 1,6,none⟩ (.int .i64 0)) = w7 at f7 ⊢
  clear b0 b1 b2 b3 b4 b5 b6 z f6
  obtain ⟨b0,b1,b2,b3,b4,b5,b6⟩:=f7.box.seven
  have z:=f7.box.free
  obtain ⟨q0,q1,q2,q3,q4,q5,q6⟩:=f7.res.seven
  have y:=f7.res.free
  go_wp2
  have g:=f7.set 6 (.int .i64 2)
  (try simp only [Exit.inBlock,Exit.then])
  refine bodyPost_ret (results_twoC rfl _ _ w.heap.size _ _ _ _ _ _ _ rfl (g.res.seven_set _ _ _ _ _ _ _)) rfl ⟨rfl,?_⟩
  exact g.kp.seven_set (Nat.le_refl _) _ _ _ _ _ _ _

set_option maxRecDepth 100000 in
theorem refx_sdsp (s:Nat) (w:World) (hs:s < 65536) (hg:pc s 0 2 = 2) (hk:pc s 13 3 = 7) :
    Calls Tryz.prog 51 #[.int .u16 s] w fun e w'=>e = .returned (.tuple #[.agg (I7 21 0 2 (pc s 2 5:Nat) (storeD s:Nat) 0 2),.bool true])∧Kp none w w':=by
  have f1:=FrR.two w (I7 0 0 0 0 0 0 2)
  have Cg:=hid (fun w=>F_at s 1 0 2 w hs (by decide) (by decide) rfl)
  have Ck:=hid (fun w=>F_at s 15 13 3 w hs (by decide) (by decide) rfl)
  have Hg:pc s 0 2 < 4:=pc_lt s 0 2
  have Hk:pc s 13 3 < 8:=pc_lt s 13 3
  rw [hg] at Cg Hg
  rw [hk] at Ck Hk
  clear hg hk
  have Pstored:=hid (fun w0 w1 hw=>pieces_stored s w0 w1 hw hs)
  have Hstored:storeD s < 512:=stored_lt s
  generalize storeD s = xl at *
  have Crd:=hid (fun w=>F_at s 11 7 5 w hs (by decide) (by decide) rfl)
  have Hrd:pc s 7 5 < 32:=pc_lt s 7 5
  generalize pc s 7 5 = rd at *
  have Cr2:=hid (fun w=>F_at s 6 2 5 w hs (by decide) (by decide) rfl)
  have Hr2:pc s 2 5 < 32:=pc_lt s 2 5
  generalize pc s 2 5 = r2 at *
  have Ca:=hid (fun w=>F_at s 9 7 3 w hs (by decide) (by decide) rfl)
  have Ha:pc s 7 3 < 8:=pc_lt s 7 3
  generalize pc s 7 3 = a at *
  have Cb:=hid (fun w=>F_at s 4 2 3 w hs (by decide) (by decide) rfl)
  have Hb:pc s 2 3 < 8:=pc_lt s 2 3
  generalize pc s 2 3 = b at *
  have Psix:=hid (fun w0 w1 hw=>pieces_six s w0 w1 hw hs)
  have Hsix:shiftN s < 64:=six_lt s
  generalize shiftN s = x6 at *
  have Ssix:=hid (fun w=>S_any (x6:Int) 6 w (by decide) (by decide) (by omega) (by omega))
  have lsix:-32 ≤ low (x6:Int) 6:=low_lo _ 6
  have msix:low (x6:Int) 6 < 32:=low_hi _ 6 (by decide)
  generalize low (x6:Int) 6 = d6 at *
  have Pwords:=hid (fun w0 w1 hw=>pieces_words s w0 w1 hw hs)
  have Hwords:wordsN s < 128:=words_lt s
  generalize wordsN s = xw at *
  have Pdoubles:=hid (fun w0 w1 hw=>pieces_doubles s w0 w1 hw hs)
  have Hdoubles:doublesN s < 256:=doubles_lt s
  generalize doublesN s = xd at *
  have Pbranch:=hid (fun w0 w1 hw=>pieces_branch s w0 w1 hw hs)
  have Hbranch:branchN s < 512:=branch_lt s
  generalize branchN s = xb at *
  have Sbranch:=hid (fun w=>S_any (xb:Int) 9 w (by decide) (by decide) (by omega) (by omega))
  have lbranch:-256 ≤ low (xb:Int) 9:=low_lo _ 9
  have mbranch:low (xb:Int) 9 < 256:=low_hi _ 9 (by decide)
  generalize low (xb:Int) 9 = d9 at *
  go_enter Tryz.func51,Tryz.ntmps51
  go_wp2_with fail
  refine (Crd.out _).mono ?_
  rintro e wx ⟨rfl,rfl⟩
  generalize (w.alloc (.cells (I7 0 0 0 0 0 0 0) 47)).alloc (.cells (I7 0 0 0 0 0 0 2) 47) = w1 at f1 ⊢
  go_wp2_with fail
  refine (Cr2.out _).mono ?_
  rintro e wx ⟨rfl,rfl⟩
  go_wp2_with fail
  refine (Ca.out _).mono ?_
  rintro e wx ⟨rfl,rfl⟩
  go_wp2_with fail
  refine (Cb.out _).mono ?_
  rintro e wx ⟨rfl,rfl⟩
  go_wp2_with fail
  refine (Psix.out w1 _ (by rfl)).mono ?_
  rintro e wx ⟨rfl,rfl⟩
  have f2:=f1.alloc #[.int .i64 12,.int .i64 12,.int .i64 6,.int .i64 2] 3
  generalize w1.alloc (.cells #[.int .i64 12,.int .i64 12,.int .i64 6,.int .i64 2] 3) = w2 at f2 ⊢
  clear f1
  go_wp2_with fail
  refine (Ssix.out _).mono ?_
  rintro e wx ⟨rfl,rfl⟩
  go_wp2_with fail
  refine (Pwords.out w2 _ (by rfl)).mono ?_
  rintro e wx ⟨rfl,rfl⟩
  have f3:=f2.alloc #[.int .i64 5,.int .i64 5,.int .i64 12,.int .i64 10,.int .i64 6,.int .i64 6] 3
  generalize w2.alloc (.cells #[.int .i64 5,.int .i64 5,.int .i64 12,.int .i64 10,.int .i64 6,.int .i64 6] 3) = w3 at f3 ⊢
  clear f2
  go_wp2_with fail
  refine (Pdoubles.out w3 _ (by rfl)).mono ?_
  rintro e wx ⟨rfl,rfl⟩
  have f4:=f3.alloc #[.int .i64 6,.int .i64 5,.int .i64 12,.int .i64 10] 3
  generalize w3.alloc (.cells #[.int .i64 6,.int .i64 5,.int .i64 12,.int .i64 10] 3) = w4 at f4 ⊢
  clear f3
  go_wp2_with fail
  refine (Pbranch.out w4 _ (by rfl)).mono ?_
  rintro e wx ⟨rfl,rfl⟩
  have f5:=f4.alloc #[.int .i64 12,.int .i64 12,.int .i64 6,.int .i64 5,.int .i64 2,.int .i64 2,.int .i64 11,.int .i64 10,.int .i64 4,.int .i64 3] 3
  generalize w4.alloc (.cells #[.int .i64 12,.int .i64 12,.int .i64 6,.int .i64 5,.int .i64 2,.int .i64 2,.int .i64 11,.int .i64 10,.int .i64 4,.int .i64 3] 3) = w5 at f5 ⊢
  clear f4
  go_wp2_with fail
  refine (Sbranch.out _).mono ?_
  rintro e wx ⟨rfl,rfl⟩
  go_wp2_with fail
  refine (Cg.out _).mono ?_
  rintro e wx ⟨rfl,rfl⟩
  go_wp2_with fail
  refine (Ck.out _).mono ?_
  rintro e wx ⟨rfl,rfl⟩
  go_wp2_with fail
  refine (Pstored.out w5 _ (by rfl)).mono ?_
  rintro e wx ⟨rfl,rfl⟩
  have f6:=f5.alloc #[.int .i64 9,.int .i64 7,.int .i64 12,.int .i64 10] 3
  generalize w5.alloc (.cells #[.int .i64 9,.int .i64 7,.int .i64 12,.int .i64 10] 3) = w6 at f6 ⊢
  clear f5
  obtain ⟨b0,b1,b2,b3,b4,b5,b6⟩:=f6.box.seven
  have z:=f6.box.free
  go_upto_region 60 with (fail)
  have f7:FrR w (I7 21 0 2 (r2:Int) (xl:Int) 0 0) _:=(((((((f6.set 0 (.int .i64 21)).set 1 (.int .i64 0)).set 2 (.int .i64 2)).set 3 (.int .i64 (r2:Int))).set 4 (.int .i64 (xl:Int))).set 5 (.int .i64 0)).set 6 (.int .i64 0))
  generalize (((((((w6.setCell ⟨w.heap.size + 1,0,none⟩ (.int .i64 21)).setCell ⟨w.heap.size + 1,1,none⟩ (.int .i64 0)).setCell ⟨w.heap.size + 1,2,none⟩ (.int .i64 2)).setCell ⟨w.heap.size + 1,3,none⟩ (.int .i64 (r2:Int))).setCell ⟨w.heap.size + 1,4,none⟩ (.int .i64 (xl:Int))).setCell ⟨w.heap.size + 1,5,none⟩ (.int .i64 0)).setCell ⟨w.heap.size + 1,6,none⟩ (.int .i64 0)) = w7 at f7 ⊢
  clear b0 b1 b2 b3 b4 b5 b6 z f6
  obtain ⟨b0,b1,b2,b3,b4,b5,b6⟩:=f7.box.seven
  have z:=f7.box.free
  obtain ⟨q0,q1,q2,q3,q4,q5,q6⟩:=f7.res.seven
  have y:=f7.res.free
  go_wp2
  have g:=f7.set 6 (.int .i64 2)
  (try simp only [Exit.inBlock,Exit.then])
  refine bodyPost_ret (results_twoC rfl _ _ w.heap.size _ _ _ _ _ _ _ rfl (g.res.seven_set _ _ _ _ _ _ _)) rfl ⟨rfl,?_⟩
  exact g.kp.seven_set (Nat.le_refl _) _ _ _ _ _ _ _

set_option maxRecDepth 100000 in
theorem refx_moves0 (s:Nat) (w:World) (hs:s < 65536) (hg:pc s 0 2 = 2) (hk:pc s 13 3 = 4) (e1 e2 e3 e4:Int) (HE:∀ w',Calls Tryz.prog 92 #[.int .i64 ((pc s 12 1:Nat):Int),.int .i64 ((pc s 7 5:Nat):Int),.int .i64 ((pc s 2 5:Nat):Int)] w' fun e w''=>e = .returned (.agg (I7 0 e1 e2 e3 e4 0 0))∧Kp none w' w'') :
    Calls Tryz.prog 51 #[.int .u16 s] w fun e w'=>e = .returned (.tuple #[.agg (I7 0 0 0 0 0 0 0),.bool false])∧Kp none w w':=by
  have f1:=FrR.two w (I7 0 0 0 0 0 0 2)
  have Cg:=hid (fun w=>F_at s 1 0 2 w hs (by decide) (by decide) rfl)
  have Ck:=hid (fun w=>F_at s 15 13 3 w hs (by decide) (by decide) rfl)
  have Hg:pc s 0 2 < 4:=pc_lt s 0 2
  have Hk:pc s 13 3 < 8:=pc_lt s 13 3
  rw [hg] at Cg Hg
  rw [hk] at Ck Hk
  clear hg hk
  have Cu:=hid (fun w=>F_at s 12 12 1 w hs (by decide) (by decide) rfl)
  generalize pc s 12 1 = up at *
  have Crd:=hid (fun w=>F_at s 11 7 5 w hs (by decide) (by decide) rfl)
  have Hrd:pc s 7 5 < 32:=pc_lt s 7 5
  generalize pc s 7 5 = rd at *
  have Cr2:=hid (fun w=>F_at s 6 2 5 w hs (by decide) (by decide) rfl)
  have Hr2:pc s 2 5 < 32:=pc_lt s 2 5
  generalize pc s 2 5 = r2 at *
  have Ca:=hid (fun w=>F_at s 9 7 3 w hs (by decide) (by decide) rfl)
  have Ha:pc s 7 3 < 8:=pc_lt s 7 3
  generalize pc s 7 3 = a at *
  have Cb:=hid (fun w=>F_at s 4 2 3 w hs (by decide) (by decide) rfl)
  have Hb:pc s 2 3 < 8:=pc_lt s 2 3
  generalize pc s 2 3 = b at *
  have Psix:=hid (fun w0 w1 hw=>pieces_six s w0 w1 hw hs)
  have Hsix:shiftN s < 64:=six_lt s
  generalize shiftN s = x6 at *
  have Ssix:=hid (fun w=>S_any (x6:Int) 6 w (by decide) (by decide) (by omega) (by omega))
  have lsix:-32 ≤ low (x6:Int) 6:=low_lo _ 6
  have msix:low (x6:Int) 6 < 32:=low_hi _ 6 (by decide)
  generalize low (x6:Int) 6 = d6 at *
  have Pwords:=hid (fun w0 w1 hw=>pieces_words s w0 w1 hw hs)
  have Hwords:wordsN s < 128:=words_lt s
  generalize wordsN s = xw at *
  have Pdoubles:=hid (fun w0 w1 hw=>pieces_doubles s w0 w1 hw hs)
  have Hdoubles:doublesN s < 256:=doubles_lt s
  generalize doublesN s = xd at *
  have Pbranch:=hid (fun w0 w1 hw=>pieces_branch s w0 w1 hw hs)
  have Hbranch:branchN s < 512:=branch_lt s
  generalize branchN s = xb at *
  have Sbranch:=hid (fun w=>S_any (xb:Int) 9 w (by decide) (by decide) (by omega) (by omega))
  have lbranch:-256 ≤ low (xb:Int) 9:=low_lo _ 9
  have mbranch:low (xb:Int) 9 < 256:=low_hi _ 9 (by decide)
  generalize low (xb:Int) 9 = d9 at *
  have CE:=hid HE;clear HE
  go_enter Tryz.func51,Tryz.ntmps51
  go_wp2_with fail
  refine (Crd.out _).mono ?_
  rintro e wx ⟨rfl,rfl⟩
  generalize (w.alloc (.cells (I7 0 0 0 0 0 0 0) 47)).alloc (.cells (I7 0 0 0 0 0 0 2) 47) = w1 at f1 ⊢
  go_wp2_with fail
  refine (Cr2.out _).mono ?_
  rintro e wx ⟨rfl,rfl⟩
  go_wp2_with fail
  refine (Ca.out _).mono ?_
  rintro e wx ⟨rfl,rfl⟩
  go_wp2_with fail
  refine (Cb.out _).mono ?_
  rintro e wx ⟨rfl,rfl⟩
  go_wp2_with fail
  refine (Psix.out w1 _ (by rfl)).mono ?_
  rintro e wx ⟨rfl,rfl⟩
  have f2:=f1.alloc #[.int .i64 12,.int .i64 12,.int .i64 6,.int .i64 2] 3
  generalize w1.alloc (.cells #[.int .i64 12,.int .i64 12,.int .i64 6,.int .i64 2] 3) = w2 at f2 ⊢
  clear f1
  go_wp2_with fail
  refine (Ssix.out _).mono ?_
  rintro e wx ⟨rfl,rfl⟩
  go_wp2_with fail
  refine (Pwords.out w2 _ (by rfl)).mono ?_
  rintro e wx ⟨rfl,rfl⟩
  have f3:=f2.alloc #[.int .i64 5,.int .i64 5,.int .i64 12,.int .i64 10,.int .i64 6,.int .i64 6] 3
  generalize w2.alloc (.cells #[.int .i64 5,.int .i64 5,.int .i64 12,.int .i64 10,.int .i64 6,.int .i64 6] 3) = w3 at f3 ⊢
  clear f2
  go_wp2_with fail
  refine (Pdoubles.out w3 _ (by rfl)).mono ?_
  rintro e wx ⟨rfl,rfl⟩
  have f4:=f3.alloc #[.int .i64 6,.int .i64 5,.int .i64 12,.int .i64 10] 3
  generalize w3.alloc (.cells #[.int .i64 6,.int .i64 5,.int .i64 12,.int .i64 10] 3) = w4 at f4 ⊢
  clear f3
  go_wp2_with fail
  refine (Pbranch.out w4 _ (by rfl)).mono ?_
  rintro e wx ⟨rfl,rfl⟩
  have f5:=f4.alloc #[.int .i64 12,.int .i64 12,.int .i64 6,.int .i64 5,.int .i64 2,.int .i64 2,.int .i64 11,.int .i64 10,.int .i64 4,.int .i64 3] 3
  generalize w4.alloc (.cells #[.int .i64 12,.int .i64 12,.int .i64 6,.int .i64 5,.int .i64 2,.int .i64 2,.int .i64 11,.int .i64 10,.int .i64 4,.int .i64 3] 3) = w5 at f5 ⊢
  clear f4
  go_wp2_with fail
  refine (Sbranch.out _).mono ?_
  rintro e wx ⟨rfl,rfl⟩
  go_wp2_with fail
  refine (Cg.out _).mono ?_
  rintro e wx ⟨rfl,rfl⟩
  go_wp2_with fail
  refine (Ck.out _).mono ?_
  rintro e wx ⟨rfl,rfl⟩
  go_wp2_with fail
  refine (Cu.out _).mono ?_
  rintro e wx ⟨rfl,rfl⟩
  go_wp2_with fail
  refine (CE.out _).mono ?_
  rintro e w6 ⟨rfl,hq⟩
  have f6:=f5.call hq
  clear f5 hq
  obtain ⟨b0,b1,b2,b3,b4,b5,b6⟩:=f6.box.seven
  have z:=f6.box.free
  go_upto_region 60 with (fail)
  have f7:FrR w (I7 0 e1 e2 e3 e4 0 0) _:=(((((((f6.set 0 (.int .i64 0)).set 1 (.int .i64 e1)).set 2 (.int .i64 e2)).set 3 (.int .i64 e3)).set 4 (.int .i64 e4)).set 5 (.int .i64 0)).set 6 (.int .i64 0))
  generalize (((((((w6.setCell ⟨w.heap.size + 1,0,none⟩ (.int .i64 0)).setCell ⟨w.heap.size + 1,1,none⟩ (.int .i64 e1)).setCell ⟨w.heap.size + 1,2,none⟩ (.int .i64 e2)).setCell ⟨w.heap.size + 1,3,none⟩ (.int .i64 e3)).setCell ⟨w.heap.size + 1,4,none⟩ (.int .i64 e4)).setCell ⟨w.heap.size + 1,5,none⟩ (.int .i64 0)).setCell ⟨w.heap.size + 1,6,none⟩ (.int .i64 0)) = w7 at f7 ⊢
  clear b0 b1 b2 b3 b4 b5 b6 z f6
  obtain ⟨b0,b1,b2,b3,b4,b5,b6⟩:=f7.box.seven
  have z:=f7.box.free
  obtain ⟨q0,q1,q2,q3,q4,q5,q6⟩:=f7.res.seven
  have y:=f7.res.free
  go_wp2
  have g:=f7
  (try simp only [Exit.inBlock,Exit.then])
  refine bodyPost_ret (results_twoC rfl _ _ w.heap.size _ _ _ _ _ _ _ rfl (g.res.seven_set _ _ _ _ _ _ _)) rfl ⟨rfl,?_⟩
  exact g.kp.seven_set (Nat.le_refl _) _ _ _ _ _ _ _

set_option maxRecDepth 100000 in
theorem refx_moves (s:Nat) (w:World) (hs:s < 65536) (hg:pc s 0 2 = 2) (hk:pc s 13 3 = 4) (e0 e1 e2 e3 e4:Int) (h0:(e0 == 0) = false) (HE:∀ w',Calls Tryz.prog 92 #[.int .i64 ((pc s 12 1:Nat):Int),.int .i64 ((pc s 7 5:Nat):Int),.int .i64 ((pc s 2 5:Nat):Int)] w' fun e w''=>e = .returned (.agg (I7 e0 e1 e2 e3 e4 0 0))∧Kp none w' w'') :
    Calls Tryz.prog 51 #[.int .u16 s] w fun e w'=>e = .returned (.tuple #[.agg (I7 e0 e1 e2 e3 e4 0 2),.bool true])∧Kp none w w':=by
  have f1:=FrR.two w (I7 0 0 0 0 0 0 2)
  have Cg:=hid (fun w=>F_at s 1 0 2 w hs (by decide) (by decide) rfl)
  have Ck:=hid (fun w=>F_at s 15 13 3 w hs (by decide) (by decide) rfl)
  have Hg:pc s 0 2 < 4:=pc_lt s 0 2
  have Hk:pc s 13 3 < 8:=pc_lt s 13 3
  rw [hg] at Cg Hg
  rw [hk] at Ck Hk
  clear hg hk
  have Cu:=hid (fun w=>F_at s 12 12 1 w hs (by decide) (by decide) rfl)
  generalize pc s 12 1 = up at *
  have Crd:=hid (fun w=>F_at s 11 7 5 w hs (by decide) (by decide) rfl)
  have Hrd:pc s 7 5 < 32:=pc_lt s 7 5
  generalize pc s 7 5 = rd at *
  have Cr2:=hid (fun w=>F_at s 6 2 5 w hs (by decide) (by decide) rfl)
  have Hr2:pc s 2 5 < 32:=pc_lt s 2 5
  generalize pc s 2 5 = r2 at *
  have Ca:=hid (fun w=>F_at s 9 7 3 w hs (by decide) (by decide) rfl)
  have Ha:pc s 7 3 < 8:=pc_lt s 7 3
  generalize pc s 7 3 = a at *
  have Cb:=hid (fun w=>F_at s 4 2 3 w hs (by decide) (by decide) rfl)
  have Hb:pc s 2 3 < 8:=pc_lt s 2 3
  generalize pc s 2 3 = b at *
  have Psix:=hid (fun w0 w1 hw=>pieces_six s w0 w1 hw hs)
  have Hsix:shiftN s < 64:=six_lt s
  generalize shiftN s = x6 at *
  have Ssix:=hid (fun w=>S_any (x6:Int) 6 w (by decide) (by decide) (by omega) (by omega))
  have lsix:-32 ≤ low (x6:Int) 6:=low_lo _ 6
  have msix:low (x6:Int) 6 < 32:=low_hi _ 6 (by decide)
  generalize low (x6:Int) 6 = d6 at *
  have Pwords:=hid (fun w0 w1 hw=>pieces_words s w0 w1 hw hs)
  have Hwords:wordsN s < 128:=words_lt s
  generalize wordsN s = xw at *
  have Pdoubles:=hid (fun w0 w1 hw=>pieces_doubles s w0 w1 hw hs)
  have Hdoubles:doublesN s < 256:=doubles_lt s
  generalize doublesN s = xd at *
  have Pbranch:=hid (fun w0 w1 hw=>pieces_branch s w0 w1 hw hs)
  have Hbranch:branchN s < 512:=branch_lt s
  generalize branchN s = xb at *
  have Sbranch:=hid (fun w=>S_any (xb:Int) 9 w (by decide) (by decide) (by omega) (by omega))
  have lbranch:-256 ≤ low (xb:Int) 9:=low_lo _ 9
  have mbranch:low (xb:Int) 9 < 256:=low_hi _ 9 (by decide)
  generalize low (xb:Int) 9 = d9 at *
  have CE:=hid HE;clear HE
  go_enter Tryz.func51,Tryz.ntmps51
  go_wp2_with fail
  refine (Crd.out _).mono ?_
  rintro e wx ⟨rfl,rfl⟩
  generalize (w.alloc (.cells (I7 0 0 0 0 0 0 0) 47)).alloc (.cells (I7 0 0 0 0 0 0 2) 47) = w1 at f1 ⊢
  go_wp2_with fail
  refine (Cr2.out _).mono ?_
  rintro e wx ⟨rfl,rfl⟩
  go_wp2_with fail
  refine (Ca.out _).mono ?_
  rintro e wx ⟨rfl,rfl⟩
  go_wp2_with fail
  refine (Cb.out _).mono ?_
  rintro e wx ⟨rfl,rfl⟩
  go_wp2_with fail
  refine (Psix.out w1 _ (by rfl)).mono ?_
  rintro e wx ⟨rfl,rfl⟩
  have f2:=f1.alloc #[.int .i64 12,.int .i64 12,.int .i64 6,.int .i64 2] 3
  generalize w1.alloc (.cells #[.int .i64 12,.int .i64 12,.int .i64 6,.int .i64 2] 3) = w2 at f2 ⊢
  clear f1
  go_wp2_with fail
  refine (Ssix.out _).mono ?_
  rintro e wx ⟨rfl,rfl⟩
  go_wp2_with fail
  refine (Pwords.out w2 _ (by rfl)).mono ?_
  rintro e wx ⟨rfl,rfl⟩
  have f3:=f2.alloc #[.int .i64 5,.int .i64 5,.int .i64 12,.int .i64 10,.int .i64 6,.int .i64 6] 3
  generalize w2.alloc (.cells #[.int .i64 5,.int .i64 5,.int .i64 12,.int .i64 10,.int .i64 6,.int .i64 6] 3) = w3 at f3 ⊢
  clear f2
  go_wp2_with fail
  refine (Pdoubles.out w3 _ (by rfl)).mono ?_
  rintro e wx ⟨rfl,rfl⟩
  have f4:=f3.alloc #[.int .i64 6,.int .i64 5,.int .i64 12,.int .i64 10] 3
  generalize w3.alloc (.cells #[.int .i64 6,.int .i64 5,.int .i64 12,.int .i64 10] 3) = w4 at f4 ⊢
  clear f3
  go_wp2_with fail
  refine (Pbranch.out w4 _ (by rfl)).mono ?_
  rintro e wx ⟨rfl,rfl⟩
  have f5:=f4.alloc #[.int .i64 12,.int .i64 12,.int .i64 6,.int .i64 5,.int .i64 2,.int .i64 2,.int .i64 11,.int .i64 10,.int .i64 4,.int .i64 3] 3
  generalize w4.alloc (.cells #[.int .i64 12,.int .i64 12,.int .i64 6,.int .i64 5,.int .i64 2,.int .i64 2,.int .i64 11,.int .i64 10,.int .i64 4,.int .i64 3] 3) = w5 at f5 ⊢
  clear f4
  go_wp2_with fail
  refine (Sbranch.out _).mono ?_
  rintro e wx ⟨rfl,rfl⟩
  go_wp2_with fail
  refine (Cg.out _).mono ?_
  rintro e wx ⟨rfl,rfl⟩
  go_wp2_with fail
  refine (Ck.out _).mono ?_
  rintro e wx ⟨rfl,rfl⟩
  go_wp2_with fail
  refine (Cu.out _).mono ?_
  rintro e wx ⟨rfl,rfl⟩
  go_wp2_with fail
  refine (CE.out _).mono ?_
  rintro e w6 ⟨rfl,hq⟩
  have f6:=f5.call hq
  clear f5 hq
  obtain ⟨b0,b1,b2,b3,b4,b5,b6⟩:=f6.box.seven
  have z:=f6.box.free
  go_upto_region 60 with (fail)
  have f7:FrR w (I7 e0 e1 e2 e3 e4 0 0) _:=(((((((f6.set 0 (.int .i64 e0)).set 1 (.int .i64 e1)).set 2 (.int .i64 e2)).set 3 (.int .i64 e3)).set 4 (.int .i64 e4)).set 5 (.int .i64 0)).set 6 (.int .i64 0))
  generalize (((((((w6.setCell ⟨w.heap.size + 1,0,none⟩ (.int .i64 e0)).setCell ⟨w.heap.size + 1,1,none⟩ (.int .i64 e1)).setCell ⟨w.heap.size + 1,2,none⟩ (.int .i64 e2)).setCell ⟨w.heap.size + 1,3,none⟩ (.int .i64 e3)).setCell ⟨w.heap.size + 1,4,none⟩ (.int .i64 e4)).setCell ⟨w.heap.size + 1,5,none⟩ (.int .i64 0)).setCell ⟨w.heap.size + 1,6,none⟩ (.int .i64 0)) = w7 at f7 ⊢
  clear b0 b1 b2 b3 b4 b5 b6 z f6
  obtain ⟨b0,b1,b2,b3,b4,b5,b6⟩:=f7.box.seven
  have z:=f7.box.free
  obtain ⟨q0,q1,q2,q3,q4,q5,q6⟩:=f7.res.seven
  have y:=f7.res.free
  go_wp2
  have g:=f7.set 6 (.int .i64 2)
  (try simp only [Exit.inBlock,Exit.then])
  refine bodyPost_ret (results_twoC rfl _ _ w.heap.size _ _ _ _ _ _ _ rfl (g.res.seven_set _ _ _ _ _ _ _)) rfl ⟨rfl,?_⟩
  exact g.kp.seven_set (Nat.le_refl _) _ _ _ _ _ _ _
end Go.Proofs.YtbngjbmfkekdnaaGreatDoor.Td
