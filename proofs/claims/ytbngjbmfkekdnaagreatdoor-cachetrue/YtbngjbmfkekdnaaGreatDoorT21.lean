/-
  The reference's Decode, a code each.
-/
import Derived.Test.YtbngjbmfkekdnaaGreatDoorT20
import Derived.Lib.Hide
set_option linter.unusedVariables false
set_option linter.unusedSimpArgs false
set_option maxHeartbeats 16000000
open Go.Lib (hid)
namespace Go.Proofs.YtbngjbmfkekdnaaGreatDoor.Tr
open Go.RowKit
open Td
set_option maxRecDepth 100000 in
theorem ref_auipc (s:Nat) (w:World) (hs:s < 4294967296) (hc:pc s 0 7 = 23) :
    Calls Tryz.prog 50 #[.int .u32 s] w fun e w'=>e = .returned (.tuple #[.agg (I7 2 (pc s 7 5:Nat) 0 0 (low (pc s 12 20:Nat) 20 * 4096) 0 4),.bool true])∧Kp none w w':=by
  have f0:=FrR.start w (I7 0 0 0 0 0 0 4)
  have C11_7:=hid (fun w=>F_at s 11 7 5 w hs (by omega) (by omega) rfl)
  have B11_7:pc s 7 5 < 32:=pc_lt s 7 5
  have C14_12:=hid (fun w=>F_at s 14 12 3 w hs (by omega) (by omega) rfl)
  have B14_12:pc s 12 3 < 8:=pc_lt s 12 3
  have C19_15:=hid (fun w=>F_at s 19 15 5 w hs (by omega) (by omega) rfl)
  have B19_15:pc s 15 5 < 32:=pc_lt s 15 5
  have C24_20:=hid (fun w=>F_at s 24 20 5 w hs (by omega) (by omega) rfl)
  have B24_20:pc s 20 5 < 32:=pc_lt s 20 5
  have C31_25:=hid (fun w=>F_at s 31 25 7 w hs (by omega) (by omega) rfl)
  have B31_25:pc s 25 7 < 128:=pc_lt s 25 7
  have C31_20:=hid (fun w=>F_at s 31 20 12 w hs (by omega) (by omega) rfl)
  have B31_20:pc s 20 12 < 4096:=pc_lt s 20 12
  have C6_0:=hid (fun w=>F_at s 6 0 7 w hs (by omega) (by omega) rfl)
  rw [hc] at C6_0
  have B6_0:pc s 0 7 < 128:=pc_lt s 0 7
  have M:=mul4096 _ (low20 (pc s 12 20:Nat)).1 (low20 _).2
  have C31_12:=hid (fun w=>F_at s 31 12 20 w hs (by omega) (by omega) rfl)
  have B31_12:pc s 12 20 < 1048576:=pc_lt s 12 20
  go_enter Tryz.func50,Tryz.ntmps50
  go_wp2_with fail
  refine (C11_7.out _).mono ?_
  rintro e wx ⟨rfl,rfl⟩
  generalize (w.alloc (.cells (I7 0 0 0 0 0 0 0) 47)).alloc (.cells (I7 0 0 0 0 0 0 4) 47) = w1 at f0 ⊢
  obtain ⟨b0,b1,b2,b3,b4,b5,b6⟩:=f0.box.seven
  have z:=f0.box.free
  go_wp2_with fail
  refine (C14_12.out _).mono ?_
  rintro e wx ⟨rfl,rfl⟩
  go_wp2_with fail
  refine (C19_15.out _).mono ?_
  rintro e wx ⟨rfl,rfl⟩
  go_wp2_with fail
  refine (C24_20.out _).mono ?_
  rintro e wx ⟨rfl,rfl⟩
  go_wp2_with fail
  refine (C31_25.out _).mono ?_
  rintro e wx ⟨rfl,rfl⟩
  go_wp2_with fail
  refine (C31_20.out _).mono ?_
  rintro e wx ⟨rfl,rfl⟩
  go_wp2_with fail
  refine (S_at _ 12 4096 _ (by omega) (by omega) (by omega) (by rfl) (by omega)).mono ?_
  rintro e wx ⟨rfl,rfl⟩
  go_wp2_with fail
  refine (C6_0.out _).mono ?_
  rintro e wx ⟨rfl,rfl⟩
  go_wp2_with fail
  refine (C6_0.out _).mono ?_
  rintro e wx ⟨rfl,rfl⟩
  go_wp2_with fail
  refine (C31_12.out _).mono ?_
  rintro e wx ⟨rfl,rfl⟩
  go_wp2_with fail
  refine (S_at _ 20 1048576 _ (by omega) (by omega) (by omega) (by rfl) (by omega)).mono ?_
  rintro e wx ⟨rfl,rfl⟩
  obtain ⟨q0,q1,q2,q3,q4,q5,q6⟩:=f0.res.seven
  have y:=f0.res.free
  go_wp2
  have g:=((((f0.set 0 (.int .i64 1)).set 0 (.int .i64 2)).set 1 (.int .i64 (pc s 7 5:Nat))).set 4 (.int .i64 (low (pc s 12 20:Nat) 20 * 4096)))
  (try simp only [Exit.inBlock,Exit.then])
  refine bodyPost_ret (results_two rfl _ _ w.heap.size _ _ _ _ _ _ _ rfl (g.res.seven_set _ _ _ _ _ _ _)) rfl ⟨rfl,?_⟩
  exact g.kp.seven_set (Nat.le_refl _) _ _ _ _ _ _ _

set_option maxRecDepth 100000 in
theorem ref_branch (s:Nat) (w:World) (hs:s < 4294967296) (hc:pc s 0 7 = 99) (ho:(([5,6,0,0,7,8,9,10]:List Int).getD (pc s 12 3) 0 == 0) = false) :
    Calls Tryz.prog 50 #[.int .u32 s] w fun e w'=>e = .returned (.tuple #[.agg (I7 (([5,6,0,0,7,8,9,10]:List Int).getD (pc s 12 3) 0) 0 (pc s 15 5:Nat) (pc s 20 5:Nat) (low ((((pc s 31 1:Nat) * 2 + (pc s 7 1:Nat)) * 64 + (pc s 25 6:Nat)) * 16 + (pc s 8 4:Nat):Int) 12 * 2) 0 4),.bool true])∧Kp none w w':=by
  have f0:=FrR.start w (I7 0 0 0 0 0 0 4)
  have C11_7:=hid (fun w=>F_at s 11 7 5 w hs (by omega) (by omega) rfl)
  have B11_7:pc s 7 5 < 32:=pc_lt s 7 5
  have C14_12:=hid (fun w=>F_at s 14 12 3 w hs (by omega) (by omega) rfl)
  have B14_12:pc s 12 3 < 8:=pc_lt s 12 3
  have C19_15:=hid (fun w=>F_at s 19 15 5 w hs (by omega) (by omega) rfl)
  have B19_15:pc s 15 5 < 32:=pc_lt s 15 5
  have C24_20:=hid (fun w=>F_at s 24 20 5 w hs (by omega) (by omega) rfl)
  have B24_20:pc s 20 5 < 32:=pc_lt s 20 5
  have C31_25:=hid (fun w=>F_at s 31 25 7 w hs (by omega) (by omega) rfl)
  have B31_25:pc s 25 7 < 128:=pc_lt s 25 7
  have C31_20:=hid (fun w=>F_at s 31 20 12 w hs (by omega) (by omega) rfl)
  have B31_20:pc s 20 12 < 4096:=pc_lt s 20 12
  have C6_0:=hid (fun w=>F_at s 6 0 7 w hs (by omega) (by omega) rfl)
  rw [hc] at C6_0
  have B6_0:pc s 0 7 < 128:=pc_lt s 0 7
  have O_o:=hid (fun w0 w1 hw=>one_new [5,6,0,0,7,8,9,10] (pc s 12 3) w0 w1 hw (by decide))
  generalize ([5,6,0,0,7,8,9,10]:List Int).getD (pc s 12 3) 0 = o at *
  have M:=mul2 _ (low12 ((((pc s 31 1:Nat) * 2 + (pc s 7 1:Nat)) * 64 + (pc s 25 6:Nat)) * 16 + (pc s 8 4:Nat):Int)).1 (low12 _).2
  have C31_31:=hid (fun w=>F_at s 31 31 1 w hs (by omega) (by omega) rfl)
  have B31_31:pc s 31 1 < 2:=pc_lt s 31 1
  have C7_7:=hid (fun w=>F_at s 7 7 1 w hs (by omega) (by omega) rfl)
  have B7_7:pc s 7 1 < 2:=pc_lt s 7 1
  have C30_25:=hid (fun w=>F_at s 30 25 6 w hs (by omega) (by omega) rfl)
  have B30_25:pc s 25 6 < 64:=pc_lt s 25 6
  have C11_8:=hid (fun w=>F_at s 11 8 4 w hs (by omega) (by omega) rfl)
  have B11_8:pc s 8 4 < 16:=pc_lt s 8 4
  go_enter Tryz.func50,Tryz.ntmps50
  go_wp2_with fail
  refine (C11_7.out _).mono ?_
  rintro e wx ⟨rfl,rfl⟩
  generalize (w.alloc (.cells (I7 0 0 0 0 0 0 0) 47)).alloc (.cells (I7 0 0 0 0 0 0 4) 47) = w1 at f0 ⊢
  obtain ⟨b0,b1,b2,b3,b4,b5,b6⟩:=f0.box.seven
  have z:=f0.box.free
  go_wp2_with fail
  refine (C14_12.out _).mono ?_
  rintro e wx ⟨rfl,rfl⟩
  go_wp2_with fail
  refine (C19_15.out _).mono ?_
  rintro e wx ⟨rfl,rfl⟩
  go_wp2_with fail
  refine (C24_20.out _).mono ?_
  rintro e wx ⟨rfl,rfl⟩
  go_wp2_with fail
  refine (C31_25.out _).mono ?_
  rintro e wx ⟨rfl,rfl⟩
  go_wp2_with fail
  refine (C31_20.out _).mono ?_
  rintro e wx ⟨rfl,rfl⟩
  go_wp2_with fail
  refine (S_at _ 12 4096 _ (by omega) (by omega) (by omega) (by rfl) (by omega)).mono ?_
  rintro e wx ⟨rfl,rfl⟩
  go_wp2_with fail
  refine (C6_0.out _).mono ?_
  rintro e wx ⟨rfl,rfl⟩
  go_wp2_with fail
  refine (O_o.out w1 _ (by rfl)).mono ?_
  rintro e wx ⟨rfl,rfl⟩
  have f1:FrR w (I7 0 0 0 0 0 0 4) _:=f0.alloc #[.int .i64 5,.int .i64 6,.int .i64 0,.int .i64 0,.int .i64 7,.int .i64 8,.int .i64 9,.int .i64 10] 3
  generalize w1.alloc (.cells #[.int .i64 5,.int .i64 6,.int .i64 0,.int .i64 0,.int .i64 7,.int .i64 8,.int .i64 9,.int .i64 10] 3) = w2 at f1 ⊢
  clear b0 b1 b2 b3 b4 b5 b6 z
  obtain ⟨b0,b1,b2,b3,b4,b5,b6⟩:=f1.box.seven
  have z:=f1.box.free
  go_wp2_with fail
  refine (C31_31.out _).mono ?_
  rintro e wx ⟨rfl,rfl⟩
  go_wp2_with fail
  refine (C7_7.out _).mono ?_
  rintro e wx ⟨rfl,rfl⟩
  go_wp2_with fail
  refine (C30_25.out _).mono ?_
  rintro e wx ⟨rfl,rfl⟩
  go_wp2_with fail
  refine (C11_8.out _).mono ?_
  rintro e wx ⟨rfl,rfl⟩
  go_wp2_with fail
  refine (S_at _ 12 4096 _ (by omega) (by omega) (by omega) (by rfl) (by omega)).mono ?_
  rintro e wx ⟨rfl,rfl⟩
  obtain ⟨q0,q1,q2,q3,q4,q5,q6⟩:=f1.res.seven
  have y:=f1.res.free
  go_wp2
  have g:=((((f1.set 0 (.int .i64 o)).set 2 (.int .i64 (pc s 15 5:Nat))).set 3 (.int .i64 (pc s 20 5:Nat))).set 4 (.int .i64 (low ((((pc s 31 1:Nat) * 2 + (pc s 7 1:Nat)) * 64 + (pc s 25 6:Nat)) * 16 + (pc s 8 4:Nat):Int) 12 * 2)))
  (try simp only [Exit.inBlock,Exit.then])
  refine bodyPost_ret (results_two rfl _ _ w.heap.size _ _ _ _ _ _ _ rfl (g.res.seven_set _ _ _ _ _ _ _)) rfl ⟨rfl,?_⟩
  exact g.kp.seven_set (Nat.le_refl _) _ _ _ _ _ _ _

set_option maxRecDepth 100000 in
theorem ref_branch_z (s:Nat) (w:World) (hs:s < 4294967296) (hc:pc s 0 7 = 99) (ho:([5,6,0,0,7,8,9,10]:List Int).getD (pc s 12 3) 0 = 0) :
    Calls Tryz.prog 50 #[.int .u32 s] w fun e w'=>e = .returned (.tuple #[.agg (I7 0 0 0 0 0 0 0),.bool false])∧Kp none w w':=by
  have f0:=FrR.start w (I7 0 0 0 0 0 0 4)
  have C11_7:=hid (fun w=>F_at s 11 7 5 w hs (by omega) (by omega) rfl)
  have B11_7:pc s 7 5 < 32:=pc_lt s 7 5
  have C14_12:=hid (fun w=>F_at s 14 12 3 w hs (by omega) (by omega) rfl)
  have B14_12:pc s 12 3 < 8:=pc_lt s 12 3
  have C19_15:=hid (fun w=>F_at s 19 15 5 w hs (by omega) (by omega) rfl)
  have B19_15:pc s 15 5 < 32:=pc_lt s 15 5
  have C24_20:=hid (fun w=>F_at s 24 20 5 w hs (by omega) (by omega) rfl)
  have B24_20:pc s 20 5 < 32:=pc_lt s 20 5
  have C31_25:=hid (fun w=>F_at s 31 25 7 w hs (by omega) (by omega) rfl)
  have B31_25:pc s 25 7 < 128:=pc_lt s 25 7
  have C31_20:=hid (fun w=>F_at s 31 20 12 w hs (by omega) (by omega) rfl)
  have B31_20:pc s 20 12 < 4096:=pc_lt s 20 12
  have C6_0:=hid (fun w=>F_at s 6 0 7 w hs (by omega) (by omega) rfl)
  rw [hc] at C6_0
  have B6_0:pc s 0 7 < 128:=pc_lt s 0 7
  have O_o:=hid (fun w0 w1 hw=>one_new [5,6,0,0,7,8,9,10] (pc s 12 3) w0 w1 hw (by decide))
  generalize ([5,6,0,0,7,8,9,10]:List Int).getD (pc s 12 3) 0 = o at *
  subst ho
  have M:=mul2 _ (low12 ((((pc s 31 1:Nat) * 2 + (pc s 7 1:Nat)) * 64 + (pc s 25 6:Nat)) * 16 + (pc s 8 4:Nat):Int)).1 (low12 _).2
  have C31_31:=hid (fun w=>F_at s 31 31 1 w hs (by omega) (by omega) rfl)
  have B31_31:pc s 31 1 < 2:=pc_lt s 31 1
  have C7_7:=hid (fun w=>F_at s 7 7 1 w hs (by omega) (by omega) rfl)
  have B7_7:pc s 7 1 < 2:=pc_lt s 7 1
  have C30_25:=hid (fun w=>F_at s 30 25 6 w hs (by omega) (by omega) rfl)
  have B30_25:pc s 25 6 < 64:=pc_lt s 25 6
  have C11_8:=hid (fun w=>F_at s 11 8 4 w hs (by omega) (by omega) rfl)
  have B11_8:pc s 8 4 < 16:=pc_lt s 8 4
  go_enter Tryz.func50,Tryz.ntmps50
  go_wp2_with fail
  refine (C11_7.out _).mono ?_
  rintro e wx ⟨rfl,rfl⟩
  generalize (w.alloc (.cells (I7 0 0 0 0 0 0 0) 47)).alloc (.cells (I7 0 0 0 0 0 0 4) 47) = w1 at f0 ⊢
  obtain ⟨b0,b1,b2,b3,b4,b5,b6⟩:=f0.box.seven
  have z:=f0.box.free
  go_wp2_with fail
  refine (C14_12.out _).mono ?_
  rintro e wx ⟨rfl,rfl⟩
  go_wp2_with fail
  refine (C19_15.out _).mono ?_
  rintro e wx ⟨rfl,rfl⟩
  go_wp2_with fail
  refine (C24_20.out _).mono ?_
  rintro e wx ⟨rfl,rfl⟩
  go_wp2_with fail
  refine (C31_25.out _).mono ?_
  rintro e wx ⟨rfl,rfl⟩
  go_wp2_with fail
  refine (C31_20.out _).mono ?_
  rintro e wx ⟨rfl,rfl⟩
  go_wp2_with fail
  refine (S_at _ 12 4096 _ (by omega) (by omega) (by omega) (by rfl) (by omega)).mono ?_
  rintro e wx ⟨rfl,rfl⟩
  go_wp2_with fail
  refine (C6_0.out _).mono ?_
  rintro e wx ⟨rfl,rfl⟩
  go_wp2_with fail
  refine (O_o.out w1 _ (by rfl)).mono ?_
  rintro e wx ⟨rfl,rfl⟩
  have f1:FrR w (I7 0 0 0 0 0 0 4) _:=f0.alloc #[.int .i64 5,.int .i64 6,.int .i64 0,.int .i64 0,.int .i64 7,.int .i64 8,.int .i64 9,.int .i64 10] 3
  generalize w1.alloc (.cells #[.int .i64 5,.int .i64 6,.int .i64 0,.int .i64 0,.int .i64 7,.int .i64 8,.int .i64 9,.int .i64 10] 3) = w2 at f1 ⊢
  clear b0 b1 b2 b3 b4 b5 b6 z
  obtain ⟨b0,b1,b2,b3,b4,b5,b6⟩:=f1.box.seven
  have z:=f1.box.free
  go_wp2_with fail
  refine (C31_31.out _).mono ?_
  rintro e wx ⟨rfl,rfl⟩
  go_wp2_with fail
  refine (C7_7.out _).mono ?_
  rintro e wx ⟨rfl,rfl⟩
  go_wp2_with fail
  refine (C30_25.out _).mono ?_
  rintro e wx ⟨rfl,rfl⟩
  go_wp2_with fail
  refine (C11_8.out _).mono ?_
  rintro e wx ⟨rfl,rfl⟩
  go_wp2_with fail
  refine (S_at _ 12 4096 _ (by omega) (by omega) (by omega) (by rfl) (by omega)).mono ?_
  rintro e wx ⟨rfl,rfl⟩
  obtain ⟨q0,q1,q2,q3,q4,q5,q6⟩:=f1.res.seven
  have y:=f1.res.free
  go_wp2
  have g:=((((f1.set 0 (.int .i64 0)).set 2 (.int .i64 (pc s 15 5:Nat))).set 3 (.int .i64 (pc s 20 5:Nat))).set 4 (.int .i64 (low ((((pc s 31 1:Nat) * 2 + (pc s 7 1:Nat)) * 64 + (pc s 25 6:Nat)) * 16 + (pc s 8 4:Nat):Int) 12 * 2)))
  (try simp only [Exit.inBlock,Exit.then])
  refine bodyPost_ret (results_two rfl _ _ w.heap.size _ _ _ _ _ _ _ rfl (g.res.seven_set _ _ _ _ _ _ _)) rfl ⟨rfl,?_⟩
  exact g.kp.seven_set (Nat.le_refl _) _ _ _ _ _ _ _

set_option maxRecDepth 100000 in
theorem ref_store (s:Nat) (w:World) (hs:s < 4294967296) (hc:pc s 0 7 = 35) (ho:(([18,19,20,21]:List Int).getD (pc s 12 3) 0 == 0) = false) :
    Calls Tryz.prog 50 #[.int .u32 s] w fun e w'=>e = .returned (.tuple #[.agg (I7 (([18,19,20,21]:List Int).getD (pc s 12 3) 0) 0 (pc s 15 5:Nat) (pc s 20 5:Nat) (low ((pc s 25 7:Nat) * 32 + (pc s 7 5:Nat):Int) 12) 0 4),.bool true])∧Kp none w w':=by
  have f0:=FrR.start w (I7 0 0 0 0 0 0 4)
  have C11_7:=hid (fun w=>F_at s 11 7 5 w hs (by omega) (by omega) rfl)
  have B11_7:pc s 7 5 < 32:=pc_lt s 7 5
  have C14_12:=hid (fun w=>F_at s 14 12 3 w hs (by omega) (by omega) rfl)
  have B14_12:pc s 12 3 < 8:=pc_lt s 12 3
  have C19_15:=hid (fun w=>F_at s 19 15 5 w hs (by omega) (by omega) rfl)
  have B19_15:pc s 15 5 < 32:=pc_lt s 15 5
  have C24_20:=hid (fun w=>F_at s 24 20 5 w hs (by omega) (by omega) rfl)
  have B24_20:pc s 20 5 < 32:=pc_lt s 20 5
  have C31_25:=hid (fun w=>F_at s 31 25 7 w hs (by omega) (by omega) rfl)
  have B31_25:pc s 25 7 < 128:=pc_lt s 25 7
  have C31_20:=hid (fun w=>F_at s 31 20 12 w hs (by omega) (by omega) rfl)
  have B31_20:pc s 20 12 < 4096:=pc_lt s 20 12
  have C6_0:=hid (fun w=>F_at s 6 0 7 w hs (by omega) (by omega) rfl)
  rw [hc] at C6_0
  have B6_0:pc s 0 7 < 128:=pc_lt s 0 7
  have O_o:=hid (fun w0 w1 hw=>one_new [18,19,20,21] (pc s 12 3) w0 w1 hw (by decide))
  generalize ([18,19,20,21]:List Int).getD (pc s 12 3) 0 = o at *
  go_enter Tryz.func50,Tryz.ntmps50
  go_wp2_with fail
  refine (C11_7.out _).mono ?_
  rintro e wx ⟨rfl,rfl⟩
  generalize (w.alloc (.cells (I7 0 0 0 0 0 0 0) 47)).alloc (.cells (I7 0 0 0 0 0 0 4) 47) = w1 at f0 ⊢
  obtain ⟨b0,b1,b2,b3,b4,b5,b6⟩:=f0.box.seven
  have z:=f0.box.free
  go_wp2_with fail
  refine (C14_12.out _).mono ?_
  rintro e wx ⟨rfl,rfl⟩
  go_wp2_with fail
  refine (C19_15.out _).mono ?_
  rintro e wx ⟨rfl,rfl⟩
  go_wp2_with fail
  refine (C24_20.out _).mono ?_
  rintro e wx ⟨rfl,rfl⟩
  go_wp2_with fail
  refine (C31_25.out _).mono ?_
  rintro e wx ⟨rfl,rfl⟩
  go_wp2_with fail
  refine (C31_20.out _).mono ?_
  rintro e wx ⟨rfl,rfl⟩
  go_wp2_with fail
  refine (S_at _ 12 4096 _ (by omega) (by omega) (by omega) (by rfl) (by omega)).mono ?_
  rintro e wx ⟨rfl,rfl⟩
  go_wp2_with fail
  refine (C6_0.out _).mono ?_
  rintro e wx ⟨rfl,rfl⟩
  go_wp2_with fail
  refine (O_o.out w1 _ (by rfl)).mono ?_
  rintro e wx ⟨rfl,rfl⟩
  have f1:FrR w (I7 0 0 0 0 0 0 4) _:=f0.alloc #[.int .i64 18,.int .i64 19,.int .i64 20,.int .i64 21] 3
  generalize w1.alloc (.cells #[.int .i64 18,.int .i64 19,.int .i64 20,.int .i64 21] 3) = w2 at f1 ⊢
  clear b0 b1 b2 b3 b4 b5 b6 z
  obtain ⟨b0,b1,b2,b3,b4,b5,b6⟩:=f1.box.seven
  have z:=f1.box.free
  go_wp2_with fail
  refine (C31_25.out _).mono ?_
  rintro e wx ⟨rfl,rfl⟩
  go_wp2_with fail
  refine (C11_7.out _).mono ?_
  rintro e wx ⟨rfl,rfl⟩
  go_wp2_with fail
  refine (S_at _ 12 4096 _ (by omega) (by omega) (by omega) (by rfl) (by omega)).mono ?_
  rintro e wx ⟨rfl,rfl⟩
  obtain ⟨q0,q1,q2,q3,q4,q5,q6⟩:=f1.res.seven
  have y:=f1.res.free
  go_wp2
  have g:=((((f1.set 0 (.int .i64 o)).set 2 (.int .i64 (pc s 15 5:Nat))).set 3 (.int .i64 (pc s 20 5:Nat))).set 4 (.int .i64 (low ((pc s 25 7:Nat) * 32 + (pc s 7 5:Nat):Int) 12)))
  (try simp only [Exit.inBlock,Exit.then])
  refine bodyPost_ret (results_two rfl _ _ w.heap.size _ _ _ _ _ _ _ rfl (g.res.seven_set _ _ _ _ _ _ _)) rfl ⟨rfl,?_⟩
  exact g.kp.seven_set (Nat.le_refl _) _ _ _ _ _ _ _

set_option maxRecDepth 100000 in
theorem ref_store_z (s:Nat) (w:World) (hs:s < 4294967296) (hc:pc s 0 7 = 35) (ho:([18,19,20,21]:List Int).getD (pc s 12 3) 0 = 0) :
    Calls Tryz.prog 50 #[.int .u32 s] w fun e w'=>e = .returned (.tuple #[.agg (I7 0 0 0 0 0 0 0),.bool false])∧Kp none w w':=by
  have f0:=FrR.start w (I7 0 0 0 0 0 0 4)
  have C11_7:=hid (fun w=>F_at s 11 7 5 w hs (by omega) (by omega) rfl)
  have B11_7:pc s 7 5 < 32:=pc_lt s 7 5
  have C14_12:=hid (fun w=>F_at s 14 12 3 w hs (by omega) (by omega) rfl)
  have B14_12:pc s 12 3 < 8:=pc_lt s 12 3
  have C19_15:=hid (fun w=>F_at s 19 15 5 w hs (by omega) (by omega) rfl)
  have B19_15:pc s 15 5 < 32:=pc_lt s 15 5
  have C24_20:=hid (fun w=>F_at s 24 20 5 w hs (by omega) (by omega) rfl)
  have B24_20:pc s 20 5 < 32:=pc_lt s 20 5
  have C31_25:=hid (fun w=>F_at s 31 25 7 w hs (by omega) (by omega) rfl)
  have B31_25:pc s 25 7 < 128:=pc_lt s 25 7
  have C31_20:=hid (fun w=>F_at s 31 20 12 w hs (by omega) (by omega) rfl)
  have B31_20:pc s 20 12 < 4096:=pc_lt s 20 12
  have C6_0:=hid (fun w=>F_at s 6 0 7 w hs (by omega) (by omega) rfl)
  rw [hc] at C6_0
  have B6_0:pc s 0 7 < 128:=pc_lt s 0 7
  have O_o:=hid (fun w0 w1 hw=>one_new [18,19,20,21] (pc s 12 3) w0 w1 hw (by decide))
  generalize ([18,19,20,21]:List Int).getD (pc s 12 3) 0 = o at *
  subst ho
  go_enter Tryz.func50,Tryz.ntmps50
  go_wp2_with fail
  refine (C11_7.out _).mono ?_
  rintro e wx ⟨rfl,rfl⟩
  generalize (w.alloc (.cells (I7 0 0 0 0 0 0 0) 47)).alloc (.cells (I7 0 0 0 0 0 0 4) 47) = w1 at f0 ⊢
  obtain ⟨b0,b1,b2,b3,b4,b5,b6⟩:=f0.box.seven
  have z:=f0.box.free
  go_wp2_with fail
  refine (C14_12.out _).mono ?_
  rintro e wx ⟨rfl,rfl⟩
  go_wp2_with fail
  refine (C19_15.out _).mono ?_
  rintro e wx ⟨rfl,rfl⟩
  go_wp2_with fail
  refine (C24_20.out _).mono ?_
  rintro e wx ⟨rfl,rfl⟩
  go_wp2_with fail
  refine (C31_25.out _).mono ?_
  rintro e wx ⟨rfl,rfl⟩
  go_wp2_with fail
  refine (C31_20.out _).mono ?_
  rintro e wx ⟨rfl,rfl⟩
  go_wp2_with fail
  refine (S_at _ 12 4096 _ (by omega) (by omega) (by omega) (by rfl) (by omega)).mono ?_
  rintro e wx ⟨rfl,rfl⟩
  go_wp2_with fail
  refine (C6_0.out _).mono ?_
  rintro e wx ⟨rfl,rfl⟩
  go_wp2_with fail
  refine (O_o.out w1 _ (by rfl)).mono ?_
  rintro e wx ⟨rfl,rfl⟩
  have f1:FrR w (I7 0 0 0 0 0 0 4) _:=f0.alloc #[.int .i64 18,.int .i64 19,.int .i64 20,.int .i64 21] 3
  generalize w1.alloc (.cells #[.int .i64 18,.int .i64 19,.int .i64 20,.int .i64 21] 3) = w2 at f1 ⊢
  clear b0 b1 b2 b3 b4 b5 b6 z
  obtain ⟨b0,b1,b2,b3,b4,b5,b6⟩:=f1.box.seven
  have z:=f1.box.free
  go_wp2_with fail
  refine (C31_25.out _).mono ?_
  rintro e wx ⟨rfl,rfl⟩
  go_wp2_with fail
  refine (C11_7.out _).mono ?_
  rintro e wx ⟨rfl,rfl⟩
  go_wp2_with fail
  refine (S_at _ 12 4096 _ (by omega) (by omega) (by omega) (by rfl) (by omega)).mono ?_
  rintro e wx ⟨rfl,rfl⟩
  obtain ⟨q0,q1,q2,q3,q4,q5,q6⟩:=f1.res.seven
  have y:=f1.res.free
  go_wp2
  have g:=((((f1.set 0 (.int .i64 0)).set 2 (.int .i64 (pc s 15 5:Nat))).set 3 (.int .i64 (pc s 20 5:Nat))).set 4 (.int .i64 (low ((pc s 25 7:Nat) * 32 + (pc s 7 5:Nat):Int) 12)))
  (try simp only [Exit.inBlock,Exit.then])
  refine bodyPost_ret (results_two rfl _ _ w.heap.size _ _ _ _ _ _ _ rfl (g.res.seven_set _ _ _ _ _ _ _)) rfl ⟨rfl,?_⟩
  exact g.kp.seven_set (Nat.le_refl _) _ _ _ _ _ _ _

set_option maxRecDepth 100000 in
theorem ref_fence (s:Nat) (w:World) (hs:s < 4294967296) (hc:pc s 0 7 = 15) (ho:(([85,86]:List Int).getD (pc s 12 3) 0 == 0) = false) :
    Calls Tryz.prog 50 #[.int .u32 s] w fun e w'=>e = .returned (.tuple #[.agg (I7 (([85,86]:List Int).getD (pc s 12 3) 0) 0 0 0 0 0 4),.bool true])∧Kp none w w':=by
  have f0:=FrR.start w (I7 0 0 0 0 0 0 4)
  have C11_7:=hid (fun w=>F_at s 11 7 5 w hs (by omega) (by omega) rfl)
  have B11_7:pc s 7 5 < 32:=pc_lt s 7 5
  have C14_12:=hid (fun w=>F_at s 14 12 3 w hs (by omega) (by omega) rfl)
  have B14_12:pc s 12 3 < 8:=pc_lt s 12 3
  have C19_15:=hid (fun w=>F_at s 19 15 5 w hs (by omega) (by omega) rfl)
  have B19_15:pc s 15 5 < 32:=pc_lt s 15 5
  have C24_20:=hid (fun w=>F_at s 24 20 5 w hs (by omega) (by omega) rfl)
  have B24_20:pc s 20 5 < 32:=pc_lt s 20 5
  have C31_25:=hid (fun w=>F_at s 31 25 7 w hs (by omega) (by omega) rfl)
  have B31_25:pc s 25 7 < 128:=pc_lt s 25 7
  have C31_20:=hid (fun w=>F_at s 31 20 12 w hs (by omega) (by omega) rfl)
  have B31_20:pc s 20 12 < 4096:=pc_lt s 20 12
  have C6_0:=hid (fun w=>F_at s 6 0 7 w hs (by omega) (by omega) rfl)
  rw [hc] at C6_0
  have B6_0:pc s 0 7 < 128:=pc_lt s 0 7
  have O_o:=hid (fun w0 w1 hw=>one_new [85,86] (pc s 12 3) w0 w1 hw (by decide))
  generalize ([85,86]:List Int).getD (pc s 12 3) 0 = o at *
  go_enter Tryz.func50,Tryz.ntmps50
  go_wp2_with fail
  refine (C11_7.out _).mono ?_
  rintro e wx ⟨rfl,rfl⟩
  generalize (w.alloc (.cells (I7 0 0 0 0 0 0 0) 47)).alloc (.cells (I7 0 0 0 0 0 0 4) 47) = w1 at f0 ⊢
  obtain ⟨b0,b1,b2,b3,b4,b5,b6⟩:=f0.box.seven
  have z:=f0.box.free
  go_wp2_with fail
  refine (C14_12.out _).mono ?_
  rintro e wx ⟨rfl,rfl⟩
  go_wp2_with fail
  refine (C19_15.out _).mono ?_
  rintro e wx ⟨rfl,rfl⟩
  go_wp2_with fail
  refine (C24_20.out _).mono ?_
  rintro e wx ⟨rfl,rfl⟩
  go_wp2_with fail
  refine (C31_25.out _).mono ?_
  rintro e wx ⟨rfl,rfl⟩
  go_wp2_with fail
  refine (C31_20.out _).mono ?_
  rintro e wx ⟨rfl,rfl⟩
  go_wp2_with fail
  refine (S_at _ 12 4096 _ (by omega) (by omega) (by omega) (by rfl) (by omega)).mono ?_
  rintro e wx ⟨rfl,rfl⟩
  go_wp2_with fail
  refine (C6_0.out _).mono ?_
  rintro e wx ⟨rfl,rfl⟩
  go_wp2_with fail
  refine (O_o.out w1 _ (by rfl)).mono ?_
  rintro e wx ⟨rfl,rfl⟩
  have f1:FrR w (I7 0 0 0 0 0 0 4) _:=f0.alloc #[.int .i64 85,.int .i64 86] 3
  generalize w1.alloc (.cells #[.int .i64 85,.int .i64 86] 3) = w2 at f1 ⊢
  clear b0 b1 b2 b3 b4 b5 b6 z
  obtain ⟨b0,b1,b2,b3,b4,b5,b6⟩:=f1.box.seven
  have z:=f1.box.free
  obtain ⟨q0,q1,q2,q3,q4,q5,q6⟩:=f1.res.seven
  have y:=f1.res.free
  go_wp2
  have g:=(f1.set 0 (.int .i64 o))
  (try simp only [Exit.inBlock,Exit.then])
  refine bodyPost_ret (results_two rfl _ _ w.heap.size _ _ _ _ _ _ _ rfl (g.res.seven_set _ _ _ _ _ _ _)) rfl ⟨rfl,?_⟩
  exact g.kp.seven_set (Nat.le_refl _) _ _ _ _ _ _ _

set_option maxRecDepth 100000 in
theorem ref_fence_z (s:Nat) (w:World) (hs:s < 4294967296) (hc:pc s 0 7 = 15) (ho:([85,86]:List Int).getD (pc s 12 3) 0 = 0) :
    Calls Tryz.prog 50 #[.int .u32 s] w fun e w'=>e = .returned (.tuple #[.agg (I7 0 0 0 0 0 0 0),.bool false])∧Kp none w w':=by
  have f0:=FrR.start w (I7 0 0 0 0 0 0 4)
  have C11_7:=hid (fun w=>F_at s 11 7 5 w hs (by omega) (by omega) rfl)
  have B11_7:pc s 7 5 < 32:=pc_lt s 7 5
  have C14_12:=hid (fun w=>F_at s 14 12 3 w hs (by omega) (by omega) rfl)
  have B14_12:pc s 12 3 < 8:=pc_lt s 12 3
  have C19_15:=hid (fun w=>F_at s 19 15 5 w hs (by omega) (by omega) rfl)
  have B19_15:pc s 15 5 < 32:=pc_lt s 15 5
  have C24_20:=hid (fun w=>F_at s 24 20 5 w hs (by omega) (by omega) rfl)
  have B24_20:pc s 20 5 < 32:=pc_lt s 20 5
  have C31_25:=hid (fun w=>F_at s 31 25 7 w hs (by omega) (by omega) rfl)
  have B31_25:pc s 25 7 < 128:=pc_lt s 25 7
  have C31_20:=hid (fun w=>F_at s 31 20 12 w hs (by omega) (by omega) rfl)
  have B31_20:pc s 20 12 < 4096:=pc_lt s 20 12
  have C6_0:=hid (fun w=>F_at s 6 0 7 w hs (by omega) (by omega) rfl)
  rw [hc] at C6_0
  have B6_0:pc s 0 7 < 128:=pc_lt s 0 7
  have O_o:=hid (fun w0 w1 hw=>one_new [85,86] (pc s 12 3) w0 w1 hw (by decide))
  generalize ([85,86]:List Int).getD (pc s 12 3) 0 = o at *
  subst ho
  go_enter Tryz.func50,Tryz.ntmps50
  go_wp2_with fail
  refine (C11_7.out _).mono ?_
  rintro e wx ⟨rfl,rfl⟩
  generalize (w.alloc (.cells (I7 0 0 0 0 0 0 0) 47)).alloc (.cells (I7 0 0 0 0 0 0 4) 47) = w1 at f0 ⊢
  obtain ⟨b0,b1,b2,b3,b4,b5,b6⟩:=f0.box.seven
  have z:=f0.box.free
  go_wp2_with fail
  refine (C14_12.out _).mono ?_
  rintro e wx ⟨rfl,rfl⟩
  go_wp2_with fail
  refine (C19_15.out _).mono ?_
  rintro e wx ⟨rfl,rfl⟩
  go_wp2_with fail
  refine (C24_20.out _).mono ?_
  rintro e wx ⟨rfl,rfl⟩
  go_wp2_with fail
  refine (C31_25.out _).mono ?_
  rintro e wx ⟨rfl,rfl⟩
  go_wp2_with fail
  refine (C31_20.out _).mono ?_
  rintro e wx ⟨rfl,rfl⟩
  go_wp2_with fail
  refine (S_at _ 12 4096 _ (by omega) (by omega) (by omega) (by rfl) (by omega)).mono ?_
  rintro e wx ⟨rfl,rfl⟩
  go_wp2_with fail
  refine (C6_0.out _).mono ?_
  rintro e wx ⟨rfl,rfl⟩
  go_wp2_with fail
  refine (O_o.out w1 _ (by rfl)).mono ?_
  rintro e wx ⟨rfl,rfl⟩
  have f1:FrR w (I7 0 0 0 0 0 0 4) _:=f0.alloc #[.int .i64 85,.int .i64 86] 3
  generalize w1.alloc (.cells #[.int .i64 85,.int .i64 86] 3) = w2 at f1 ⊢
  clear b0 b1 b2 b3 b4 b5 b6 z
  obtain ⟨b0,b1,b2,b3,b4,b5,b6⟩:=f1.box.seven
  have z:=f1.box.free
  obtain ⟨q0,q1,q2,q3,q4,q5,q6⟩:=f1.res.seven
  have y:=f1.res.free
  go_wp2
  have g:=(f1.set 0 (.int .i64 0))
  (try simp only [Exit.inBlock,Exit.then])
  refine bodyPost_ret (results_two rfl _ _ w.heap.size _ _ _ _ _ _ _ rfl (g.res.seven_set _ _ _ _ _ _ _)) rfl ⟨rfl,?_⟩
  exact g.kp.seven_set (Nat.le_refl _) _ _ _ _ _ _ _

set_option maxRecDepth 100000 in
theorem ref_imm19 (s:Nat) (w:World) (hs:s < 4294967296) (hc:pc s 0 7 = 19) (h1:((pc s 12 3:Int) == 1) = false) (h5:((pc s 12 3:Int) == 5) = false) (ho:(([22,0,23,24,25,0,26,27]:List Int).getD (pc s 12 3) 0 == 0) = false) :
    Calls Tryz.prog 50 #[.int .u32 s] w fun e w'=>e = .returned (.tuple #[.agg (I7 (([22,0,23,24,25,0,26,27]:List Int).getD (pc s 12 3) 0) (pc s 7 5:Nat) (pc s 15 5:Nat) 0 (low (pc s 20 12:Nat) 12) 0 4),.bool true])∧Kp none w w':=by
  have f0:=FrR.start w (I7 0 0 0 0 0 0 4)
  have C11_7:=hid (fun w=>F_at s 11 7 5 w hs (by omega) (by omega) rfl)
  have B11_7:pc s 7 5 < 32:=pc_lt s 7 5
  have C14_12:=hid (fun w=>F_at s 14 12 3 w hs (by omega) (by omega) rfl)
  have B14_12:pc s 12 3 < 8:=pc_lt s 12 3
  have C19_15:=hid (fun w=>F_at s 19 15 5 w hs (by omega) (by omega) rfl)
  have B19_15:pc s 15 5 < 32:=pc_lt s 15 5
  have C24_20:=hid (fun w=>F_at s 24 20 5 w hs (by omega) (by omega) rfl)
  have B24_20:pc s 20 5 < 32:=pc_lt s 20 5
  have C31_25:=hid (fun w=>F_at s 31 25 7 w hs (by omega) (by omega) rfl)
  have B31_25:pc s 25 7 < 128:=pc_lt s 25 7
  have C31_20:=hid (fun w=>F_at s 31 20 12 w hs (by omega) (by omega) rfl)
  have B31_20:pc s 20 12 < 4096:=pc_lt s 20 12
  have C6_0:=hid (fun w=>F_at s 6 0 7 w hs (by omega) (by omega) rfl)
  rw [hc] at C6_0
  have B6_0:pc s 0 7 < 128:=pc_lt s 0 7
  have WI:=hid (fun b rd r1 im w hb=>withImm19_plain s (pc s 12 3) b rd r1 im w hs hc h1 h5 hb)
  generalize ([22,0,23,24,25,0,26,27]:List Int).getD (pc s 12 3) 0 = o at *
  go_enter Tryz.func50,Tryz.ntmps50
  go_wp2_with fail
  refine (C11_7.out _).mono ?_
  rintro e wx ⟨rfl,rfl⟩
  generalize (w.alloc (.cells (I7 0 0 0 0 0 0 0) 47)).alloc (.cells (I7 0 0 0 0 0 0 4) 47) = w1 at f0 ⊢
  obtain ⟨b0,b1,b2,b3,b4,b5,b6⟩:=f0.box.seven
  have z:=f0.box.free
  go_wp2_with fail
  refine (C14_12.out _).mono ?_
  rintro e wx ⟨rfl,rfl⟩
  go_wp2_with fail
  refine (C19_15.out _).mono ?_
  rintro e wx ⟨rfl,rfl⟩
  go_wp2_with fail
  refine (C24_20.out _).mono ?_
  rintro e wx ⟨rfl,rfl⟩
  go_wp2_with fail
  refine (C31_25.out _).mono ?_
  rintro e wx ⟨rfl,rfl⟩
  go_wp2_with fail
  refine (C31_20.out _).mono ?_
  rintro e wx ⟨rfl,rfl⟩
  go_wp2_with fail
  refine (S_at _ 12 4096 _ (by omega) (by omega) (by omega) (by rfl) (by omega)).mono ?_
  rintro e wx ⟨rfl,rfl⟩
  go_wp2_with fail
  refine (C6_0.out _).mono ?_
  rintro e wx ⟨rfl,rfl⟩
  go_wp2_with fail
  refine (WI.out _ _ _ _ _ (((f0.set 1 (.int .i64 (pc s 7 5:Nat))).set 2 (.int .i64 (pc s 15 5:Nat))).set 4 (.int .i64 (low (pc s 20 12:Nat) 12))).box).mono ?_
  rintro e w2 ⟨rfl,hb2,k2⟩
  have f1:=(((f0.set 1 (.int .i64 (pc s 7 5:Nat))).set 2 (.int .i64 (pc s 15 5:Nat))).set 4 (.int .i64 (low (pc s 20 12:Nat) 12))).turn k2 hb2
  clear b0 b1 b2 b3 b4 b5 b6 z
  obtain ⟨b0,b1,b2,b3,b4,b5,b6⟩:=f1.box.seven
  have z:=f1.box.free
  obtain ⟨q0,q1,q2,q3,q4,q5,q6⟩:=f1.res.seven
  have y:=f1.res.free
  go_wp2
  have g:=f1
  (try simp only [Exit.inBlock,Exit.then])
  refine bodyPost_ret (results_two rfl _ _ w.heap.size _ _ _ _ _ _ _ rfl (g.res.seven_set _ _ _ _ _ _ _)) rfl ⟨rfl,?_⟩
  exact g.kp.seven_set (Nat.le_refl _) _ _ _ _ _ _ _

set_option maxRecDepth 100000 in
theorem ref_imm27_3 (s:Nat) (w:World) (hs:s < 4294967296) (hc:pc s 0 7 = 27) (hf:pc s 12 3 = 1) (hu0:((pc s 25 7:Int) == 0) = false) :
    Calls Tryz.prog 50 #[.int .u32 s] w fun e w'=>e = .returned (.tuple #[.agg (I7 0 0 0 0 0 0 0),.bool false])∧Kp none w w':=by
  have f0:=FrR.start w (I7 0 0 0 0 0 0 4)
  have C11_7:=hid (fun w=>F_at s 11 7 5 w hs (by omega) (by omega) rfl)
  have B11_7:pc s 7 5 < 32:=pc_lt s 7 5
  have C14_12:=hid (fun w=>F_at s 14 12 3 w hs (by omega) (by omega) rfl)
  have B14_12:pc s 12 3 < 8:=pc_lt s 12 3
  have C19_15:=hid (fun w=>F_at s 19 15 5 w hs (by omega) (by omega) rfl)
  have B19_15:pc s 15 5 < 32:=pc_lt s 15 5
  have C24_20:=hid (fun w=>F_at s 24 20 5 w hs (by omega) (by omega) rfl)
  have B24_20:pc s 20 5 < 32:=pc_lt s 20 5
  have C31_25:=hid (fun w=>F_at s 31 25 7 w hs (by omega) (by omega) rfl)
  have B31_25:pc s 25 7 < 128:=pc_lt s 25 7
  have C31_20:=hid (fun w=>F_at s 31 20 12 w hs (by omega) (by omega) rfl)
  have B31_20:pc s 20 12 < 4096:=pc_lt s 20 12
  have C6_0:=hid (fun w=>F_at s 6 0 7 w hs (by omega) (by omega) rfl)
  rw [hc] at C6_0
  have B6_0:pc s 0 7 < 128:=pc_lt s 0 7
  rw [hf] at C14_12
  have WI:=hid (fun b rd r1 im w hb=>withImm27_3 s b rd r1 im w hs hc hu0 hb)
  clear hf
  go_enter Tryz.func50,Tryz.ntmps50
  go_wp2_with fail
  refine (C11_7.out _).mono ?_
  rintro e wx ⟨rfl,rfl⟩
  generalize (w.alloc (.cells (I7 0 0 0 0 0 0 0) 47)).alloc (.cells (I7 0 0 0 0 0 0 4) 47) = w1 at f0 ⊢
  obtain ⟨b0,b1,b2,b3,b4,b5,b6⟩:=f0.box.seven
  have z:=f0.box.free
  go_wp2_with fail
  refine (C14_12.out _).mono ?_
  rintro e wx ⟨rfl,rfl⟩
  go_wp2_with fail
  refine (C19_15.out _).mono ?_
  rintro e wx ⟨rfl,rfl⟩
  go_wp2_with fail
  refine (C24_20.out _).mono ?_
  rintro e wx ⟨rfl,rfl⟩
  go_wp2_with fail
  refine (C31_25.out _).mono ?_
  rintro e wx ⟨rfl,rfl⟩
  go_wp2_with fail
  refine (C31_20.out _).mono ?_
  rintro e wx ⟨rfl,rfl⟩
  go_wp2_with fail
  refine (S_at _ 12 4096 _ (by omega) (by omega) (by omega) (by rfl) (by omega)).mono ?_
  rintro e wx ⟨rfl,rfl⟩
  go_wp2_with fail
  refine (C6_0.out _).mono ?_
  rintro e wx ⟨rfl,rfl⟩
  go_wp2_with fail
  refine (WI.out _ _ _ _ _ (((f0.set 1 (.int .i64 (pc s 7 5:Nat))).set 2 (.int .i64 (pc s 15 5:Nat))).set 4 (.int .i64 (low (pc s 20 12:Nat) 12))).box).mono ?_
  rintro e w2 ⟨rfl,hb2,k2⟩
  have f1:=(((f0.set 1 (.int .i64 (pc s 7 5:Nat))).set 2 (.int .i64 (pc s 15 5:Nat))).set 4 (.int .i64 (low (pc s 20 12:Nat) 12))).turn k2 hb2
  clear b0 b1 b2 b3 b4 b5 b6 z
  obtain ⟨b0,b1,b2,b3,b4,b5,b6⟩:=f1.box.seven
  have z:=f1.box.free
  obtain ⟨q0,q1,q2,q3,q4,q5,q6⟩:=f1.res.seven
  have y:=f1.res.free
  go_wp2
  have g:=f1
  (try simp only [Exit.inBlock,Exit.then])
  refine bodyPost_ret (results_two rfl _ _ w.heap.size _ _ _ _ _ _ _ rfl (g.res.seven_set _ _ _ _ _ _ _)) rfl ⟨rfl,?_⟩
  exact g.kp.seven_set (Nat.le_refl _) _ _ _ _ _ _ _

set_option maxRecDepth 100000 in
theorem ref_imm27_4 (s:Nat) (w:World) (hs:s < 4294967296) (hc:pc s 0 7 = 27) (hf:pc s 12 3 = 5) (hu0:((pc s 25 7:Int) == 0) = false) (hu32:((pc s 25 7:Int) == 32) = false) :
    Calls Tryz.prog 50 #[.int .u32 s] w fun e w'=>e = .returned (.tuple #[.agg (I7 0 0 0 0 0 0 0),.bool false])∧Kp none w w':=by
  have f0:=FrR.start w (I7 0 0 0 0 0 0 4)
  have C11_7:=hid (fun w=>F_at s 11 7 5 w hs (by omega) (by omega) rfl)
  have B11_7:pc s 7 5 < 32:=pc_lt s 7 5
  have C14_12:=hid (fun w=>F_at s 14 12 3 w hs (by omega) (by omega) rfl)
  have B14_12:pc s 12 3 < 8:=pc_lt s 12 3
  have C19_15:=hid (fun w=>F_at s 19 15 5 w hs (by omega) (by omega) rfl)
  have B19_15:pc s 15 5 < 32:=pc_lt s 15 5
  have C24_20:=hid (fun w=>F_at s 24 20 5 w hs (by omega) (by omega) rfl)
  have B24_20:pc s 20 5 < 32:=pc_lt s 20 5
  have C31_25:=hid (fun w=>F_at s 31 25 7 w hs (by omega) (by omega) rfl)
  have B31_25:pc s 25 7 < 128:=pc_lt s 25 7
  have C31_20:=hid (fun w=>F_at s 31 20 12 w hs (by omega) (by omega) rfl)
  have B31_20:pc s 20 12 < 4096:=pc_lt s 20 12
  have C6_0:=hid (fun w=>F_at s 6 0 7 w hs (by omega) (by omega) rfl)
  rw [hc] at C6_0
  have B6_0:pc s 0 7 < 128:=pc_lt s 0 7
  rw [hf] at C14_12
  have WI:=hid (fun b rd r1 im w hb=>withImm27_4 s b rd r1 im w hs hc hu0 hu32 hb)
  clear hf
  go_enter Tryz.func50,Tryz.ntmps50
  go_wp2_with fail
  refine (C11_7.out _).mono ?_
  rintro e wx ⟨rfl,rfl⟩
  generalize (w.alloc (.cells (I7 0 0 0 0 0 0 0) 47)).alloc (.cells (I7 0 0 0 0 0 0 4) 47) = w1 at f0 ⊢
  obtain ⟨b0,b1,b2,b3,b4,b5,b6⟩:=f0.box.seven
  have z:=f0.box.free
  go_wp2_with fail
  refine (C14_12.out _).mono ?_
  rintro e wx ⟨rfl,rfl⟩
  go_wp2_with fail
  refine (C19_15.out _).mono ?_
  rintro e wx ⟨rfl,rfl⟩
  go_wp2_with fail
  refine (C24_20.out _).mono ?_
  rintro e wx ⟨rfl,rfl⟩
  go_wp2_with fail
  refine (C31_25.out _).mono ?_
  rintro e wx ⟨rfl,rfl⟩
  go_wp2_with fail
  refine (C31_20.out _).mono ?_
  rintro e wx ⟨rfl,rfl⟩
  go_wp2_with fail
  refine (S_at _ 12 4096 _ (by omega) (by omega) (by omega) (by rfl) (by omega)).mono ?_
  rintro e wx ⟨rfl,rfl⟩
  go_wp2_with fail
  refine (C6_0.out _).mono ?_
  rintro e wx ⟨rfl,rfl⟩
  go_wp2_with fail
  refine (WI.out _ _ _ _ _ (((f0.set 1 (.int .i64 (pc s 7 5:Nat))).set 2 (.int .i64 (pc s 15 5:Nat))).set 4 (.int .i64 (low (pc s 20 12:Nat) 12))).box).mono ?_
  rintro e w2 ⟨rfl,hb2,k2⟩
  have f1:=(((f0.set 1 (.int .i64 (pc s 7 5:Nat))).set 2 (.int .i64 (pc s 15 5:Nat))).set 4 (.int .i64 (low (pc s 20 12:Nat) 12))).turn k2 hb2
  clear b0 b1 b2 b3 b4 b5 b6 z
  obtain ⟨b0,b1,b2,b3,b4,b5,b6⟩:=f1.box.seven
  have z:=f1.box.free
  obtain ⟨q0,q1,q2,q3,q4,q5,q6⟩:=f1.res.seven
  have y:=f1.res.free
  go_wp2
  have g:=f1
  (try simp only [Exit.inBlock,Exit.then])
  refine bodyPost_ret (results_two rfl _ _ w.heap.size _ _ _ _ _ _ _ rfl (g.res.seven_set _ _ _ _ _ _ _)) rfl ⟨rfl,?_⟩
  exact g.kp.seven_set (Nat.le_refl _) _ _ _ _ _ _ _

set_option maxRecDepth 100000 in
theorem ref_plain_c (s:Nat) (w:World) (hs:s < 4294967296) (hc:pc s 0 7 = 51) (g0:((pc s 25 7:Int) == 0) = false) (g1:((pc s 25 7:Int) == 32) = false) (g2:((pc s 25 7:Int) == 1) = false) :
    Calls Tryz.prog 50 #[.int .u32 s] w fun e w'=>e = .returned (.tuple #[.agg (I7 0 0 0 0 0 0 0),.bool false])∧Kp none w w':=by
  have f0:=FrR.start w (I7 0 0 0 0 0 0 4)
  have C11_7:=hid (fun w=>F_at s 11 7 5 w hs (by omega) (by omega) rfl)
  have B11_7:pc s 7 5 < 32:=pc_lt s 7 5
  have C14_12:=hid (fun w=>F_at s 14 12 3 w hs (by omega) (by omega) rfl)
  have B14_12:pc s 12 3 < 8:=pc_lt s 12 3
  have C19_15:=hid (fun w=>F_at s 19 15 5 w hs (by omega) (by omega) rfl)
  have B19_15:pc s 15 5 < 32:=pc_lt s 15 5
  have C24_20:=hid (fun w=>F_at s 24 20 5 w hs (by omega) (by omega) rfl)
  have B24_20:pc s 20 5 < 32:=pc_lt s 20 5
  have C31_25:=hid (fun w=>F_at s 31 25 7 w hs (by omega) (by omega) rfl)
  have B31_25:pc s 25 7 < 128:=pc_lt s 25 7
  have C31_20:=hid (fun w=>F_at s 31 20 12 w hs (by omega) (by omega) rfl)
  have B31_20:pc s 20 12 < 4096:=pc_lt s 20 12
  have C6_0:=hid (fun w=>F_at s 6 0 7 w hs (by omega) (by omega) rfl)
  rw [hc] at C6_0
  have B6_0:pc s 0 7 < 128:=pc_lt s 0 7
  go_enter Tryz.func50,Tryz.ntmps50
  go_wp2_with fail
  refine (C11_7.out _).mono ?_
  rintro e wx ⟨rfl,rfl⟩
  generalize (w.alloc (.cells (I7 0 0 0 0 0 0 0) 47)).alloc (.cells (I7 0 0 0 0 0 0 4) 47) = w1 at f0 ⊢
  obtain ⟨b0,b1,b2,b3,b4,b5,b6⟩:=f0.box.seven
  have z:=f0.box.free
  go_wp2_with fail
  refine (C14_12.out _).mono ?_
  rintro e wx ⟨rfl,rfl⟩
  go_wp2_with fail
  refine (C19_15.out _).mono ?_
  rintro e wx ⟨rfl,rfl⟩
  go_wp2_with fail
  refine (C24_20.out _).mono ?_
  rintro e wx ⟨rfl,rfl⟩
  go_wp2_with fail
  refine (C31_25.out _).mono ?_
  rintro e wx ⟨rfl,rfl⟩
  go_wp2_with fail
  refine (C31_20.out _).mono ?_
  rintro e wx ⟨rfl,rfl⟩
  go_wp2_with fail
  refine (S_at _ 12 4096 _ (by omega) (by omega) (by omega) (by rfl) (by omega)).mono ?_
  rintro e wx ⟨rfl,rfl⟩
  go_wp2_with fail
  refine (C6_0.out _).mono ?_
  rintro e wx ⟨rfl,rfl⟩
  obtain ⟨q0,q1,q2,q3,q4,q5,q6⟩:=f0.res.seven
  have y:=f0.res.free
  go_wp2
  have g:=(((f0.set 1 (.int .i64 (pc s 7 5:Nat))).set 2 (.int .i64 (pc s 15 5:Nat))).set 3 (.int .i64 (pc s 20 5:Nat)))
  (try simp only [Exit.inBlock,Exit.then])
  refine bodyPost_ret (results_two rfl _ _ w.heap.size _ _ _ _ _ _ _ rfl (g.res.seven_set _ _ _ _ _ _ _)) rfl ⟨rfl,?_⟩
  exact g.kp.seven_set (Nat.le_refl _) _ _ _ _ _ _ _

set_option maxRecDepth 100000 in
theorem ref_narrow_c (s:Nat) (w:World) (hs:s < 4294967296) (hc:pc s 0 7 = 59) (g0:((pc s 25 7:Int) == 0) = false) (g1:((pc s 25 7:Int) == 32) = false) (g2:((pc s 25 7:Int) == 1) = false) :
    Calls Tryz.prog 50 #[.int .u32 s] w fun e w'=>e = .returned (.tuple #[.agg (I7 0 0 0 0 0 0 0),.bool false])∧Kp none w w':=by
  have f0:=FrR.start w (I7 0 0 0 0 0 0 4)
  have C11_7:=hid (fun w=>F_at s 11 7 5 w hs (by omega) (by omega) rfl)
  have B11_7:pc s 7 5 < 32:=pc_lt s 7 5
  have C14_12:=hid (fun w=>F_at s 14 12 3 w hs (by omega) (by omega) rfl)
  have B14_12:pc s 12 3 < 8:=pc_lt s 12 3
  have C19_15:=hid (fun w=>F_at s 19 15 5 w hs (by omega) (by omega) rfl)
  have B19_15:pc s 15 5 < 32:=pc_lt s 15 5
  have C24_20:=hid (fun w=>F_at s 24 20 5 w hs (by omega) (by omega) rfl)
  have B24_20:pc s 20 5 < 32:=pc_lt s 20 5
  have C31_25:=hid (fun w=>F_at s 31 25 7 w hs (by omega) (by omega) rfl)
  have B31_25:pc s 25 7 < 128:=pc_lt s 25 7
  have C31_20:=hid (fun w=>F_at s 31 20 12 w hs (by omega) (by omega) rfl)
  have B31_20:pc s 20 12 < 4096:=pc_lt s 20 12
  have C6_0:=hid (fun w=>F_at s 6 0 7 w hs (by omega) (by omega) rfl)
  rw [hc] at C6_0
  have B6_0:pc s 0 7 < 128:=pc_lt s 0 7
  go_enter Tryz.func50,Tryz.ntmps50
  go_wp2_with fail
  refine (C11_7.out _).mono ?_
  rintro e wx ⟨rfl,rfl⟩
  generalize (w.alloc (.cells (I7 0 0 0 0 0 0 0) 47)).alloc (.cells (I7 0 0 0 0 0 0 4) 47) = w1 at f0 ⊢
  obtain ⟨b0,b1,b2,b3,b4,b5,b6⟩:=f0.box.seven
  have z:=f0.box.free
  go_wp2_with fail
  refine (C14_12.out _).mono ?_
  rintro e wx ⟨rfl,rfl⟩
  go_wp2_with fail
  refine (C19_15.out _).mono ?_
  rintro e wx ⟨rfl,rfl⟩
  go_wp2_with fail
  refine (C24_20.out _).mono ?_
  rintro e wx ⟨rfl,rfl⟩
  go_wp2_with fail
  refine (C31_25.out _).mono ?_
  rintro e wx ⟨rfl,rfl⟩
  go_wp2_with fail
  refine (C31_20.out _).mono ?_
  rintro e wx ⟨rfl,rfl⟩
  go_wp2_with fail
  refine (S_at _ 12 4096 _ (by omega) (by omega) (by omega) (by rfl) (by omega)).mono ?_
  rintro e wx ⟨rfl,rfl⟩
  go_wp2_with fail
  refine (C6_0.out _).mono ?_
  rintro e wx ⟨rfl,rfl⟩
  obtain ⟨q0,q1,q2,q3,q4,q5,q6⟩:=f0.res.seven
  have y:=f0.res.free
  go_wp2
  have g:=(((f0.set 1 (.int .i64 (pc s 7 5:Nat))).set 2 (.int .i64 (pc s 15 5:Nat))).set 3 (.int .i64 (pc s 20 5:Nat)))
  (try simp only [Exit.inBlock,Exit.then])
  refine bodyPost_ret (results_two rfl _ _ w.heap.size _ _ _ _ _ _ _ rfl (g.res.seven_set _ _ _ _ _ _ _)) rfl ⟨rfl,?_⟩
  exact g.kp.seven_set (Nat.le_refl _) _ _ _ _ _ _ _

set_option maxRecDepth 100000 in
theorem ref_atomic (s:Nat) (w:World) (hs:s < 4294967296) (hc:pc s 0 7 = 47) (ho:((opU (pc s 27 5) (pc s 12 3) (decide (((pc s 20 5:Nat):Int) ≠ 0)) 11) == 0) = false) :
    Calls Tryz.prog 50 #[.int .u32 s] w fun e w'=>e = .returned (.tuple #[.agg (I7 (opU (pc s 27 5) (pc s 12 3) (decide (((pc s 20 5:Nat):Int) ≠ 0)) 11) (pc s 7 5:Nat) (pc s 15 5:Nat) (pc s 20 5:Nat) 0 (pc s 25 2:Nat) 4),.bool true])∧Kp none w w':=by
  have f0:=FrR.start w (I7 0 0 0 0 0 0 4)
  have C11_7:=hid (fun w=>F_at s 11 7 5 w hs (by omega) (by omega) rfl)
  have B11_7:pc s 7 5 < 32:=pc_lt s 7 5
  have C14_12:=hid (fun w=>F_at s 14 12 3 w hs (by omega) (by omega) rfl)
  have B14_12:pc s 12 3 < 8:=pc_lt s 12 3
  have C19_15:=hid (fun w=>F_at s 19 15 5 w hs (by omega) (by omega) rfl)
  have B19_15:pc s 15 5 < 32:=pc_lt s 15 5
  have C24_20:=hid (fun w=>F_at s 24 20 5 w hs (by omega) (by omega) rfl)
  have B24_20:pc s 20 5 < 32:=pc_lt s 20 5
  have C31_25:=hid (fun w=>F_at s 31 25 7 w hs (by omega) (by omega) rfl)
  have B31_25:pc s 25 7 < 128:=pc_lt s 25 7
  have C31_20:=hid (fun w=>F_at s 31 20 12 w hs (by omega) (by omega) rfl)
  have B31_20:pc s 20 12 < 4096:=pc_lt s 20 12
  have C6_0:=hid (fun w=>F_at s 6 0 7 w hs (by omega) (by omega) rfl)
  rw [hc] at C6_0
  have B6_0:pc s 0 7 < 128:=pc_lt s 0 7
  have WI:=hid (fun b rd r1 od w hb=>refAtomic_any (pc s 27 5) (pc s 12 3) b rd r1 (pc s 20 5:Nat) od w (pc_lt s 12 3) hb)
  generalize (opU (pc s 27 5) (pc s 12 3) (decide (((pc s 20 5:Nat):Int) ≠ 0)) 11) = o at *
  have C26_25:=hid (fun w=>F_at s 26 25 2 w hs (by omega) (by omega) rfl)
  have B26_25:pc s 25 2 < 4:=pc_lt s 25 2
  have C31_27:=hid (fun w=>F_at s 31 27 5 w hs (by omega) (by omega) rfl)
  have B31_27:pc s 27 5 < 32:=pc_lt s 27 5
  go_enter Tryz.func50,Tryz.ntmps50
  go_wp2_with fail
  refine (C11_7.out _).mono ?_
  rintro e wx ⟨rfl,rfl⟩
  generalize (w.alloc (.cells (I7 0 0 0 0 0 0 0) 47)).alloc (.cells (I7 0 0 0 0 0 0 4) 47) = w1 at f0 ⊢
  obtain ⟨b0,b1,b2,b3,b4,b5,b6⟩:=f0.box.seven
  have z:=f0.box.free
  go_wp2_with fail
  refine (C14_12.out _).mono ?_
  rintro e wx ⟨rfl,rfl⟩
  go_wp2_with fail
  refine (C19_15.out _).mono ?_
  rintro e wx ⟨rfl,rfl⟩
  go_wp2_with fail
  refine (C24_20.out _).mono ?_
  rintro e wx ⟨rfl,rfl⟩
  go_wp2_with fail
  refine (C31_25.out _).mono ?_
  rintro e wx ⟨rfl,rfl⟩
  go_wp2_with fail
  refine (C31_20.out _).mono ?_
  rintro e wx ⟨rfl,rfl⟩
  go_wp2_with fail
  refine (S_at _ 12 4096 _ (by omega) (by omega) (by omega) (by rfl) (by omega)).mono ?_
  rintro e wx ⟨rfl,rfl⟩
  go_wp2_with fail
  refine (C6_0.out _).mono ?_
  rintro e wx ⟨rfl,rfl⟩
  go_wp2_with fail
  refine (C26_25.out _).mono ?_
  rintro e wx ⟨rfl,rfl⟩
  go_wp2_with fail
  refine (C31_27.out _).mono ?_
  rintro e wx ⟨rfl,rfl⟩
  go_wp2_with fail
  refine (WI.out _ _ _ _ _ ((((f0.set 1 (.int .i64 (pc s 7 5:Nat))).set 2 (.int .i64 (pc s 15 5:Nat))).set 3 (.int .i64 (pc s 20 5:Nat))).set 5 (.int .i64 (pc s 25 2:Nat))).box).mono ?_
  rintro e w2 ⟨rfl,hb2,k2⟩
  have f1:=((((f0.set 1 (.int .i64 (pc s 7 5:Nat))).set 2 (.int .i64 (pc s 15 5:Nat))).set 3 (.int .i64 (pc s 20 5:Nat))).set 5 (.int .i64 (pc s 25 2:Nat))).turn k2 hb2
  clear b0 b1 b2 b3 b4 b5 b6 z
  obtain ⟨b0,b1,b2,b3,b4,b5,b6⟩:=f1.box.seven
  have z:=f1.box.free
  obtain ⟨q0,q1,q2,q3,q4,q5,q6⟩:=f1.res.seven
  have y:=f1.res.free
  go_wp2
  have g:=f1
  (try simp only [Exit.inBlock,Exit.then])
  refine bodyPost_ret (results_two rfl _ _ w.heap.size _ _ _ _ _ _ _ rfl (g.res.seven_set _ _ _ _ _ _ _)) rfl ⟨rfl,?_⟩
  exact g.kp.seven_set (Nat.le_refl _) _ _ _ _ _ _ _

set_option maxRecDepth 100000 in
theorem ref_atomic_z (s:Nat) (w:World) (hs:s < 4294967296) (hc:pc s 0 7 = 47) (ho:(opU (pc s 27 5) (pc s 12 3) (decide (((pc s 20 5:Nat):Int) ≠ 0)) 11) = 0) :
    Calls Tryz.prog 50 #[.int .u32 s] w fun e w'=>e = .returned (.tuple #[.agg (I7 0 0 0 0 0 0 0),.bool false])∧Kp none w w':=by
  have f0:=FrR.start w (I7 0 0 0 0 0 0 4)
  have C11_7:=hid (fun w=>F_at s 11 7 5 w hs (by omega) (by omega) rfl)
  have B11_7:pc s 7 5 < 32:=pc_lt s 7 5
  have C14_12:=hid (fun w=>F_at s 14 12 3 w hs (by omega) (by omega) rfl)
  have B14_12:pc s 12 3 < 8:=pc_lt s 12 3
  have C19_15:=hid (fun w=>F_at s 19 15 5 w hs (by omega) (by omega) rfl)
  have B19_15:pc s 15 5 < 32:=pc_lt s 15 5
  have C24_20:=hid (fun w=>F_at s 24 20 5 w hs (by omega) (by omega) rfl)
  have B24_20:pc s 20 5 < 32:=pc_lt s 20 5
  have C31_25:=hid (fun w=>F_at s 31 25 7 w hs (by omega) (by omega) rfl)
  have B31_25:pc s 25 7 < 128:=pc_lt s 25 7
  have C31_20:=hid (fun w=>F_at s 31 20 12 w hs (by omega) (by omega) rfl)
  have B31_20:pc s 20 12 < 4096:=pc_lt s 20 12
  have C6_0:=hid (fun w=>F_at s 6 0 7 w hs (by omega) (by omega) rfl)
  rw [hc] at C6_0
  have B6_0:pc s 0 7 < 128:=pc_lt s 0 7
  have WI:=hid (fun b rd r1 od w hb=>refAtomic_any (pc s 27 5) (pc s 12 3) b rd r1 (pc s 20 5:Nat) od w (pc_lt s 12 3) hb)
  generalize (opU (pc s 27 5) (pc s 12 3) (decide (((pc s 20 5:Nat):Int) ≠ 0)) 11) = o at *
  subst ho
  have C26_25:=hid (fun w=>F_at s 26 25 2 w hs (by omega) (by omega) rfl)
  have B26_25:pc s 25 2 < 4:=pc_lt s 25 2
  have C31_27:=hid (fun w=>F_at s 31 27 5 w hs (by omega) (by omega) rfl)
  have B31_27:pc s 27 5 < 32:=pc_lt s 27 5
  go_enter Tryz.func50,Tryz.ntmps50
  go_wp2_with fail
  refine (C11_7.out _).mono ?_
  rintro e wx ⟨rfl,rfl⟩
  generalize (w.alloc (.cells (I7 0 0 0 0 0 0 0) 47)).alloc (.cells (I7 0 0 0 0 0 0 4) 47) = w1 at f0 ⊢
  obtain ⟨b0,b1,b2,b3,b4,b5,b6⟩:=f0.box.seven
  have z:=f0.box.free
  go_wp2_with fail
  refine (C14_12.out _).mono ?_
  rintro e wx ⟨rfl,rfl⟩
  go_wp2_with fail
  refine (C19_15.out _).mono ?_
  rintro e wx ⟨rfl,rfl⟩
  go_wp2_with fail
  refine (C24_20.out _).mono ?_
  rintro e wx ⟨rfl,rfl⟩
  go_wp2_with fail
  refine (C31_25.out _).mono ?_
  rintro e wx ⟨rfl,rfl⟩
  go_wp2_with fail
  refine (C31_20.out _).mono ?_
  rintro e wx ⟨rfl,rfl⟩
  go_wp2_with fail
  refine (S_at _ 12 4096 _ (by omega) (by omega) (by omega) (by rfl) (by omega)).mono ?_
  rintro e wx ⟨rfl,rfl⟩
  go_wp2_with fail
  refine (C6_0.out _).mono ?_
  rintro e wx ⟨rfl,rfl⟩
  go_wp2_with fail
  refine (C26_25.out _).mono ?_
  rintro e wx ⟨rfl,rfl⟩
  go_wp2_with fail
  refine (C31_27.out _).mono ?_
  rintro e wx ⟨rfl,rfl⟩
  go_wp2_with fail
  refine (WI.out _ _ _ _ _ ((((f0.set 1 (.int .i64 (pc s 7 5:Nat))).set 2 (.int .i64 (pc s 15 5:Nat))).set 3 (.int .i64 (pc s 20 5:Nat))).set 5 (.int .i64 (pc s 25 2:Nat))).box).mono ?_
  rintro e w2 ⟨rfl,hb2,k2⟩
  have f1:=((((f0.set 1 (.int .i64 (pc s 7 5:Nat))).set 2 (.int .i64 (pc s 15 5:Nat))).set 3 (.int .i64 (pc s 20 5:Nat))).set 5 (.int .i64 (pc s 25 2:Nat))).turn k2 hb2
  clear b0 b1 b2 b3 b4 b5 b6 z
  obtain ⟨b0,b1,b2,b3,b4,b5,b6⟩:=f1.box.seven
  have z:=f1.box.free
  obtain ⟨q0,q1,q2,q3,q4,q5,q6⟩:=f1.res.seven
  have y:=f1.res.free
  go_wp2
  have g:=f1
  (try simp only [Exit.inBlock,Exit.then])
  refine bodyPost_ret (results_two rfl _ _ w.heap.size _ _ _ _ _ _ _ rfl (g.res.seven_set _ _ _ _ _ _ _)) rfl ⟨rfl,?_⟩
  exact g.kp.seven_set (Nat.le_refl _) _ _ _ _ _ _ _

set_option maxRecDepth 100000 in
theorem ref_ecall (s:Nat) (w:World) (hs:s < 4294967296) (hc:pc s 0 7 = 115) (e1:((s:Int) == 115) = true) (e2:((s:Int) == 1048691) = false) :
    Calls Tryz.prog 50 #[.int .u32 s] w fun e w'=>e = .returned (.tuple #[.agg (I7 87 0 0 0 0 0 4),.bool true])∧Kp none w w':=by
  have f0:=FrR.start w (I7 0 0 0 0 0 0 4)
  have C11_7:=hid (fun w=>F_at s 11 7 5 w hs (by omega) (by omega) rfl)
  have B11_7:pc s 7 5 < 32:=pc_lt s 7 5
  have C14_12:=hid (fun w=>F_at s 14 12 3 w hs (by omega) (by omega) rfl)
  have B14_12:pc s 12 3 < 8:=pc_lt s 12 3
  have C19_15:=hid (fun w=>F_at s 19 15 5 w hs (by omega) (by omega) rfl)
  have B19_15:pc s 15 5 < 32:=pc_lt s 15 5
  have C24_20:=hid (fun w=>F_at s 24 20 5 w hs (by omega) (by omega) rfl)
  have B24_20:pc s 20 5 < 32:=pc_lt s 20 5
  have C31_25:=hid (fun w=>F_at s 31 25 7 w hs (by omega) (by omega) rfl)
  have B31_25:pc s 25 7 < 128:=pc_lt s 25 7
  have C31_20:=hid (fun w=>F_at s 31 20 12 w hs (by omega) (by omega) rfl)
  have B31_20:pc s 20 12 < 4096:=pc_lt s 20 12
  have C6_0:=hid (fun w=>F_at s 6 0 7 w hs (by omega) (by omega) rfl)
  rw [hc] at C6_0
  have B6_0:pc s 0 7 < 128:=pc_lt s 0 7
  go_enter Tryz.func50,Tryz.ntmps50
  go_wp2_with fail
  refine (C11_7.out _).mono ?_
  rintro e wx ⟨rfl,rfl⟩
  generalize (w.alloc (.cells (I7 0 0 0 0 0 0 0) 47)).alloc (.cells (I7 0 0 0 0 0 0 4) 47) = w1 at f0 ⊢
  obtain ⟨b0,b1,b2,b3,b4,b5,b6⟩:=f0.box.seven
  have z:=f0.box.free
  go_wp2_with fail
  refine (C14_12.out _).mono ?_
  rintro e wx ⟨rfl,rfl⟩
  go_wp2_with fail
  refine (C19_15.out _).mono ?_
  rintro e wx ⟨rfl,rfl⟩
  go_wp2_with fail
  refine (C24_20.out _).mono ?_
  rintro e wx ⟨rfl,rfl⟩
  go_wp2_with fail
  refine (C31_25.out _).mono ?_
  rintro e wx ⟨rfl,rfl⟩
  go_wp2_with fail
  refine (C31_20.out _).mono ?_
  rintro e wx ⟨rfl,rfl⟩
  go_wp2_with fail
  refine (S_at _ 12 4096 _ (by omega) (by omega) (by omega) (by rfl) (by omega)).mono ?_
  rintro e wx ⟨rfl,rfl⟩
  go_wp2_with fail
  refine (C6_0.out _).mono ?_
  rintro e wx ⟨rfl,rfl⟩
  obtain ⟨q0,q1,q2,q3,q4,q5,q6⟩:=f0.res.seven
  have y:=f0.res.free
  go_wp2
  have g:=(f0.set 0 (.int .i64 87))
  (try simp only [Exit.inBlock,Exit.then])
  refine bodyPost_ret (results_two rfl _ _ w.heap.size _ _ _ _ _ _ _ rfl (g.res.seven_set _ _ _ _ _ _ _)) rfl ⟨rfl,?_⟩
  exact g.kp.seven_set (Nat.le_refl _) _ _ _ _ _ _ _

set_option maxRecDepth 100000 in
theorem ref_ebreak (s:Nat) (w:World) (hs:s < 4294967296) (hc:pc s 0 7 = 115) (e1:((s:Int) == 115) = false) (e2:((s:Int) == 1048691) = true) :
    Calls Tryz.prog 50 #[.int .u32 s] w fun e w'=>e = .returned (.tuple #[.agg (I7 88 0 0 0 0 0 4),.bool true])∧Kp none w w':=by
  have f0:=FrR.start w (I7 0 0 0 0 0 0 4)
  have C11_7:=hid (fun w=>F_at s 11 7 5 w hs (by omega) (by omega) rfl)
  have B11_7:pc s 7 5 < 32:=pc_lt s 7 5
  have C14_12:=hid (fun w=>F_at s 14 12 3 w hs (by omega) (by omega) rfl)
  have B14_12:pc s 12 3 < 8:=pc_lt s 12 3
  have C19_15:=hid (fun w=>F_at s 19 15 5 w hs (by omega) (by omega) rfl)
  have B19_15:pc s 15 5 < 32:=pc_lt s 15 5
  have C24_20:=hid (fun w=>F_at s 24 20 5 w hs (by omega) (by omega) rfl)
  have B24_20:pc s 20 5 < 32:=pc_lt s 20 5
  have C31_25:=hid (fun w=>F_at s 31 25 7 w hs (by omega) (by omega) rfl)
  have B31_25:pc s 25 7 < 128:=pc_lt s 25 7
  have C31_20:=hid (fun w=>F_at s 31 20 12 w hs (by omega) (by omega) rfl)
  have B31_20:pc s 20 12 < 4096:=pc_lt s 20 12
  have C6_0:=hid (fun w=>F_at s 6 0 7 w hs (by omega) (by omega) rfl)
  rw [hc] at C6_0
  have B6_0:pc s 0 7 < 128:=pc_lt s 0 7
  go_enter Tryz.func50,Tryz.ntmps50
  go_wp2_with fail
  refine (C11_7.out _).mono ?_
  rintro e wx ⟨rfl,rfl⟩
  generalize (w.alloc (.cells (I7 0 0 0 0 0 0 0) 47)).alloc (.cells (I7 0 0 0 0 0 0 4) 47) = w1 at f0 ⊢
  obtain ⟨b0,b1,b2,b3,b4,b5,b6⟩:=f0.box.seven
  have z:=f0.box.free
  go_wp2_with fail
  refine (C14_12.out _).mono ?_
  rintro e wx ⟨rfl,rfl⟩
  go_wp2_with fail
  refine (C19_15.out _).mono ?_
  rintro e wx ⟨rfl,rfl⟩
  go_wp2_with fail
  refine (C24_20.out _).mono ?_
  rintro e wx ⟨rfl,rfl⟩
  go_wp2_with fail
  refine (C31_25.out _).mono ?_
  rintro e wx ⟨rfl,rfl⟩
  go_wp2_with fail
  refine (C31_20.out _).mono ?_
  rintro e wx ⟨rfl,rfl⟩
  go_wp2_with fail
  refine (S_at _ 12 4096 _ (by omega) (by omega) (by omega) (by rfl) (by omega)).mono ?_
  rintro e wx ⟨rfl,rfl⟩
  go_wp2_with fail
  refine (C6_0.out _).mono ?_
  rintro e wx ⟨rfl,rfl⟩
  obtain ⟨q0,q1,q2,q3,q4,q5,q6⟩:=f0.res.seven
  have y:=f0.res.free
  go_wp2
  have g:=(f0.set 0 (.int .i64 88))
  (try simp only [Exit.inBlock,Exit.then])
  refine bodyPost_ret (results_two rfl _ _ w.heap.size _ _ _ _ _ _ _ rfl (g.res.seven_set _ _ _ _ _ _ _)) rfl ⟨rfl,?_⟩
  exact g.kp.seven_set (Nat.le_refl _) _ _ _ _ _ _ _

set_option maxRecDepth 100000 in
theorem ref_system (s:Nat) (w:World) (hs:s < 4294967296) (hc:pc s 0 7 = 115) (e1:((s:Int) == 115) = false) (e2:((s:Int) == 1048691) = false) :
    Calls Tryz.prog 50 #[.int .u32 s] w fun e w'=>e = .returned (.tuple #[.agg (I7 0 0 0 0 0 0 0),.bool false])∧Kp none w w':=by
  have f0:=FrR.start w (I7 0 0 0 0 0 0 4)
  have C11_7:=hid (fun w=>F_at s 11 7 5 w hs (by omega) (by omega) rfl)
  have B11_7:pc s 7 5 < 32:=pc_lt s 7 5
  have C14_12:=hid (fun w=>F_at s 14 12 3 w hs (by omega) (by omega) rfl)
  have B14_12:pc s 12 3 < 8:=pc_lt s 12 3
  have C19_15:=hid (fun w=>F_at s 19 15 5 w hs (by omega) (by omega) rfl)
  have B19_15:pc s 15 5 < 32:=pc_lt s 15 5
  have C24_20:=hid (fun w=>F_at s 24 20 5 w hs (by omega) (by omega) rfl)
  have B24_20:pc s 20 5 < 32:=pc_lt s 20 5
  have C31_25:=hid (fun w=>F_at s 31 25 7 w hs (by omega) (by omega) rfl)
  have B31_25:pc s 25 7 < 128:=pc_lt s 25 7
  have C31_20:=hid (fun w=>F_at s 31 20 12 w hs (by omega) (by omega) rfl)
  have B31_20:pc s 20 12 < 4096:=pc_lt s 20 12
  have C6_0:=hid (fun w=>F_at s 6 0 7 w hs (by omega) (by omega) rfl)
  rw [hc] at C6_0
  have B6_0:pc s 0 7 < 128:=pc_lt s 0 7
  go_enter Tryz.func50,Tryz.ntmps50
  go_wp2_with fail
  refine (C11_7.out _).mono ?_
  rintro e wx ⟨rfl,rfl⟩
  generalize (w.alloc (.cells (I7 0 0 0 0 0 0 0) 47)).alloc (.cells (I7 0 0 0 0 0 0 4) 47) = w1 at f0 ⊢
  obtain ⟨b0,b1,b2,b3,b4,b5,b6⟩:=f0.box.seven
  have z:=f0.box.free
  go_wp2_with fail
  refine (C14_12.out _).mono ?_
  rintro e wx ⟨rfl,rfl⟩
  go_wp2_with fail
  refine (C19_15.out _).mono ?_
  rintro e wx ⟨rfl,rfl⟩
  go_wp2_with fail
  refine (C24_20.out _).mono ?_
  rintro e wx ⟨rfl,rfl⟩
  go_wp2_with fail
  refine (C31_25.out _).mono ?_
  rintro e wx ⟨rfl,rfl⟩
  go_wp2_with fail
  refine (C31_20.out _).mono ?_
  rintro e wx ⟨rfl,rfl⟩
  go_wp2_with fail
  refine (S_at _ 12 4096 _ (by omega) (by omega) (by omega) (by rfl) (by omega)).mono ?_
  rintro e wx ⟨rfl,rfl⟩
  go_wp2_with fail
  refine (C6_0.out _).mono ?_
  rintro e wx ⟨rfl,rfl⟩
  obtain ⟨q0,q1,q2,q3,q4,q5,q6⟩:=f0.res.seven
  have y:=f0.res.free
  go_wp2
  have g:=f0
  (try simp only [Exit.inBlock,Exit.then])
  refine bodyPost_ret (results_two rfl _ _ w.heap.size _ _ _ _ _ _ _ rfl (g.res.seven_set _ _ _ _ _ _ _)) rfl ⟨rfl,?_⟩
  exact g.kp.seven_set (Nat.le_refl _) _ _ _ _ _ _ _

set_option maxRecDepth 100000 in
theorem ref_none (s:Nat) (w:World) (hs:s < 4294967296) (n55:((pc s 0 7:Int) == 55) = false) (n23:((pc s 0 7:Int) == 23) = false) (n111:((pc s 0 7:Int) == 111) = false) (n103:((pc s 0 7:Int) == 103) = false) (n3:((pc s 0 7:Int) == 3) = false) (n99:((pc s 0 7:Int) == 99) = false) (n35:((pc s 0 7:Int) == 35) = false) (n19:((pc s 0 7:Int) == 19) = false) (n27:((pc s 0 7:Int) == 27) = false) (n51:((pc s 0 7:Int) == 51) = false) (n59:((pc s 0 7:Int) == 59) = false) (n47:((pc s 0 7:Int) == 47) = false) (n15:((pc s 0 7:Int) == 15) = false) (n115:((pc s 0 7:Int) == 115) = false) :
    Calls Tryz.prog 50 #[.int .u32 s] w fun e w'=>e = .returned (.tuple #[.agg (I7 0 0 0 0 0 0 0),.bool false])∧Kp none w w':=by
  have f0:=FrR.start w (I7 0 0 0 0 0 0 4)
  have C11_7:=hid (fun w=>F_at s 11 7 5 w hs (by omega) (by omega) rfl)
  have B11_7:pc s 7 5 < 32:=pc_lt s 7 5
  have C14_12:=hid (fun w=>F_at s 14 12 3 w hs (by omega) (by omega) rfl)
  have B14_12:pc s 12 3 < 8:=pc_lt s 12 3
  have C19_15:=hid (fun w=>F_at s 19 15 5 w hs (by omega) (by omega) rfl)
  have B19_15:pc s 15 5 < 32:=pc_lt s 15 5
  have C24_20:=hid (fun w=>F_at s 24 20 5 w hs (by omega) (by omega) rfl)
  have B24_20:pc s 20 5 < 32:=pc_lt s 20 5
  have C31_25:=hid (fun w=>F_at s 31 25 7 w hs (by omega) (by omega) rfl)
  have B31_25:pc s 25 7 < 128:=pc_lt s 25 7
  have C31_20:=hid (fun w=>F_at s 31 20 12 w hs (by omega) (by omega) rfl)
  have B31_20:pc s 20 12 < 4096:=pc_lt s 20 12
  have C6_0:=hid (fun w=>F_at s 6 0 7 w hs (by omega) (by omega) rfl)
  have B6_0:pc s 0 7 < 128:=pc_lt s 0 7
  go_enter Tryz.func50,Tryz.ntmps50
  go_wp2_with fail
  refine (C11_7.out _).mono ?_
  rintro e wx ⟨rfl,rfl⟩
  generalize (w.alloc (.cells (I7 0 0 0 0 0 0 0) 47)).alloc (.cells (I7 0 0 0 0 0 0 4) 47) = w1 at f0 ⊢
  obtain ⟨b0,b1,b2,b3,b4,b5,b6⟩:=f0.box.seven
  have z:=f0.box.free
  go_wp2_with fail
  refine (C14_12.out _).mono ?_
  rintro e wx ⟨rfl,rfl⟩
  go_wp2_with fail
  refine (C19_15.out _).mono ?_
  rintro e wx ⟨rfl,rfl⟩
  go_wp2_with fail
  refine (C24_20.out _).mono ?_
  rintro e wx ⟨rfl,rfl⟩
  go_wp2_with fail
  refine (C31_25.out _).mono ?_
  rintro e wx ⟨rfl,rfl⟩
  go_wp2_with fail
  refine (C31_20.out _).mono ?_
  rintro e wx ⟨rfl,rfl⟩
  go_wp2_with fail
  refine (S_at _ 12 4096 _ (by omega) (by omega) (by omega) (by rfl) (by omega)).mono ?_
  rintro e wx ⟨rfl,rfl⟩
  go_wp2_with fail
  refine (C6_0.out _).mono ?_
  rintro e wx ⟨rfl,rfl⟩
  obtain ⟨q0,q1,q2,q3,q4,q5,q6⟩:=f0.res.seven
  have y:=f0.res.free
  go_wp2
  have g:=f0
  (try simp only [Exit.inBlock,Exit.then])
  refine bodyPost_ret (results_two rfl _ _ w.heap.size _ _ _ _ _ _ _ rfl (g.res.seven_set _ _ _ _ _ _ _)) rfl ⟨rfl,?_⟩
  exact g.kp.seven_set (Nat.le_refl _) _ _ _ _ _ _ _

end Go.Proofs.YtbngjbmfkekdnaaGreatDoor.Tr
