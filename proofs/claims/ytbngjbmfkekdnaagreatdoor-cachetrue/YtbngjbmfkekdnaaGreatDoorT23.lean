/-
  The reference's Decode, a code each.
  The reference's Decode, a code each.
-/
import Derived.Test.YtbngjbmfkekdnaaGreatDoorT20
import Derived.Lib.Hide
set_option linter.unusedVariables false
set_option linter.unusedSimpArgs false
set_option maxHeartbeats 16000000
open Go.Lib (hid)
namespace Go.Proofs.YtbngjbmfkekdnaaGreatDoor.Tr
open Go.RowKit
open Td
set_option maxRecDepth 100000 in
theorem ref_jalr (s:Nat) (w:World) (hs:s < 4294967296) (hc:pc s 0 7 = 103) (ho:(([4]:List Int).getD (pc s 12 3) 0 == 0) = false) :
    Calls Tryz.prog 50 #[.int .u32 s] w fun e w'=>e = .returned (.tuple #[.agg (I7 (([4]:List Int).getD (pc s 12 3) 0) (pc s 7 5:Nat) (pc s 15 5:Nat) 0 (low (pc s 20 12:Nat) 12) 0 4),.bool true])∧Kp none w w':=by
  have f0:=FrR.start w (I7 0 0 0 0 0 0 4)
  have C11_7:=hid (fun w=>F_at s 11 7 5 w hs (by omega) (by omega) rfl)
  have B11_7:pc s 7 5 < 32:=pc_lt s 7 5
  have C14_12:=hid (fun w=>F_at s 14 12 3 w hs (by omega) (by omega) rfl)
  have B14_12:pc s 12 3 < 8:=pc_lt s 12 3
  have C19_15:=hid (fun w=>F_at s 19 15 5 w hs (by omega) (by omega) rfl)
  have B19_15:pc s 15 5 < 32:=pc_lt s 15 5
  have C24_20:=hid (fun w=>F_at s 24 20 5 w hs (by omega) (by omega) rfl)
  have B24_20:pc s 20 5 < 32:=pc_lt s 20 5
  have C31_25:=hid (fun w=>F_at s 31 25 7 w hs (by omega) (by omega) rfl)
  have B31_25:pc s 25 7 < 128:=pc_lt s 25 7
  have C31_20:=hid (fun w=>F_at s 31 20 12 w hs (by omega) (by omega) rfl)
  have B31_20:pc s 20 12 < 4096:=pc_lt s 20 12
  have C6_0:=hid (fun w=>F_at s 6 0 7 w hs (by omega) (by omega) rfl)
  rw [hc] at C6_0
  have B6_0:pc s 0 7 < 128:=pc_lt s 0 7
  have O_o1:=hid (fun w0 w1 hw=>one_new [11,12,13,14,15,16,17] (pc s 12 3) w0 w1 hw (by decide))
  generalize ([11,12,13,14,15,16,17]:List Int).getD (pc s 12 3) 0 = o1 at *
  have O_o:=hid (fun w0 w1 B hB hw=>one_newB [4] (pc s 12 3) w0 w1 B hB hw (by decide))
  generalize ([4]:List Int).getD (pc s 12 3) 0 = o at *
  go_enter Tryz.func50,Tryz.ntmps50
  go_wp2_with fail
  refine (C11_7.out _).mono ?_
  rintro e wx ⟨rfl,rfl⟩
  generalize (w.alloc (.cells (I7 0 0 0 0 0 0 0) 47)).alloc (.cells (I7 0 0 0 0 0 0 4) 47) = w1 at f0 ⊢
  obtain ⟨b0,b1,b2,b3,b4,b5,b6⟩:=f0.box.seven
  have z:=f0.box.free
  go_wp2_with fail
  refine (C14_12.out _).mono ?_
  rintro e wx ⟨rfl,rfl⟩
  go_wp2_with fail
  refine (C19_15.out _).mono ?_
  rintro e wx ⟨rfl,rfl⟩
  go_wp2_with fail
  refine (C24_20.out _).mono ?_
  rintro e wx ⟨rfl,rfl⟩
  go_wp2_with fail
  refine (C31_25.out _).mono ?_
  rintro e wx ⟨rfl,rfl⟩
  go_wp2_with fail
  refine (C31_20.out _).mono ?_
  rintro e wx ⟨rfl,rfl⟩
  go_wp2_with fail
  refine (S_at _ 12 4096 _ (by omega) (by omega) (by omega) (by rfl) (by omega)).mono ?_
  rintro e wx ⟨rfl,rfl⟩
  go_wp2_with fail
  refine (C6_0.out _).mono ?_
  rintro e wx ⟨rfl,rfl⟩
  go_wp2_with fail
  refine (O_o1.out w1 _ (by rfl)).mono ?_
  rintro e wx ⟨rfl,rfl⟩
  have f1:FrR w (I7 0 0 0 0 0 0 4) _:=f0.alloc #[.int .i64 11,.int .i64 12,.int .i64 13,.int .i64 14,.int .i64 15,.int .i64 16,.int .i64 17] 3
  generalize w1.alloc (.cells #[.int .i64 11,.int .i64 12,.int .i64 13,.int .i64 14,.int .i64 15,.int .i64 16,.int .i64 17] 3) = w2 at f1 ⊢
  clear b0 b1 b2 b3 b4 b5 b6 z
  obtain ⟨b0,b1,b2,b3,b4,b5,b6⟩:=f1.box.seven
  have z:=f1.box.free
  go_wp2_with fail
  refine (C6_0.out _).mono ?_
  rintro e wx ⟨rfl,rfl⟩
  go_wp2_with fail
  have hsz:(w2.setCell ⟨w.heap.size + 1,0,none⟩ (.int .i64 o1)).heap.size = w2.heap.size:=by simp [World.setCell]
  refine (O_o.out (w2.setCell ⟨w.heap.size + 1,0,none⟩ (.int .i64 o1)) _ _ hsz (by rfl)).mono ?_
  rintro e wx ⟨rfl,rfl⟩
  clear hsz
  have f2:FrR w (I7 o1 0 0 0 0 0 4) _:=(f1.set 0 (.int .i64 o1)).alloc #[.int .i64 4] 3
  generalize (w2.setCell ⟨w.heap.size + 1,0,none⟩ (.int .i64 o1)).alloc (.cells #[.int .i64 4] 3) = w3 at f2 ⊢
  clear b0 b1 b2 b3 b4 b5 b6 z
  obtain ⟨b0,b1,b2,b3,b4,b5,b6⟩:=f2.box.seven
  have z:=f2.box.free
  obtain ⟨q0,q1,q2,q3,q4,q5,q6⟩:=f2.res.seven
  have y:=f2.res.free
  go_wp2
  have g:=((((f2.set 0 (.int .i64 o)).set 1 (.int .i64 (pc s 7 5:Nat))).set 2 (.int .i64 (pc s 15 5:Nat))).set 4 (.int .i64 (low (pc s 20 12:Nat) 12)))
  (try simp only [Exit.inBlock,Exit.then])
  refine bodyPost_ret (results_two rfl _ _ w.heap.size _ _ _ _ _ _ _ rfl (g.res.seven_set _ _ _ _ _ _ _)) rfl ⟨rfl,?_⟩
  exact g.kp.seven_set (Nat.le_refl _) _ _ _ _ _ _ _

set_option maxRecDepth 100000 in
theorem ref_jalr_z (s:Nat) (w:World) (hs:s < 4294967296) (hc:pc s 0 7 = 103) (ho:([4]:List Int).getD (pc s 12 3) 0 = 0) :
    Calls Tryz.prog 50 #[.int .u32 s] w fun e w'=>e = .returned (.tuple #[.agg (I7 0 0 0 0 0 0 0),.bool false])∧Kp none w w':=by
  have f0:=FrR.start w (I7 0 0 0 0 0 0 4)
  have C11_7:=hid (fun w=>F_at s 11 7 5 w hs (by omega) (by omega) rfl)
  have B11_7:pc s 7 5 < 32:=pc_lt s 7 5
  have C14_12:=hid (fun w=>F_at s 14 12 3 w hs (by omega) (by omega) rfl)
  have B14_12:pc s 12 3 < 8:=pc_lt s 12 3
  have C19_15:=hid (fun w=>F_at s 19 15 5 w hs (by omega) (by omega) rfl)
  have B19_15:pc s 15 5 < 32:=pc_lt s 15 5
  have C24_20:=hid (fun w=>F_at s 24 20 5 w hs (by omega) (by omega) rfl)
  have B24_20:pc s 20 5 < 32:=pc_lt s 20 5
  have C31_25:=hid (fun w=>F_at s 31 25 7 w hs (by omega) (by omega) rfl)
  have B31_25:pc s 25 7 < 128:=pc_lt s 25 7
  have C31_20:=hid (fun w=>F_at s 31 20 12 w hs (by omega) (by omega) rfl)
  have B31_20:pc s 20 12 < 4096:=pc_lt s 20 12
  have C6_0:=hid (fun w=>F_at s 6 0 7 w hs (by omega) (by omega) rfl)
  rw [hc] at C6_0
  have B6_0:pc s 0 7 < 128:=pc_lt s 0 7
  have O_o1:=hid (fun w0 w1 hw=>one_new [11,12,13,14,15,16,17] (pc s 12 3) w0 w1 hw (by decide))
  generalize ([11,12,13,14,15,16,17]:List Int).getD (pc s 12 3) 0 = o1 at *
  have O_o:=hid (fun w0 w1 B hB hw=>one_newB [4] (pc s 12 3) w0 w1 B hB hw (by decide))
  generalize ([4]:List Int).getD (pc s 12 3) 0 = o at *
  subst ho
  go_enter Tryz.func50,Tryz.ntmps50
  go_wp2_with fail
  refine (C11_7.out _).mono ?_
  rintro e wx ⟨rfl,rfl⟩
  generalize (w.alloc (.cells (I7 0 0 0 0 0 0 0) 47)).alloc (.cells (I7 0 0 0 0 0 0 4) 47) = w1 at f0 ⊢
  obtain ⟨b0,b1,b2,b3,b4,b5,b6⟩:=f0.box.seven
  have z:=f0.box.free
  go_wp2_with fail
  refine (C14_12.out _).mono ?_
  rintro e wx ⟨rfl,rfl⟩
  go_wp2_with fail
  refine (C19_15.out _).mono ?_
  rintro e wx ⟨rfl,rfl⟩
  go_wp2_with fail
  refine (C24_20.out _).mono ?_
  rintro e wx ⟨rfl,rfl⟩
  go_wp2_with fail
  refine (C31_25.out _).mono ?_
  rintro e wx ⟨rfl,rfl⟩
  go_wp2_with fail
  refine (C31_20.out _).mono ?_
  rintro e wx ⟨rfl,rfl⟩
  go_wp2_with fail
  refine (S_at _ 12 4096 _ (by omega) (by omega) (by omega) (by rfl) (by omega)).mono ?_
  rintro e wx ⟨rfl,rfl⟩
  go_wp2_with fail
  refine (C6_0.out _).mono ?_
  rintro e wx ⟨rfl,rfl⟩
  go_wp2_with fail
  refine (O_o1.out w1 _ (by rfl)).mono ?_
  rintro e wx ⟨rfl,rfl⟩
  have f1:FrR w (I7 0 0 0 0 0 0 4) _:=f0.alloc #[.int .i64 11,.int .i64 12,.int .i64 13,.int .i64 14,.int .i64 15,.int .i64 16,.int .i64 17] 3
  generalize w1.alloc (.cells #[.int .i64 11,.int .i64 12,.int .i64 13,.int .i64 14,.int .i64 15,.int .i64 16,.int .i64 17] 3) = w2 at f1 ⊢
  clear b0 b1 b2 b3 b4 b5 b6 z
  obtain ⟨b0,b1,b2,b3,b4,b5,b6⟩:=f1.box.seven
  have z:=f1.box.free
  go_wp2_with fail
  refine (C6_0.out _).mono ?_
  rintro e wx ⟨rfl,rfl⟩
  go_wp2_with fail
  have hsz:(w2.setCell ⟨w.heap.size + 1,0,none⟩ (.int .i64 o1)).heap.size = w2.heap.size:=by simp [World.setCell]
  refine (O_o.out (w2.setCell ⟨w.heap.size + 1,0,none⟩ (.int .i64 o1)) _ _ hsz (by rfl)).mono ?_
  rintro e wx ⟨rfl,rfl⟩
  clear hsz
  have f2:FrR w (I7 o1 0 0 0 0 0 4) _:=(f1.set 0 (.int .i64 o1)).alloc #[.int .i64 4] 3
  generalize (w2.setCell ⟨w.heap.size + 1,0,none⟩ (.int .i64 o1)).alloc (.cells #[.int .i64 4] 3) = w3 at f2 ⊢
  clear b0 b1 b2 b3 b4 b5 b6 z
  obtain ⟨b0,b1,b2,b3,b4,b5,b6⟩:=f2.box.seven
  have z:=f2.box.free
  obtain ⟨q0,q1,q2,q3,q4,q5,q6⟩:=f2.res.seven
  have y:=f2.res.free
  go_wp2
  have g:=((((f2.set 0 (.int .i64 0)).set 1 (.int .i64 (pc s 7 5:Nat))).set 2 (.int .i64 (pc s 15 5:Nat))).set 4 (.int .i64 (low (pc s 20 12:Nat) 12)))
  (try simp only [Exit.inBlock,Exit.then])
  refine bodyPost_ret (results_two rfl _ _ w.heap.size _ _ _ _ _ _ _ rfl (g.res.seven_set _ _ _ _ _ _ _)) rfl ⟨rfl,?_⟩
  exact g.kp.seven_set (Nat.le_refl _) _ _ _ _ _ _ _

set_option maxRecDepth 100000 in
theorem ref_plain_a (s:Nat) (w:World) (hs:s < 4294967296) (hc:pc s 0 7 = 51) (hg:pc s 25 7 = 0) (ho:(([31,33,34,35,36,37,39,40]:List Int).getD (pc s 12 3) 0 == 0) = false) :
    Calls Tryz.prog 50 #[.int .u32 s] w fun e w'=>e = .returned (.tuple #[.agg (I7 (([31,33,34,35,36,37,39,40]:List Int).getD (pc s 12 3) 0) (pc s 7 5:Nat) (pc s 15 5:Nat) (pc s 20 5:Nat) 0 0 4),.bool true])∧Kp none w w':=by
  have f0:=FrR.start w (I7 0 0 0 0 0 0 4)
  have C11_7:=hid (fun w=>F_at s 11 7 5 w hs (by omega) (by omega) rfl)
  have B11_7:pc s 7 5 < 32:=pc_lt s 7 5
  have C14_12:=hid (fun w=>F_at s 14 12 3 w hs (by omega) (by omega) rfl)
  have B14_12:pc s 12 3 < 8:=pc_lt s 12 3
  have C19_15:=hid (fun w=>F_at s 19 15 5 w hs (by omega) (by omega) rfl)
  have B19_15:pc s 15 5 < 32:=pc_lt s 15 5
  have C24_20:=hid (fun w=>F_at s 24 20 5 w hs (by omega) (by omega) rfl)
  have B24_20:pc s 20 5 < 32:=pc_lt s 20 5
  have C31_25:=hid (fun w=>F_at s 31 25 7 w hs (by omega) (by omega) rfl)
  have B31_25:pc s 25 7 < 128:=pc_lt s 25 7
  have C31_20:=hid (fun w=>F_at s 31 20 12 w hs (by omega) (by omega) rfl)
  have B31_20:pc s 20 12 < 4096:=pc_lt s 20 12
  have C6_0:=hid (fun w=>F_at s 6 0 7 w hs (by omega) (by omega) rfl)
  rw [hc] at C6_0
  have B6_0:pc s 0 7 < 128:=pc_lt s 0 7
  rw [hg] at C31_25
  clear hg
  have O_o:=hid (fun w0 w1 B hB hw=>one_newB [31,33,34,35,36,37,39,40] (pc s 12 3) w0 w1 B hB hw (by decide))
  generalize ([31,33,34,35,36,37,39,40]:List Int).getD (pc s 12 3) 0 = o at *
  go_enter Tryz.func50,Tryz.ntmps50
  go_wp2_with fail
  refine (C11_7.out _).mono ?_
  rintro e wx ⟨rfl,rfl⟩
  generalize (w.alloc (.cells (I7 0 0 0 0 0 0 0) 47)).alloc (.cells (I7 0 0 0 0 0 0 4) 47) = w1 at f0 ⊢
  obtain ⟨b0,b1,b2,b3,b4,b5,b6⟩:=f0.box.seven
  have z:=f0.box.free
  go_wp2_with fail
  refine (C14_12.out _).mono ?_
  rintro e wx ⟨rfl,rfl⟩
  go_wp2_with fail
  refine (C19_15.out _).mono ?_
  rintro e wx ⟨rfl,rfl⟩
  go_wp2_with fail
  refine (C24_20.out _).mono ?_
  rintro e wx ⟨rfl,rfl⟩
  go_wp2_with fail
  refine (C31_25.out _).mono ?_
  rintro e wx ⟨rfl,rfl⟩
  go_wp2_with fail
  refine (C31_20.out _).mono ?_
  rintro e wx ⟨rfl,rfl⟩
  go_wp2_with fail
  refine (S_at _ 12 4096 _ (by omega) (by omega) (by omega) (by rfl) (by omega)).mono ?_
  rintro e wx ⟨rfl,rfl⟩
  go_wp2_with fail
  refine (C6_0.out _).mono ?_
  rintro e wx ⟨rfl,rfl⟩
  go_wp2_with fail
  have hsz:(((w1.setCell ⟨w.heap.size + 1,1,none⟩ (.int .i64 (pc s 7 5:Nat))).setCell ⟨w.heap.size + 1,2,none⟩ (.int .i64 (pc s 15 5:Nat))).setCell ⟨w.heap.size + 1,3,none⟩ (.int .i64 (pc s 20 5:Nat))).heap.size = w1.heap.size:=by simp [World.setCell]
  refine (O_o.out (((w1.setCell ⟨w.heap.size + 1,1,none⟩ (.int .i64 (pc s 7 5:Nat))).setCell ⟨w.heap.size + 1,2,none⟩ (.int .i64 (pc s 15 5:Nat))).setCell ⟨w.heap.size + 1,3,none⟩ (.int .i64 (pc s 20 5:Nat))) _ _ hsz (by rfl)).mono ?_
  rintro e wx ⟨rfl,rfl⟩
  clear hsz
  have f1:FrR w (I7 0 (pc s 7 5:Nat) (pc s 15 5:Nat) (pc s 20 5:Nat) 0 0 4) _:=(((f0.set 1 (.int .i64 (pc s 7 5:Nat))).set 2 (.int .i64 (pc s 15 5:Nat))).set 3 (.int .i64 (pc s 20 5:Nat))).alloc #[.int .i64 31,.int .i64 33,.int .i64 34,.int .i64 35,.int .i64 36,.int .i64 37,.int .i64 39,.int .i64 40] 3
  generalize (((w1.setCell ⟨w.heap.size + 1,1,none⟩ (.int .i64 (pc s 7 5:Nat))).setCell ⟨w.heap.size + 1,2,none⟩ (.int .i64 (pc s 15 5:Nat))).setCell ⟨w.heap.size + 1,3,none⟩ (.int .i64 (pc s 20 5:Nat))).alloc (.cells #[.int .i64 31,.int .i64 33,.int .i64 34,.int .i64 35,.int .i64 36,.int .i64 37,.int .i64 39,.int .i64 40] 3) = w2 at f1 ⊢
  clear b0 b1 b2 b3 b4 b5 b6 z
  obtain ⟨b0,b1,b2,b3,b4,b5,b6⟩:=f1.box.seven
  have z:=f1.box.free
  obtain ⟨q0,q1,q2,q3,q4,q5,q6⟩:=f1.res.seven
  have y:=f1.res.free
  go_wp2
  have g:=(f1.set 0 (.int .i64 o))
  (try simp only [Exit.inBlock,Exit.then])
  refine bodyPost_ret (results_two rfl _ _ w.heap.size _ _ _ _ _ _ _ rfl (g.res.seven_set _ _ _ _ _ _ _)) rfl ⟨rfl,?_⟩
  exact g.kp.seven_set (Nat.le_refl _) _ _ _ _ _ _ _

set_option maxRecDepth 100000 in
theorem ref_plain_b (s:Nat) (w:World) (hs:s < 4294967296) (hc:pc s 0 7 = 51) (hg:pc s 25 7 = 32) (ho:(([32,0,0,0,0,38]:List Int).getD (pc s 12 3) 0 == 0) = false) :
    Calls Tryz.prog 50 #[.int .u32 s] w fun e w'=>e = .returned (.tuple #[.agg (I7 (([32,0,0,0,0,38]:List Int).getD (pc s 12 3) 0) (pc s 7 5:Nat) (pc s 15 5:Nat) (pc s 20 5:Nat) 0 0 4),.bool true])∧Kp none w w':=by
  have f0:=FrR.start w (I7 0 0 0 0 0 0 4)
  have C11_7:=hid (fun w=>F_at s 11 7 5 w hs (by omega) (by omega) rfl)
  have B11_7:pc s 7 5 < 32:=pc_lt s 7 5
  have C14_12:=hid (fun w=>F_at s 14 12 3 w hs (by omega) (by omega) rfl)
  have B14_12:pc s 12 3 < 8:=pc_lt s 12 3
  have C19_15:=hid (fun w=>F_at s 19 15 5 w hs (by omega) (by omega) rfl)
  have B19_15:pc s 15 5 < 32:=pc_lt s 15 5
  have C24_20:=hid (fun w=>F_at s 24 20 5 w hs (by omega) (by omega) rfl)
  have B24_20:pc s 20 5 < 32:=pc_lt s 20 5
  have C31_25:=hid (fun w=>F_at s 31 25 7 w hs (by omega) (by omega) rfl)
  have B31_25:pc s 25 7 < 128:=pc_lt s 25 7
  have C31_20:=hid (fun w=>F_at s 31 20 12 w hs (by omega) (by omega) rfl)
  have B31_20:pc s 20 12 < 4096:=pc_lt s 20 12
  have C6_0:=hid (fun w=>F_at s 6 0 7 w hs (by omega) (by omega) rfl)
  rw [hc] at C6_0
  have B6_0:pc s 0 7 < 128:=pc_lt s 0 7
  rw [hg] at C31_25
  clear hg
  have O_o:=hid (fun w0 w1 B hB hw=>one_newB [32,0,0,0,0,38] (pc s 12 3) w0 w1 B hB hw (by decide))
  generalize ([32,0,0,0,0,38]:List Int).getD (pc s 12 3) 0 = o at *
  go_enter Tryz.func50,Tryz.ntmps50
  go_wp2_with fail
  refine (C11_7.out _).mono ?_
  rintro e wx ⟨rfl,rfl⟩
  generalize (w.alloc (.cells (I7 0 0 0 0 0 0 0) 47)).alloc (.cells (I7 0 0 0 0 0 0 4) 47) = w1 at f0 ⊢
  obtain ⟨b0,b1,b2,b3,b4,b5,b6⟩:=f0.box.seven
  have z:=f0.box.free
  go_wp2_with fail
  refine (C14_12.out _).mono ?_
  rintro e wx ⟨rfl,rfl⟩
  go_wp2_with fail
  refine (C19_15.out _).mono ?_
  rintro e wx ⟨rfl,rfl⟩
  go_wp2_with fail
  refine (C24_20.out _).mono ?_
  rintro e wx ⟨rfl,rfl⟩
  go_wp2_with fail
  refine (C31_25.out _).mono ?_
  rintro e wx ⟨rfl,rfl⟩
  go_wp2_with fail
  refine (C31_20.out _).mono ?_
  rintro e wx ⟨rfl,rfl⟩
  go_wp2_with fail
  refine (S_at _ 12 4096 _ (by omega) (by omega) (by omega) (by rfl) (by omega)).mono ?_
  rintro e wx ⟨rfl,rfl⟩
  go_wp2_with fail
  refine (C6_0.out _).mono ?_
  rintro e wx ⟨rfl,rfl⟩
  go_wp2_with fail
  have hsz:(((w1.setCell ⟨w.heap.size + 1,1,none⟩ (.int .i64 (pc s 7 5:Nat))).setCell ⟨w.heap.size + 1,2,none⟩ (.int .i64 (pc s 15 5:Nat))).setCell ⟨w.heap.size + 1,3,none⟩ (.int .i64 (pc s 20 5:Nat))).heap.size = w1.heap.size:=by simp [World.setCell]
  refine (O_o.out (((w1.setCell ⟨w.heap.size + 1,1,none⟩ (.int .i64 (pc s 7 5:Nat))).setCell ⟨w.heap.size + 1,2,none⟩ (.int .i64 (pc s 15 5:Nat))).setCell ⟨w.heap.size + 1,3,none⟩ (.int .i64 (pc s 20 5:Nat))) _ _ hsz (by rfl)).mono ?_
  rintro e wx ⟨rfl,rfl⟩
  clear hsz
  have f1:FrR w (I7 0 (pc s 7 5:Nat) (pc s 15 5:Nat) (pc s 20 5:Nat) 0 0 4) _:=(((f0.set 1 (.int .i64 (pc s 7 5:Nat))).set 2 (.int .i64 (pc s 15 5:Nat))).set 3 (.int .i64 (pc s 20 5:Nat))).alloc #[.int .i64 32,.int .i64 0,.int .i64 0,.int .i64 0,.int .i64 0,.int .i64 38] 3
  generalize (((w1.setCell ⟨w.heap.size + 1,1,none⟩ (.int .i64 (pc s 7 5:Nat))).setCell ⟨w.heap.size + 1,2,none⟩ (.int .i64 (pc s 15 5:Nat))).setCell ⟨w.heap.size + 1,3,none⟩ (.int .i64 (pc s 20 5:Nat))).alloc (.cells #[.int .i64 32,.int .i64 0,.int .i64 0,.int .i64 0,.int .i64 0,.int .i64 38] 3) = w2 at f1 ⊢
  clear b0 b1 b2 b3 b4 b5 b6 z
  obtain ⟨b0,b1,b2,b3,b4,b5,b6⟩:=f1.box.seven
  have z:=f1.box.free
  obtain ⟨q0,q1,q2,q3,q4,q5,q6⟩:=f1.res.seven
  have y:=f1.res.free
  go_wp2
  have g:=(f1.set 0 (.int .i64 o))
  (try simp only [Exit.inBlock,Exit.then])
  refine bodyPost_ret (results_two rfl _ _ w.heap.size _ _ _ _ _ _ _ rfl (g.res.seven_set _ _ _ _ _ _ _)) rfl ⟨rfl,?_⟩
  exact g.kp.seven_set (Nat.le_refl _) _ _ _ _ _ _ _

set_option maxRecDepth 100000 in
theorem ref_plain_b_z (s:Nat) (w:World) (hs:s < 4294967296) (hc:pc s 0 7 = 51) (hg:pc s 25 7 = 32) (ho:([32,0,0,0,0,38]:List Int).getD (pc s 12 3) 0 = 0) :
    Calls Tryz.prog 50 #[.int .u32 s] w fun e w'=>e = .returned (.tuple #[.agg (I7 0 0 0 0 0 0 0),.bool false])∧Kp none w w':=by
  have f0:=FrR.start w (I7 0 0 0 0 0 0 4)
  have C11_7:=hid (fun w=>F_at s 11 7 5 w hs (by omega) (by omega) rfl)
  have B11_7:pc s 7 5 < 32:=pc_lt s 7 5
  have C14_12:=hid (fun w=>F_at s 14 12 3 w hs (by omega) (by omega) rfl)
  have B14_12:pc s 12 3 < 8:=pc_lt s 12 3
  have C19_15:=hid (fun w=>F_at s 19 15 5 w hs (by omega) (by omega) rfl)
  have B19_15:pc s 15 5 < 32:=pc_lt s 15 5
  have C24_20:=hid (fun w=>F_at s 24 20 5 w hs (by omega) (by omega) rfl)
  have B24_20:pc s 20 5 < 32:=pc_lt s 20 5
  have C31_25:=hid (fun w=>F_at s 31 25 7 w hs (by omega) (by omega) rfl)
  have B31_25:pc s 25 7 < 128:=pc_lt s 25 7
  have C31_20:=hid (fun w=>F_at s 31 20 12 w hs (by omega) (by omega) rfl)
  have B31_20:pc s 20 12 < 4096:=pc_lt s 20 12
  have C6_0:=hid (fun w=>F_at s 6 0 7 w hs (by omega) (by omega) rfl)
  rw [hc] at C6_0
  have B6_0:pc s 0 7 < 128:=pc_lt s 0 7
  rw [hg] at C31_25
  clear hg
  have O_o:=hid (fun w0 w1 B hB hw=>one_newB [32,0,0,0,0,38] (pc s 12 3) w0 w1 B hB hw (by decide))
  generalize ([32,0,0,0,0,38]:List Int).getD (pc s 12 3) 0 = o at *
  subst ho
  go_enter Tryz.func50,Tryz.ntmps50
  go_wp2_with fail
  refine (C11_7.out _).mono ?_
  rintro e wx ⟨rfl,rfl⟩
  generalize (w.alloc (.cells (I7 0 0 0 0 0 0 0) 47)).alloc (.cells (I7 0 0 0 0 0 0 4) 47) = w1 at f0 ⊢
  obtain ⟨b0,b1,b2,b3,b4,b5,b6⟩:=f0.box.seven
  have z:=f0.box.free
  go_wp2_with fail
  refine (C14_12.out _).mono ?_
  rintro e wx ⟨rfl,rfl⟩
  go_wp2_with fail
  refine (C19_15.out _).mono ?_
  rintro e wx ⟨rfl,rfl⟩
  go_wp2_with fail
  refine (C24_20.out _).mono ?_
  rintro e wx ⟨rfl,rfl⟩
  go_wp2_with fail
  refine (C31_25.out _).mono ?_
  rintro e wx ⟨rfl,rfl⟩
  go_wp2_with fail
  refine (C31_20.out _).mono ?_
  rintro e wx ⟨rfl,rfl⟩
  go_wp2_with fail
  refine (S_at _ 12 4096 _ (by omega) (by omega) (by omega) (by rfl) (by omega)).mono ?_
  rintro e wx ⟨rfl,rfl⟩
  go_wp2_with fail
  refine (C6_0.out _).mono ?_
  rintro e wx ⟨rfl,rfl⟩
  go_wp2_with fail
  have hsz:(((w1.setCell ⟨w.heap.size + 1,1,none⟩ (.int .i64 (pc s 7 5:Nat))).setCell ⟨w.heap.size + 1,2,none⟩ (.int .i64 (pc s 15 5:Nat))).setCell ⟨w.heap.size + 1,3,none⟩ (.int .i64 (pc s 20 5:Nat))).heap.size = w1.heap.size:=by simp [World.setCell]
  refine (O_o.out (((w1.setCell ⟨w.heap.size + 1,1,none⟩ (.int .i64 (pc s 7 5:Nat))).setCell ⟨w.heap.size + 1,2,none⟩ (.int .i64 (pc s 15 5:Nat))).setCell ⟨w.heap.size + 1,3,none⟩ (.int .i64 (pc s 20 5:Nat))) _ _ hsz (by rfl)).mono ?_
  rintro e wx ⟨rfl,rfl⟩
  clear hsz
  have f1:FrR w (I7 0 (pc s 7 5:Nat) (pc s 15 5:Nat) (pc s 20 5:Nat) 0 0 4) _:=(((f0.set 1 (.int .i64 (pc s 7 5:Nat))).set 2 (.int .i64 (pc s 15 5:Nat))).set 3 (.int .i64 (pc s 20 5:Nat))).alloc #[.int .i64 32,.int .i64 0,.int .i64 0,.int .i64 0,.int .i64 0,.int .i64 38] 3
  generalize (((w1.setCell ⟨w.heap.size + 1,1,none⟩ (.int .i64 (pc s 7 5:Nat))).setCell ⟨w.heap.size + 1,2,none⟩ (.int .i64 (pc s 15 5:Nat))).setCell ⟨w.heap.size + 1,3,none⟩ (.int .i64 (pc s 20 5:Nat))).alloc (.cells #[.int .i64 32,.int .i64 0,.int .i64 0,.int .i64 0,.int .i64 0,.int .i64 38] 3) = w2 at f1 ⊢
  clear b0 b1 b2 b3 b4 b5 b6 z
  obtain ⟨b0,b1,b2,b3,b4,b5,b6⟩:=f1.box.seven
  have z:=f1.box.free
  obtain ⟨q0,q1,q2,q3,q4,q5,q6⟩:=f1.res.seven
  have y:=f1.res.free
  go_wp2
  have g:=(f1.set 0 (.int .i64 0))
  (try simp only [Exit.inBlock,Exit.then])
  refine bodyPost_ret (results_two rfl _ _ w.heap.size _ _ _ _ _ _ _ rfl (g.res.seven_set _ _ _ _ _ _ _)) rfl ⟨rfl,?_⟩
  exact g.kp.seven_set (Nat.le_refl _) _ _ _ _ _ _ _

set_option maxRecDepth 100000 in
theorem ref_plain_p (s:Nat) (w:World) (hs:s < 4294967296) (hc:pc s 0 7 = 51) (hg:pc s 25 7 = 1) (ho:(([50,51,52,53,54,55,56,57]:List Int).getD (pc s 12 3) 0 == 0) = false) :
    Calls Tryz.prog 50 #[.int .u32 s] w fun e w'=>e = .returned (.tuple #[.agg (I7 (([50,51,52,53,54,55,56,57]:List Int).getD (pc s 12 3) 0) (pc s 7 5:Nat) (pc s 15 5:Nat) (pc s 20 5:Nat) 0 0 4),.bool true])∧Kp none w w':=by
  have f0:=FrR.start w (I7 0 0 0 0 0 0 4)
  have C11_7:=hid (fun w=>F_at s 11 7 5 w hs (by omega) (by omega) rfl)
  have B11_7:pc s 7 5 < 32:=pc_lt s 7 5
  have C14_12:=hid (fun w=>F_at s 14 12 3 w hs (by omega) (by omega) rfl)
  have B14_12:pc s 12 3 < 8:=pc_lt s 12 3
  have C19_15:=hid (fun w=>F_at s 19 15 5 w hs (by omega) (by omega) rfl)
  have B19_15:pc s 15 5 < 32:=pc_lt s 15 5
  have C24_20:=hid (fun w=>F_at s 24 20 5 w hs (by omega) (by omega) rfl)
  have B24_20:pc s 20 5 < 32:=pc_lt s 20 5
  have C31_25:=hid (fun w=>F_at s 31 25 7 w hs (by omega) (by omega) rfl)
  have B31_25:pc s 25 7 < 128:=pc_lt s 25 7
  have C31_20:=hid (fun w=>F_at s 31 20 12 w hs (by omega) (by omega) rfl)
  have B31_20:pc s 20 12 < 4096:=pc_lt s 20 12
  have C6_0:=hid (fun w=>F_at s 6 0 7 w hs (by omega) (by omega) rfl)
  rw [hc] at C6_0
  have B6_0:pc s 0 7 < 128:=pc_lt s 0 7
  rw [hg] at C31_25
  clear hg
  have O_o:=hid (fun w0 w1 B hB hw=>one_newB [50,51,52,53,54,55,56,57] (pc s 12 3) w0 w1 B hB hw (by decide))
  generalize ([50,51,52,53,54,55,56,57]:List Int).getD (pc s 12 3) 0 = o at *
  go_enter Tryz.func50,Tryz.ntmps50
  go_wp2_with fail
  refine (C11_7.out _).mono ?_
  rintro e wx ⟨rfl,rfl⟩
  generalize (w.alloc (.cells (I7 0 0 0 0 0 0 0) 47)).alloc (.cells (I7 0 0 0 0 0 0 4) 47) = w1 at f0 ⊢
  obtain ⟨b0,b1,b2,b3,b4,b5,b6⟩:=f0.box.seven
  have z:=f0.box.free
  go_wp2_with fail
  refine (C14_12.out _).mono ?_
  rintro e wx ⟨rfl,rfl⟩
  go_wp2_with fail
  refine (C19_15.out _).mono ?_
  rintro e wx ⟨rfl,rfl⟩
  go_wp2_with fail
  refine (C24_20.out _).mono ?_
  rintro e wx ⟨rfl,rfl⟩
  go_wp2_with fail
  refine (C31_25.out _).mono ?_
  rintro e wx ⟨rfl,rfl⟩
  go_wp2_with fail
  refine (C31_20.out _).mono ?_
  rintro e wx ⟨rfl,rfl⟩
  go_wp2_with fail
  refine (S_at _ 12 4096 _ (by omega) (by omega) (by omega) (by rfl) (by omega)).mono ?_
  rintro e wx ⟨rfl,rfl⟩
  go_wp2_with fail
  refine (C6_0.out _).mono ?_
  rintro e wx ⟨rfl,rfl⟩
  go_wp2_with fail
  have hsz:(((w1.setCell ⟨w.heap.size + 1,1,none⟩ (.int .i64 (pc s 7 5:Nat))).setCell ⟨w.heap.size + 1,2,none⟩ (.int .i64 (pc s 15 5:Nat))).setCell ⟨w.heap.size + 1,3,none⟩ (.int .i64 (pc s 20 5:Nat))).heap.size = w1.heap.size:=by simp [World.setCell]
  refine (O_o.out (((w1.setCell ⟨w.heap.size + 1,1,none⟩ (.int .i64 (pc s 7 5:Nat))).setCell ⟨w.heap.size + 1,2,none⟩ (.int .i64 (pc s 15 5:Nat))).setCell ⟨w.heap.size + 1,3,none⟩ (.int .i64 (pc s 20 5:Nat))) _ _ hsz (by rfl)).mono ?_
  rintro e wx ⟨rfl,rfl⟩
  clear hsz
  have f1:FrR w (I7 0 (pc s 7 5:Nat) (pc s 15 5:Nat) (pc s 20 5:Nat) 0 0 4) _:=(((f0.set 1 (.int .i64 (pc s 7 5:Nat))).set 2 (.int .i64 (pc s 15 5:Nat))).set 3 (.int .i64 (pc s 20 5:Nat))).alloc #[.int .i64 50,.int .i64 51,.int .i64 52,.int .i64 53,.int .i64 54,.int .i64 55,.int .i64 56,.int .i64 57] 3
  generalize (((w1.setCell ⟨w.heap.size + 1,1,none⟩ (.int .i64 (pc s 7 5:Nat))).setCell ⟨w.heap.size + 1,2,none⟩ (.int .i64 (pc s 15 5:Nat))).setCell ⟨w.heap.size + 1,3,none⟩ (.int .i64 (pc s 20 5:Nat))).alloc (.cells #[.int .i64 50,.int .i64 51,.int .i64 52,.int .i64 53,.int .i64 54,.int .i64 55,.int .i64 56,.int .i64 57] 3) = w2 at f1 ⊢
  clear b0 b1 b2 b3 b4 b5 b6 z
  obtain ⟨b0,b1,b2,b3,b4,b5,b6⟩:=f1.box.seven
  have z:=f1.box.free
  obtain ⟨q0,q1,q2,q3,q4,q5,q6⟩:=f1.res.seven
  have y:=f1.res.free
  go_wp2
  have g:=(f1.set 0 (.int .i64 o))
  (try simp only [Exit.inBlock,Exit.then])
  refine bodyPost_ret (results_two rfl _ _ w.heap.size _ _ _ _ _ _ _ rfl (g.res.seven_set _ _ _ _ _ _ _)) rfl ⟨rfl,?_⟩
  exact g.kp.seven_set (Nat.le_refl _) _ _ _ _ _ _ _

end Go.Proofs.YtbngjbmfkekdnaaGreatDoor.Tr

namespace Go.Proofs.YtbngjbmfkekdnaaGreatDoor.Tr
open Go.RowKit
open Td
set_option maxRecDepth 100000 in
theorem ref_narrow_a (s:Nat) (w:World) (hs:s < 4294967296) (hc:pc s 0 7 = 59) (hg:pc s 25 7 = 0) (ho:(([45,47,0,0,0,48]:List Int).getD (pc s 12 3) 0 == 0) = false) :
    Calls Tryz.prog 50 #[.int .u32 s] w fun e w'=>e = .returned (.tuple #[.agg (I7 (([45,47,0,0,0,48]:List Int).getD (pc s 12 3) 0) (pc s 7 5:Nat) (pc s 15 5:Nat) (pc s 20 5:Nat) 0 0 4),.bool true])∧Kp none w w':=by
  have f0:=FrR.start w (I7 0 0 0 0 0 0 4)
  have C11_7:=hid (fun w=>F_at s 11 7 5 w hs (by omega) (by omega) rfl)
  have B11_7:pc s 7 5 < 32:=pc_lt s 7 5
  have C14_12:=hid (fun w=>F_at s 14 12 3 w hs (by omega) (by omega) rfl)
  have B14_12:pc s 12 3 < 8:=pc_lt s 12 3
  have C19_15:=hid (fun w=>F_at s 19 15 5 w hs (by omega) (by omega) rfl)
  have B19_15:pc s 15 5 < 32:=pc_lt s 15 5
  have C24_20:=hid (fun w=>F_at s 24 20 5 w hs (by omega) (by omega) rfl)
  have B24_20:pc s 20 5 < 32:=pc_lt s 20 5
  have C31_25:=hid (fun w=>F_at s 31 25 7 w hs (by omega) (by omega) rfl)
  have B31_25:pc s 25 7 < 128:=pc_lt s 25 7
  have C31_20:=hid (fun w=>F_at s 31 20 12 w hs (by omega) (by omega) rfl)
  have B31_20:pc s 20 12 < 4096:=pc_lt s 20 12
  have C6_0:=hid (fun w=>F_at s 6 0 7 w hs (by omega) (by omega) rfl)
  rw [hc] at C6_0
  have B6_0:pc s 0 7 < 128:=pc_lt s 0 7
  rw [hg] at C31_25
  clear hg
  have O_o:=hid (fun w0 w1 B hB hw=>one_newB [45,47,0,0,0,48] (pc s 12 3) w0 w1 B hB hw (by decide))
  generalize ([45,47,0,0,0,48]:List Int).getD (pc s 12 3) 0 = o at *
  go_enter Tryz.func50,Tryz.ntmps50
  go_wp2_with fail
  refine (C11_7.out _).mono ?_
  rintro e wx ⟨rfl,rfl⟩
  generalize (w.alloc (.cells (I7 0 0 0 0 0 0 0) 47)).alloc (.cells (I7 0 0 0 0 0 0 4) 47) = w1 at f0 ⊢
  obtain ⟨b0,b1,b2,b3,b4,b5,b6⟩:=f0.box.seven
  have z:=f0.box.free
  go_wp2_with fail
  refine (C14_12.out _).mono ?_
  rintro e wx ⟨rfl,rfl⟩
  go_wp2_with fail
  refine (C19_15.out _).mono ?_
  rintro e wx ⟨rfl,rfl⟩
  go_wp2_with fail
  refine (C24_20.out _).mono ?_
  rintro e wx ⟨rfl,rfl⟩
  go_wp2_with fail
  refine (C31_25.out _).mono ?_
  rintro e wx ⟨rfl,rfl⟩
  go_wp2_with fail
  refine (C31_20.out _).mono ?_
  rintro e wx ⟨rfl,rfl⟩
  go_wp2_with fail
  refine (S_at _ 12 4096 _ (by omega) (by omega) (by omega) (by rfl) (by omega)).mono ?_
  rintro e wx ⟨rfl,rfl⟩
  go_wp2_with fail
  refine (C6_0.out _).mono ?_
  rintro e wx ⟨rfl,rfl⟩
  go_wp2_with fail
  have hsz:(((w1.setCell ⟨w.heap.size + 1,1,none⟩ (.int .i64 (pc s 7 5:Nat))).setCell ⟨w.heap.size + 1,2,none⟩ (.int .i64 (pc s 15 5:Nat))).setCell ⟨w.heap.size + 1,3,none⟩ (.int .i64 (pc s 20 5:Nat))).heap.size = w1.heap.size:=by simp [World.setCell]
  refine (O_o.out (((w1.setCell ⟨w.heap.size + 1,1,none⟩ (.int .i64 (pc s 7 5:Nat))).setCell ⟨w.heap.size + 1,2,none⟩ (.int .i64 (pc s 15 5:Nat))).setCell ⟨w.heap.size + 1,3,none⟩ (.int .i64 (pc s 20 5:Nat))) _ _ hsz (by rfl)).mono ?_
  rintro e wx ⟨rfl,rfl⟩
  clear hsz
  have f1:FrR w (I7 0 (pc s 7 5:Nat) (pc s 15 5:Nat) (pc s 20 5:Nat) 0 0 4) _:=(((f0.set 1 (.int .i64 (pc s 7 5:Nat))).set 2 (.int .i64 (pc s 15 5:Nat))).set 3 (.int .i64 (pc s 20 5:Nat))).alloc #[.int .i64 45,.int .i64 47,.int .i64 0,.int .i64 0,.int .i64 0,.int .i64 48] 3
  generalize (((w1.setCell ⟨w.heap.size + 1,1,none⟩ (.int .i64 (pc s 7 5:Nat))).setCell ⟨w.heap.size + 1,2,none⟩ (.int .i64 (pc s 15 5:Nat))).setCell ⟨w.heap.size + 1,3,none⟩ (.int .i64 (pc s 20 5:Nat))).alloc (.cells #[.int .i64 45,.int .i64 47,.int .i64 0,.int .i64 0,.int .i64 0,.int .i64 48] 3) = w2 at f1 ⊢
  clear b0 b1 b2 b3 b4 b5 b6 z
  obtain ⟨b0,b1,b2,b3,b4,b5,b6⟩:=f1.box.seven
  have z:=f1.box.free
  obtain ⟨q0,q1,q2,q3,q4,q5,q6⟩:=f1.res.seven
  have y:=f1.res.free
  go_wp2
  have g:=(f1.set 0 (.int .i64 o))
  (try simp only [Exit.inBlock,Exit.then])
  refine bodyPost_ret (results_two rfl _ _ w.heap.size _ _ _ _ _ _ _ rfl (g.res.seven_set _ _ _ _ _ _ _)) rfl ⟨rfl,?_⟩
  exact g.kp.seven_set (Nat.le_refl _) _ _ _ _ _ _ _

set_option maxRecDepth 100000 in
theorem ref_narrow_a_z (s:Nat) (w:World) (hs:s < 4294967296) (hc:pc s 0 7 = 59) (hg:pc s 25 7 = 0) (ho:([45,47,0,0,0,48]:List Int).getD (pc s 12 3) 0 = 0) :
    Calls Tryz.prog 50 #[.int .u32 s] w fun e w'=>e = .returned (.tuple #[.agg (I7 0 0 0 0 0 0 0),.bool false])∧Kp none w w':=by
  have f0:=FrR.start w (I7 0 0 0 0 0 0 4)
  have C11_7:=hid (fun w=>F_at s 11 7 5 w hs (by omega) (by omega) rfl)
  have B11_7:pc s 7 5 < 32:=pc_lt s 7 5
  have C14_12:=hid (fun w=>F_at s 14 12 3 w hs (by omega) (by omega) rfl)
  have B14_12:pc s 12 3 < 8:=pc_lt s 12 3
  have C19_15:=hid (fun w=>F_at s 19 15 5 w hs (by omega) (by omega) rfl)
  have B19_15:pc s 15 5 < 32:=pc_lt s 15 5
  have C24_20:=hid (fun w=>F_at s 24 20 5 w hs (by omega) (by omega) rfl)
  have B24_20:pc s 20 5 < 32:=pc_lt s 20 5
  have C31_25:=hid (fun w=>F_at s 31 25 7 w hs (by omega) (by omega) rfl)
  have B31_25:pc s 25 7 < 128:=pc_lt s 25 7
  have C31_20:=hid (fun w=>F_at s 31 20 12 w hs (by omega) (by omega) rfl)
  have B31_20:pc s 20 12 < 4096:=pc_lt s 20 12
  have C6_0:=hid (fun w=>F_at s 6 0 7 w hs (by omega) (by omega) rfl)
  rw [hc] at C6_0
  have B6_0:pc s 0 7 < 128:=pc_lt s 0 7
  rw [hg] at C31_25
  clear hg
  have O_o:=hid (fun w0 w1 B hB hw=>one_newB [45,47,0,0,0,48] (pc s 12 3) w0 w1 B hB hw (by decide))
  generalize ([45,47,0,0,0,48]:List Int).getD (pc s 12 3) 0 = o at *
  subst ho
  go_enter Tryz.func50,Tryz.ntmps50
  go_wp2_with fail
  refine (C11_7.out _).mono ?_
  rintro e wx ⟨rfl,rfl⟩
  generalize (w.alloc (.cells (I7 0 0 0 0 0 0 0) 47)).alloc (.cells (I7 0 0 0 0 0 0 4) 47) = w1 at f0 ⊢
  obtain ⟨b0,b1,b2,b3,b4,b5,b6⟩:=f0.box.seven
  have z:=f0.box.free
  go_wp2_with fail
  refine (C14_12.out _).mono ?_
  rintro e wx ⟨rfl,rfl⟩
  go_wp2_with fail
  refine (C19_15.out _).mono ?_
  rintro e wx ⟨rfl,rfl⟩
  go_wp2_with fail
  refine (C24_20.out _).mono ?_
  rintro e wx ⟨rfl,rfl⟩
  go_wp2_with fail
  refine (C31_25.out _).mono ?_
  rintro e wx ⟨rfl,rfl⟩
  go_wp2_with fail
  refine (C31_20.out _).mono ?_
  rintro e wx ⟨rfl,rfl⟩
  go_wp2_with fail
  refine (S_at _ 12 4096 _ (by omega) (by omega) (by omega) (by rfl) (by omega)).mono ?_
  rintro e wx ⟨rfl,rfl⟩
  go_wp2_with fail
  refine (C6_0.out _).mono ?_
  rintro e wx ⟨rfl,rfl⟩
  go_wp2_with fail
  have hsz:(((w1.setCell ⟨w.heap.size + 1,1,none⟩ (.int .i64 (pc s 7 5:Nat))).setCell ⟨w.heap.size + 1,2,none⟩ (.int .i64 (pc s 15 5:Nat))).setCell ⟨w.heap.size + 1,3,none⟩ (.int .i64 (pc s 20 5:Nat))).heap.size = w1.heap.size:=by simp [World.setCell]
  refine (O_o.out (((w1.setCell ⟨w.heap.size + 1,1,none⟩ (.int .i64 (pc s 7 5:Nat))).setCell ⟨w.heap.size + 1,2,none⟩ (.int .i64 (pc s 15 5:Nat))).setCell ⟨w.heap.size + 1,3,none⟩ (.int .i64 (pc s 20 5:Nat))) _ _ hsz (by rfl)).mono ?_
  rintro e wx ⟨rfl,rfl⟩
  clear hsz
  have f1:FrR w (I7 0 (pc s 7 5:Nat) (pc s 15 5:Nat) (pc s 20 5:Nat) 0 0 4) _:=(((f0.set 1 (.int .i64 (pc s 7 5:Nat))).set 2 (.int .i64 (pc s 15 5:Nat))).set 3 (.int .i64 (pc s 20 5:Nat))).alloc #[.int .i64 45,.int .i64 47,.int .i64 0,.int .i64 0,.int .i64 0,.int .i64 48] 3
  generalize (((w1.setCell ⟨w.heap.size + 1,1,none⟩ (.int .i64 (pc s 7 5:Nat))).setCell ⟨w.heap.size + 1,2,none⟩ (.int .i64 (pc s 15 5:Nat))).setCell ⟨w.heap.size + 1,3,none⟩ (.int .i64 (pc s 20 5:Nat))).alloc (.cells #[.int .i64 45,.int .i64 47,.int .i64 0,.int .i64 0,.int .i64 0,.int .i64 48] 3) = w2 at f1 ⊢
  clear b0 b1 b2 b3 b4 b5 b6 z
  obtain ⟨b0,b1,b2,b3,b4,b5,b6⟩:=f1.box.seven
  have z:=f1.box.free
  obtain ⟨q0,q1,q2,q3,q4,q5,q6⟩:=f1.res.seven
  have y:=f1.res.free
  go_wp2
  have g:=(f1.set 0 (.int .i64 0))
  (try simp only [Exit.inBlock,Exit.then])
  refine bodyPost_ret (results_two rfl _ _ w.heap.size _ _ _ _ _ _ _ rfl (g.res.seven_set _ _ _ _ _ _ _)) rfl ⟨rfl,?_⟩
  exact g.kp.seven_set (Nat.le_refl _) _ _ _ _ _ _ _

set_option maxRecDepth 100000 in
theorem ref_narrow_b (s:Nat) (w:World) (hs:s < 4294967296) (hc:pc s 0 7 = 59) (hg:pc s 25 7 = 32) (ho:(([46,0,0,0,0,49]:List Int).getD (pc s 12 3) 0 == 0) = false) :
    Calls Tryz.prog 50 #[.int .u32 s] w fun e w'=>e = .returned (.tuple #[.agg (I7 (([46,0,0,0,0,49]:List Int).getD (pc s 12 3) 0) (pc s 7 5:Nat) (pc s 15 5:Nat) (pc s 20 5:Nat) 0 0 4),.bool true])∧Kp none w w':=by
  have f0:=FrR.start w (I7 0 0 0 0 0 0 4)
  have C11_7:=hid (fun w=>F_at s 11 7 5 w hs (by omega) (by omega) rfl)
  have B11_7:pc s 7 5 < 32:=pc_lt s 7 5
  have C14_12:=hid (fun w=>F_at s 14 12 3 w hs (by omega) (by omega) rfl)
  have B14_12:pc s 12 3 < 8:=pc_lt s 12 3
  have C19_15:=hid (fun w=>F_at s 19 15 5 w hs (by omega) (by omega) rfl)
  have B19_15:pc s 15 5 < 32:=pc_lt s 15 5
  have C24_20:=hid (fun w=>F_at s 24 20 5 w hs (by omega) (by omega) rfl)
  have B24_20:pc s 20 5 < 32:=pc_lt s 20 5
  have C31_25:=hid (fun w=>F_at s 31 25 7 w hs (by omega) (by omega) rfl)
  have B31_25:pc s 25 7 < 128:=pc_lt s 25 7
  have C31_20:=hid (fun w=>F_at s 31 20 12 w hs (by omega) (by omega) rfl)
  have B31_20:pc s 20 12 < 4096:=pc_lt s 20 12
  have C6_0:=hid (fun w=>F_at s 6 0 7 w hs (by omega) (by omega) rfl)
  rw [hc] at C6_0
  have B6_0:pc s 0 7 < 128:=pc_lt s 0 7
  rw [hg] at C31_25
  clear hg
  have O_o:=hid (fun w0 w1 B hB hw=>one_newB [46,0,0,0,0,49] (pc s 12 3) w0 w1 B hB hw (by decide))
  generalize ([46,0,0,0,0,49]:List Int).getD (pc s 12 3) 0 = o at *
  go_enter Tryz.func50,Tryz.ntmps50
  go_wp2_with fail
  refine (C11_7.out _).mono ?_
  rintro e wx ⟨rfl,rfl⟩
  generalize (w.alloc (.cells (I7 0 0 0 0 0 0 0) 47)).alloc (.cells (I7 0 0 0 0 0 0 4) 47) = w1 at f0 ⊢
  obtain ⟨b0,b1,b2,b3,b4,b5,b6⟩:=f0.box.seven
  have z:=f0.box.free
  go_wp2_with fail
  refine (C14_12.out _).mono ?_
  rintro e wx ⟨rfl,rfl⟩
  go_wp2_with fail
  refine (C19_15.out _).mono ?_
  rintro e wx ⟨rfl,rfl⟩
  go_wp2_with fail
  refine (C24_20.out _).mono ?_
  rintro e wx ⟨rfl,rfl⟩
  go_wp2_with fail
  refine (C31_25.out _).mono ?_
  rintro e wx ⟨rfl,rfl⟩
  go_wp2_with fail
  refine (C31_20.out _).mono ?_
  rintro e wx ⟨rfl,rfl⟩
  go_wp2_with fail
  refine (S_at _ 12 4096 _ (by omega) (by omega) (by omega) (by rfl) (by omega)).mono ?_
  rintro e wx ⟨rfl,rfl⟩
  go_wp2_with fail
  refine (C6_0.out _).mono ?_
  rintro e wx ⟨rfl,rfl⟩
  go_wp2_with fail
  have hsz:(((w1.setCell ⟨w.heap.size + 1,1,none⟩ (.int .i64 (pc s 7 5:Nat))).setCell ⟨w.heap.size + 1,2,none⟩ (.int .i64 (pc s 15 5:Nat))).setCell ⟨w.heap.size + 1,3,none⟩ (.int .i64 (pc s 20 5:Nat))).heap.size = w1.heap.size:=by simp [World.setCell]
  refine (O_o.out (((w1.setCell ⟨w.heap.size + 1,1,none⟩ (.int .i64 (pc s 7 5:Nat))).setCell ⟨w.heap.size + 1,2,none⟩ (.int .i64 (pc s 15 5:Nat))).setCell ⟨w.heap.size + 1,3,none⟩ (.int .i64 (pc s 20 5:Nat))) _ _ hsz (by rfl)).mono ?_
  rintro e wx ⟨rfl,rfl⟩
  clear hsz
  have f1:FrR w (I7 0 (pc s 7 5:Nat) (pc s 15 5:Nat) (pc s 20 5:Nat) 0 0 4) _:=(((f0.set 1 (.int .i64 (pc s 7 5:Nat))).set 2 (.int .i64 (pc s 15 5:Nat))).set 3 (.int .i64 (pc s 20 5:Nat))).alloc #[.int .i64 46,.int .i64 0,.int .i64 0,.int .i64 0,.int .i64 0,.int .i64 49] 3
  generalize (((w1.setCell ⟨w.heap.size + 1,1,none⟩ (.int .i64 (pc s 7 5:Nat))).setCell ⟨w.heap.size + 1,2,none⟩ (.int .i64 (pc s 15 5:Nat))).setCell ⟨w.heap.size + 1,3,none⟩ (.int .i64 (pc s 20 5:Nat))).alloc (.cells #[.int .i64 46,.int .i64 0,.int .i64 0,.int .i64 0,.int .i64 0,.int .i64 49] 3) = w2 at f1 ⊢
  clear b0 b1 b2 b3 b4 b5 b6 z
  obtain ⟨b0,b1,b2,b3,b4,b5,b6⟩:=f1.box.seven
  have z:=f1.box.free
  obtain ⟨q0,q1,q2,q3,q4,q5,q6⟩:=f1.res.seven
  have y:=f1.res.free
  go_wp2
  have g:=(f1.set 0 (.int .i64 o))
  (try simp only [Exit.inBlock,Exit.then])
  refine bodyPost_ret (results_two rfl _ _ w.heap.size _ _ _ _ _ _ _ rfl (g.res.seven_set _ _ _ _ _ _ _)) rfl ⟨rfl,?_⟩
  exact g.kp.seven_set (Nat.le_refl _) _ _ _ _ _ _ _

set_option maxRecDepth 100000 in
theorem ref_narrow_b_z (s:Nat) (w:World) (hs:s < 4294967296) (hc:pc s 0 7 = 59) (hg:pc s 25 7 = 32) (ho:([46,0,0,0,0,49]:List Int).getD (pc s 12 3) 0 = 0) :
    Calls Tryz.prog 50 #[.int .u32 s] w fun e w'=>e = .returned (.tuple #[.agg (I7 0 0 0 0 0 0 0),.bool false])∧Kp none w w':=by
  have f0:=FrR.start w (I7 0 0 0 0 0 0 4)
  have C11_7:=hid (fun w=>F_at s 11 7 5 w hs (by omega) (by omega) rfl)
  have B11_7:pc s 7 5 < 32:=pc_lt s 7 5
  have C14_12:=hid (fun w=>F_at s 14 12 3 w hs (by omega) (by omega) rfl)
  have B14_12:pc s 12 3 < 8:=pc_lt s 12 3
  have C19_15:=hid (fun w=>F_at s 19 15 5 w hs (by omega) (by omega) rfl)
  have B19_15:pc s 15 5 < 32:=pc_lt s 15 5
  have C24_20:=hid (fun w=>F_at s 24 20 5 w hs (by omega) (by omega) rfl)
  have B24_20:pc s 20 5 < 32:=pc_lt s 20 5
  have C31_25:=hid (fun w=>F_at s 31 25 7 w hs (by omega) (by omega) rfl)
  have B31_25:pc s 25 7 < 128:=pc_lt s 25 7
  have C31_20:=hid (fun w=>F_at s 31 20 12 w hs (by omega) (by omega) rfl)
  have B31_20:pc s 20 12 < 4096:=pc_lt s 20 12
  have C6_0:=hid (fun w=>F_at s 6 0 7 w hs (by omega) (by omega) rfl)
  rw [hc] at C6_0
  have B6_0:pc s 0 7 < 128:=pc_lt s 0 7
  rw [hg] at C31_25
  clear hg
  have O_o:=hid (fun w0 w1 B hB hw=>one_newB [46,0,0,0,0,49] (pc s 12 3) w0 w1 B hB hw (by decide))
  generalize ([46,0,0,0,0,49]:List Int).getD (pc s 12 3) 0 = o at *
  subst ho
  go_enter Tryz.func50,Tryz.ntmps50
  go_wp2_with fail
  refine (C11_7.out _).mono ?_
  rintro e wx ⟨rfl,rfl⟩
  generalize (w.alloc (.cells (I7 0 0 0 0 0 0 0) 47)).alloc (.cells (I7 0 0 0 0 0 0 4) 47) = w1 at f0 ⊢
  obtain ⟨b0,b1,b2,b3,b4,b5,b6⟩:=f0.box.seven
  have z:=f0.box.free
  go_wp2_with fail
  refine (C14_12.out _).mono ?_
  rintro e wx ⟨rfl,rfl⟩
  go_wp2_with fail
  refine (C19_15.out _).mono ?_
  rintro e wx ⟨rfl,rfl⟩
  go_wp2_with fail
  refine (C24_20.out _).mono ?_
  rintro e wx ⟨rfl,rfl⟩
  go_wp2_with fail
  refine (C31_25.out _).mono ?_
  rintro e wx ⟨rfl,rfl⟩
  go_wp2_with fail
  refine (C31_20.out _).mono ?_
  rintro e wx ⟨rfl,rfl⟩
  go_wp2_with fail
  refine (S_at _ 12 4096 _ (by omega) (by omega) (by omega) (by rfl) (by omega)).mono ?_
  rintro e wx ⟨rfl,rfl⟩
  go_wp2_with fail
  refine (C6_0.out _).mono ?_
  rintro e wx ⟨rfl,rfl⟩
  go_wp2_with fail
  have hsz:(((w1.setCell ⟨w.heap.size + 1,1,none⟩ (.int .i64 (pc s 7 5:Nat))).setCell ⟨w.heap.size + 1,2,none⟩ (.int .i64 (pc s 15 5:Nat))).setCell ⟨w.heap.size + 1,3,none⟩ (.int .i64 (pc s 20 5:Nat))).heap.size = w1.heap.size:=by simp [World.setCell]
  refine (O_o.out (((w1.setCell ⟨w.heap.size + 1,1,none⟩ (.int .i64 (pc s 7 5:Nat))).setCell ⟨w.heap.size + 1,2,none⟩ (.int .i64 (pc s 15 5:Nat))).setCell ⟨w.heap.size + 1,3,none⟩ (.int .i64 (pc s 20 5:Nat))) _ _ hsz (by rfl)).mono ?_
  rintro e wx ⟨rfl,rfl⟩
  clear hsz
  have f1:FrR w (I7 0 (pc s 7 5:Nat) (pc s 15 5:Nat) (pc s 20 5:Nat) 0 0 4) _:=(((f0.set 1 (.int .i64 (pc s 7 5:Nat))).set 2 (.int .i64 (pc s 15 5:Nat))).set 3 (.int .i64 (pc s 20 5:Nat))).alloc #[.int .i64 46,.int .i64 0,.int .i64 0,.int .i64 0,.int .i64 0,.int .i64 49] 3
  generalize (((w1.setCell ⟨w.heap.size + 1,1,none⟩ (.int .i64 (pc s 7 5:Nat))).setCell ⟨w.heap.size + 1,2,none⟩ (.int .i64 (pc s 15 5:Nat))).setCell ⟨w.heap.size + 1,3,none⟩ (.int .i64 (pc s 20 5:Nat))).alloc (.cells #[.int .i64 46,.int .i64 0,.int .i64 0,.int .i64 0,.int .i64 0,.int .i64 49] 3) = w2 at f1 ⊢
  clear b0 b1 b2 b3 b4 b5 b6 z
  obtain ⟨b0,b1,b2,b3,b4,b5,b6⟩:=f1.box.seven
  have z:=f1.box.free
  obtain ⟨q0,q1,q2,q3,q4,q5,q6⟩:=f1.res.seven
  have y:=f1.res.free
  go_wp2
  have g:=(f1.set 0 (.int .i64 0))
  (try simp only [Exit.inBlock,Exit.then])
  refine bodyPost_ret (results_two rfl _ _ w.heap.size _ _ _ _ _ _ _ rfl (g.res.seven_set _ _ _ _ _ _ _)) rfl ⟨rfl,?_⟩
  exact g.kp.seven_set (Nat.le_refl _) _ _ _ _ _ _ _

set_option maxRecDepth 100000 in
theorem ref_narrow_p (s:Nat) (w:World) (hs:s < 4294967296) (hc:pc s 0 7 = 59) (hg:pc s 25 7 = 1) (ho:(([58,0,0,0,59,60,61,62]:List Int).getD (pc s 12 3) 0 == 0) = false) :
    Calls Tryz.prog 50 #[.int .u32 s] w fun e w'=>e = .returned (.tuple #[.agg (I7 (([58,0,0,0,59,60,61,62]:List Int).getD (pc s 12 3) 0) (pc s 7 5:Nat) (pc s 15 5:Nat) (pc s 20 5:Nat) 0 0 4),.bool true])∧Kp none w w':=by
  have f0:=FrR.start w (I7 0 0 0 0 0 0 4)
  have C11_7:=hid (fun w=>F_at s 11 7 5 w hs (by omega) (by omega) rfl)
  have B11_7:pc s 7 5 < 32:=pc_lt s 7 5
  have C14_12:=hid (fun w=>F_at s 14 12 3 w hs (by omega) (by omega) rfl)
  have B14_12:pc s 12 3 < 8:=pc_lt s 12 3
  have C19_15:=hid (fun w=>F_at s 19 15 5 w hs (by omega) (by omega) rfl)
  have B19_15:pc s 15 5 < 32:=pc_lt s 15 5
  have C24_20:=hid (fun w=>F_at s 24 20 5 w hs (by omega) (by omega) rfl)
  have B24_20:pc s 20 5 < 32:=pc_lt s 20 5
  have C31_25:=hid (fun w=>F_at s 31 25 7 w hs (by omega) (by omega) rfl)
  have B31_25:pc s 25 7 < 128:=pc_lt s 25 7
  have C31_20:=hid (fun w=>F_at s 31 20 12 w hs (by omega) (by omega) rfl)
  have B31_20:pc s 20 12 < 4096:=pc_lt s 20 12
  have C6_0:=hid (fun w=>F_at s 6 0 7 w hs (by omega) (by omega) rfl)
  rw [hc] at C6_0
  have B6_0:pc s 0 7 < 128:=pc_lt s 0 7
  rw [hg] at C31_25
  clear hg
  have O_o:=hid (fun w0 w1 B hB hw=>one_newB [58,0,0,0,59,60,61,62] (pc s 12 3) w0 w1 B hB hw (by decide))
  generalize ([58,0,0,0,59,60,61,62]:List Int).getD (pc s 12 3) 0 = o at *
  go_enter Tryz.func50,Tryz.ntmps50
  go_wp2_with fail
  refine (C11_7.out _).mono ?_
  rintro e wx ⟨rfl,rfl⟩
  generalize (w.alloc (.cells (I7 0 0 0 0 0 0 0) 47)).alloc (.cells (I7 0 0 0 0 0 0 4) 47) = w1 at f0 ⊢
  obtain ⟨b0,b1,b2,b3,b4,b5,b6⟩:=f0.box.seven
  have z:=f0.box.free
  go_wp2_with fail
  refine (C14_12.out _).mono ?_
  rintro e wx ⟨rfl,rfl⟩
  go_wp2_with fail
  refine (C19_15.out _).mono ?_
  rintro e wx ⟨rfl,rfl⟩
  go_wp2_with fail
  refine (C24_20.out _).mono ?_
  rintro e wx ⟨rfl,rfl⟩
  go_wp2_with fail
  refine (C31_25.out _).mono ?_
  rintro e wx ⟨rfl,rfl⟩
  go_wp2_with fail
  refine (C31_20.out _).mono ?_
  rintro e wx ⟨rfl,rfl⟩
  go_wp2_with fail
  refine (S_at _ 12 4096 _ (by omega) (by omega) (by omega) (by rfl) (by omega)).mono ?_
  rintro e wx ⟨rfl,rfl⟩
  go_wp2_with fail
  refine (C6_0.out _).mono ?_
  rintro e wx ⟨rfl,rfl⟩
  go_wp2_with fail
  have hsz:(((w1.setCell ⟨w.heap.size + 1,1,none⟩ (.int .i64 (pc s 7 5:Nat))).setCell ⟨w.heap.size + 1,2,none⟩ (.int .i64 (pc s 15 5:Nat))).setCell ⟨w.heap.size + 1,3,none⟩ (.int .i64 (pc s 20 5:Nat))).heap.size = w1.heap.size:=by simp [World.setCell]
  refine (O_o.out (((w1.setCell ⟨w.heap.size + 1,1,none⟩ (.int .i64 (pc s 7 5:Nat))).setCell ⟨w.heap.size + 1,2,none⟩ (.int .i64 (pc s 15 5:Nat))).setCell ⟨w.heap.size + 1,3,none⟩ (.int .i64 (pc s 20 5:Nat))) _ _ hsz (by rfl)).mono ?_
  rintro e wx ⟨rfl,rfl⟩
  clear hsz
  have f1:FrR w (I7 0 (pc s 7 5:Nat) (pc s 15 5:Nat) (pc s 20 5:Nat) 0 0 4) _:=(((f0.set 1 (.int .i64 (pc s 7 5:Nat))).set 2 (.int .i64 (pc s 15 5:Nat))).set 3 (.int .i64 (pc s 20 5:Nat))).alloc #[.int .i64 58,.int .i64 0,.int .i64 0,.int .i64 0,.int .i64 59,.int .i64 60,.int .i64 61,.int .i64 62] 3
  generalize (((w1.setCell ⟨w.heap.size + 1,1,none⟩ (.int .i64 (pc s 7 5:Nat))).setCell ⟨w.heap.size + 1,2,none⟩ (.int .i64 (pc s 15 5:Nat))).setCell ⟨w.heap.size + 1,3,none⟩ (.int .i64 (pc s 20 5:Nat))).alloc (.cells #[.int .i64 58,.int .i64 0,.int .i64 0,.int .i64 0,.int .i64 59,.int .i64 60,.int .i64 61,.int .i64 62] 3) = w2 at f1 ⊢
  clear b0 b1 b2 b3 b4 b5 b6 z
  obtain ⟨b0,b1,b2,b3,b4,b5,b6⟩:=f1.box.seven
  have z:=f1.box.free
  obtain ⟨q0,q1,q2,q3,q4,q5,q6⟩:=f1.res.seven
  have y:=f1.res.free
  go_wp2
  have g:=(f1.set 0 (.int .i64 o))
  (try simp only [Exit.inBlock,Exit.then])
  refine bodyPost_ret (results_two rfl _ _ w.heap.size _ _ _ _ _ _ _ rfl (g.res.seven_set _ _ _ _ _ _ _)) rfl ⟨rfl,?_⟩
  exact g.kp.seven_set (Nat.le_refl _) _ _ _ _ _ _ _

set_option maxRecDepth 100000 in
theorem ref_narrow_p_z (s:Nat) (w:World) (hs:s < 4294967296) (hc:pc s 0 7 = 59) (hg:pc s 25 7 = 1) (ho:([58,0,0,0,59,60,61,62]:List Int).getD (pc s 12 3) 0 = 0) :
    Calls Tryz.prog 50 #[.int .u32 s] w fun e w'=>e = .returned (.tuple #[.agg (I7 0 0 0 0 0 0 0),.bool false])∧Kp none w w':=by
  have f0:=FrR.start w (I7 0 0 0 0 0 0 4)
  have C11_7:=hid (fun w=>F_at s 11 7 5 w hs (by omega) (by omega) rfl)
  have B11_7:pc s 7 5 < 32:=pc_lt s 7 5
  have C14_12:=hid (fun w=>F_at s 14 12 3 w hs (by omega) (by omega) rfl)
  have B14_12:pc s 12 3 < 8:=pc_lt s 12 3
  have C19_15:=hid (fun w=>F_at s 19 15 5 w hs (by omega) (by omega) rfl)
  have B19_15:pc s 15 5 < 32:=pc_lt s 15 5
  have C24_20:=hid (fun w=>F_at s 24 20 5 w hs (by omega) (by omega) rfl)
  have B24_20:pc s 20 5 < 32:=pc_lt s 20 5
  have C31_25:=hid (fun w=>F_at s 31 25 7 w hs (by omega) (by omega) rfl)
  have B31_25:pc s 25 7 < 128:=pc_lt s 25 7
  have C31_20:=hid (fun w=>F_at s 31 20 12 w hs (by omega) (by omega) rfl)
  have B31_20:pc s 20 12 < 4096:=pc_lt s 20 12
  have C6_0:=hid (fun w=>F_at s 6 0 7 w hs (by omega) (by omega) rfl)
  rw [hc] at C6_0
  have B6_0:pc s 0 7 < 128:=pc_lt s 0 7
  rw [hg] at C31_25
  clear hg
  have O_o:=hid (fun w0 w1 B hB hw=>one_newB [58,0,0,0,59,60,61,62] (pc s 12 3) w0 w1 B hB hw (by decide))
  generalize ([58,0,0,0,59,60,61,62]:List Int).getD (pc s 12 3) 0 = o at *
  subst ho
  go_enter Tryz.func50,Tryz.ntmps50
  go_wp2_with fail
  refine (C11_7.out _).mono ?_
  rintro e wx ⟨rfl,rfl⟩
  generalize (w.alloc (.cells (I7 0 0 0 0 0 0 0) 47)).alloc (.cells (I7 0 0 0 0 0 0 4) 47) = w1 at f0 ⊢
  obtain ⟨b0,b1,b2,b3,b4,b5,b6⟩:=f0.box.seven
  have z:=f0.box.free
  go_wp2_with fail
  refine (C14_12.out _).mono ?_
  rintro e wx ⟨rfl,rfl⟩
  go_wp2_with fail
  refine (C19_15.out _).mono ?_
  rintro e wx ⟨rfl,rfl⟩
  go_wp2_with fail
  refine (C24_20.out _).mono ?_
  rintro e wx ⟨rfl,rfl⟩
  go_wp2_with fail
  refine (C31_25.out _).mono ?_
  rintro e wx ⟨rfl,rfl⟩
  go_wp2_with fail
  refine (C31_20.out _).mono ?_
  rintro e wx ⟨rfl,rfl⟩
  go_wp2_with fail
  refine (S_at _ 12 4096 _ (by omega) (by omega) (by omega) (by rfl) (by omega)).mono ?_
  rintro e wx ⟨rfl,rfl⟩
  go_wp2_with fail
  refine (C6_0.out _).mono ?_
  rintro e wx ⟨rfl,rfl⟩
  go_wp2_with fail
  have hsz:(((w1.setCell ⟨w.heap.size + 1,1,none⟩ (.int .i64 (pc s 7 5:Nat))).setCell ⟨w.heap.size + 1,2,none⟩ (.int .i64 (pc s 15 5:Nat))).setCell ⟨w.heap.size + 1,3,none⟩ (.int .i64 (pc s 20 5:Nat))).heap.size = w1.heap.size:=by simp [World.setCell]
  refine (O_o.out (((w1.setCell ⟨w.heap.size + 1,1,none⟩ (.int .i64 (pc s 7 5:Nat))).setCell ⟨w.heap.size + 1,2,none⟩ (.int .i64 (pc s 15 5:Nat))).setCell ⟨w.heap.size + 1,3,none⟩ (.int .i64 (pc s 20 5:Nat))) _ _ hsz (by rfl)).mono ?_
  rintro e wx ⟨rfl,rfl⟩
  clear hsz
  have f1:FrR w (I7 0 (pc s 7 5:Nat) (pc s 15 5:Nat) (pc s 20 5:Nat) 0 0 4) _:=(((f0.set 1 (.int .i64 (pc s 7 5:Nat))).set 2 (.int .i64 (pc s 15 5:Nat))).set 3 (.int .i64 (pc s 20 5:Nat))).alloc #[.int .i64 58,.int .i64 0,.int .i64 0,.int .i64 0,.int .i64 59,.int .i64 60,.int .i64 61,.int .i64 62] 3
  generalize (((w1.setCell ⟨w.heap.size + 1,1,none⟩ (.int .i64 (pc s 7 5:Nat))).setCell ⟨w.heap.size + 1,2,none⟩ (.int .i64 (pc s 15 5:Nat))).setCell ⟨w.heap.size + 1,3,none⟩ (.int .i64 (pc s 20 5:Nat))).alloc (.cells #[.int .i64 58,.int .i64 0,.int .i64 0,.int .i64 0,.int .i64 59,.int .i64 60,.int .i64 61,.int .i64 62] 3) = w2 at f1 ⊢
  clear b0 b1 b2 b3 b4 b5 b6 z
  obtain ⟨b0,b1,b2,b3,b4,b5,b6⟩:=f1.box.seven
  have z:=f1.box.free
  obtain ⟨q0,q1,q2,q3,q4,q5,q6⟩:=f1.res.seven
  have y:=f1.res.free
  go_wp2
  have g:=(f1.set 0 (.int .i64 0))
  (try simp only [Exit.inBlock,Exit.then])
  refine bodyPost_ret (results_two rfl _ _ w.heap.size _ _ _ _ _ _ _ rfl (g.res.seven_set _ _ _ _ _ _ _)) rfl ⟨rfl,?_⟩
  exact g.kp.seven_set (Nat.le_refl _) _ _ _ _ _ _ _

end Go.Proofs.YtbngjbmfkekdnaaGreatDoor.Tr
