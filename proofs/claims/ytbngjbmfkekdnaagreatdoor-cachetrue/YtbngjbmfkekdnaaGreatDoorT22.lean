/-
  The reference's Decode, a code each.
-/
import Derived.Test.YtbngjbmfkekdnaaGreatDoorT20
import Derived.Lib.Hide
set_option linter.unusedVariables false
set_option linter.unusedSimpArgs false
set_option maxHeartbeats 16000000
open Go.Lib (hid)
namespace Go.Proofs.YtbngjbmfkekdnaaGreatDoor.Tr
open Go.RowKit
open Td
set_option maxRecDepth 100000 in
theorem ref_imm19_0 (s:Nat) (w:World) (hs:s < 4294967296) (hc:pc s 0 7 = 19) (hf:pc s 12 3 = 1) (hu:pc s 26 6 = 0) :
    Calls Tryz.prog 50 #[.int .u32 s] w fun e w'=>e = .returned (.tuple #[.agg (I7 28 (pc s 7 5:Nat) (pc s 15 5:Nat) 0 (pc s 20 6:Nat) 0 4),.bool true])∧Kp none w w':=by
  have f0:=FrR.start w (I7 0 0 0 0 0 0 4)
  have C11_7:=hid (fun w=>F_at s 11 7 5 w hs (by omega) (by omega) rfl)
  have B11_7:pc s 7 5 < 32:=pc_lt s 7 5
  have C14_12:=hid (fun w=>F_at s 14 12 3 w hs (by omega) (by omega) rfl)
  have B14_12:pc s 12 3 < 8:=pc_lt s 12 3
  have C19_15:=hid (fun w=>F_at s 19 15 5 w hs (by omega) (by omega) rfl)
  have B19_15:pc s 15 5 < 32:=pc_lt s 15 5
  have C24_20:=hid (fun w=>F_at s 24 20 5 w hs (by omega) (by omega) rfl)
  have B24_20:pc s 20 5 < 32:=pc_lt s 20 5
  have C31_25:=hid (fun w=>F_at s 31 25 7 w hs (by omega) (by omega) rfl)
  have B31_25:pc s 25 7 < 128:=pc_lt s 25 7
  have C31_20:=hid (fun w=>F_at s 31 20 12 w hs (by omega) (by omega) rfl)
  have B31_20:pc s 20 12 < 4096:=pc_lt s 20 12
  have C6_0:=hid (fun w=>F_at s 6 0 7 w hs (by omega) (by omega) rfl)
  rw [hc] at C6_0
  have B6_0:pc s 0 7 < 128:=pc_lt s 0 7
  rw [hf] at C14_12
  have WI:=hid (fun b rd r1 im w hb=>withImm19_0 s b rd r1 im w hs hc hu hb)
  clear hf hu
  go_enter Tryz.func50,Tryz.ntmps50
  go_wp2_with fail
  refine (C11_7.out _).mono ?_
  rintro e wx ⟨rfl,rfl⟩
  generalize (w.alloc (.cells (I7 0 0 0 0 0 0 0) 47)).alloc (.cells (I7 0 0 0 0 0 0 4) 47) = w1 at f0 ⊢
  obtain ⟨b0,b1,b2,b3,b4,b5,b6⟩:=f0.box.seven
  have z:=f0.box.free
  go_wp2_with fail
  refine (C14_12.out _).mono ?_
  rintro e wx ⟨rfl,rfl⟩
  go_wp2_with fail
  refine (C19_15.out _).mono ?_
  rintro e wx ⟨rfl,rfl⟩
  go_wp2_with fail
  refine (C24_20.out _).mono ?_
  rintro e wx ⟨rfl,rfl⟩
  go_wp2_with fail
  refine (C31_25.out _).mono ?_
  rintro e wx ⟨rfl,rfl⟩
  go_wp2_with fail
  refine (C31_20.out _).mono ?_
  rintro e wx ⟨rfl,rfl⟩
  go_wp2_with fail
  refine (S_at _ 12 4096 _ (by omega) (by omega) (by omega) (by rfl) (by omega)).mono ?_
  rintro e wx ⟨rfl,rfl⟩
  go_wp2_with fail
  refine (C6_0.out _).mono ?_
  rintro e wx ⟨rfl,rfl⟩
  go_wp2_with fail
  refine (WI.out _ _ _ _ _ (((f0.set 1 (.int .i64 (pc s 7 5:Nat))).set 2 (.int .i64 (pc s 15 5:Nat))).set 4 (.int .i64 (low (pc s 20 12:Nat) 12))).box).mono ?_
  rintro e w2 ⟨rfl,hb2,k2⟩
  have f1:=(((f0.set 1 (.int .i64 (pc s 7 5:Nat))).set 2 (.int .i64 (pc s 15 5:Nat))).set 4 (.int .i64 (low (pc s 20 12:Nat) 12))).turn k2 hb2
  clear b0 b1 b2 b3 b4 b5 b6 z
  obtain ⟨b0,b1,b2,b3,b4,b5,b6⟩:=f1.box.seven
  have z:=f1.box.free
  obtain ⟨q0,q1,q2,q3,q4,q5,q6⟩:=f1.res.seven
  have y:=f1.res.free
  go_wp2
  have g:=f1
  (try simp only [Exit.inBlock,Exit.then])
  refine bodyPost_ret (results_two rfl _ _ w.heap.size _ _ _ _ _ _ _ rfl (g.res.seven_set _ _ _ _ _ _ _)) rfl ⟨rfl,?_⟩
  exact g.kp.seven_set (Nat.le_refl _) _ _ _ _ _ _ _

set_option maxRecDepth 100000 in
theorem ref_imm19_1 (s:Nat) (w:World) (hs:s < 4294967296) (hc:pc s 0 7 = 19) (hf:pc s 12 3 = 5) (hu:pc s 26 6 = 0) :
    Calls Tryz.prog 50 #[.int .u32 s] w fun e w'=>e = .returned (.tuple #[.agg (I7 29 (pc s 7 5:Nat) (pc s 15 5:Nat) 0 (pc s 20 6:Nat) 0 4),.bool true])∧Kp none w w':=by
  have f0:=FrR.start w (I7 0 0 0 0 0 0 4)
  have C11_7:=hid (fun w=>F_at s 11 7 5 w hs (by omega) (by omega) rfl)
  have B11_7:pc s 7 5 < 32:=pc_lt s 7 5
  have C14_12:=hid (fun w=>F_at s 14 12 3 w hs (by omega) (by omega) rfl)
  have B14_12:pc s 12 3 < 8:=pc_lt s 12 3
  have C19_15:=hid (fun w=>F_at s 19 15 5 w hs (by omega) (by omega) rfl)
  have B19_15:pc s 15 5 < 32:=pc_lt s 15 5
  have C24_20:=hid (fun w=>F_at s 24 20 5 w hs (by omega) (by omega) rfl)
  have B24_20:pc s 20 5 < 32:=pc_lt s 20 5
  have C31_25:=hid (fun w=>F_at s 31 25 7 w hs (by omega) (by omega) rfl)
  have B31_25:pc s 25 7 < 128:=pc_lt s 25 7
  have C31_20:=hid (fun w=>F_at s 31 20 12 w hs (by omega) (by omega) rfl)
  have B31_20:pc s 20 12 < 4096:=pc_lt s 20 12
  have C6_0:=hid (fun w=>F_at s 6 0 7 w hs (by omega) (by omega) rfl)
  rw [hc] at C6_0
  have B6_0:pc s 0 7 < 128:=pc_lt s 0 7
  rw [hf] at C14_12
  have WI:=hid (fun b rd r1 im w hb=>withImm19_1 s b rd r1 im w hs hc hu hb)
  clear hf hu
  go_enter Tryz.func50,Tryz.ntmps50
  go_wp2_with fail
  refine (C11_7.out _).mono ?_
  rintro e wx ⟨rfl,rfl⟩
  generalize (w.alloc (.cells (I7 0 0 0 0 0 0 0) 47)).alloc (.cells (I7 0 0 0 0 0 0 4) 47) = w1 at f0 ⊢
  obtain ⟨b0,b1,b2,b3,b4,b5,b6⟩:=f0.box.seven
  have z:=f0.box.free
  go_wp2_with fail
  refine (C14_12.out _).mono ?_
  rintro e wx ⟨rfl,rfl⟩
  go_wp2_with fail
  refine (C19_15.out _).mono ?_
  rintro e wx ⟨rfl,rfl⟩
  go_wp2_with fail
  refine (C24_20.out _).mono ?_
  rintro e wx ⟨rfl,rfl⟩
  go_wp2_with fail
  refine (C31_25.out _).mono ?_
  rintro e wx ⟨rfl,rfl⟩
  go_wp2_with fail
  refine (C31_20.out _).mono ?_
  rintro e wx ⟨rfl,rfl⟩
  go_wp2_with fail
  refine (S_at _ 12 4096 _ (by omega) (by omega) (by omega) (by rfl) (by omega)).mono ?_
  rintro e wx ⟨rfl,rfl⟩
  go_wp2_with fail
  refine (C6_0.out _).mono ?_
  rintro e wx ⟨rfl,rfl⟩
  go_wp2_with fail
  refine (WI.out _ _ _ _ _ (((f0.set 1 (.int .i64 (pc s 7 5:Nat))).set 2 (.int .i64 (pc s 15 5:Nat))).set 4 (.int .i64 (low (pc s 20 12:Nat) 12))).box).mono ?_
  rintro e w2 ⟨rfl,hb2,k2⟩
  have f1:=(((f0.set 1 (.int .i64 (pc s 7 5:Nat))).set 2 (.int .i64 (pc s 15 5:Nat))).set 4 (.int .i64 (low (pc s 20 12:Nat) 12))).turn k2 hb2
  clear b0 b1 b2 b3 b4 b5 b6 z
  obtain ⟨b0,b1,b2,b3,b4,b5,b6⟩:=f1.box.seven
  have z:=f1.box.free
  obtain ⟨q0,q1,q2,q3,q4,q5,q6⟩:=f1.res.seven
  have y:=f1.res.free
  go_wp2
  have g:=f1
  (try simp only [Exit.inBlock,Exit.then])
  refine bodyPost_ret (results_two rfl _ _ w.heap.size _ _ _ _ _ _ _ rfl (g.res.seven_set _ _ _ _ _ _ _)) rfl ⟨rfl,?_⟩
  exact g.kp.seven_set (Nat.le_refl _) _ _ _ _ _ _ _

set_option maxRecDepth 100000 in
theorem ref_imm19_2 (s:Nat) (w:World) (hs:s < 4294967296) (hc:pc s 0 7 = 19) (hf:pc s 12 3 = 5) (hu:pc s 26 6 = 16) :
    Calls Tryz.prog 50 #[.int .u32 s] w fun e w'=>e = .returned (.tuple #[.agg (I7 30 (pc s 7 5:Nat) (pc s 15 5:Nat) 0 (pc s 20 6:Nat) 0 4),.bool true])∧Kp none w w':=by
  have f0:=FrR.start w (I7 0 0 0 0 0 0 4)
  have C11_7:=hid (fun w=>F_at s 11 7 5 w hs (by omega) (by omega) rfl)
  have B11_7:pc s 7 5 < 32:=pc_lt s 7 5
  have C14_12:=hid (fun w=>F_at s 14 12 3 w hs (by omega) (by omega) rfl)
  have B14_12:pc s 12 3 < 8:=pc_lt s 12 3
  have C19_15:=hid (fun w=>F_at s 19 15 5 w hs (by omega) (by omega) rfl)
  have B19_15:pc s 15 5 < 32:=pc_lt s 15 5
  have C24_20:=hid (fun w=>F_at s 24 20 5 w hs (by omega) (by omega) rfl)
  have B24_20:pc s 20 5 < 32:=pc_lt s 20 5
  have C31_25:=hid (fun w=>F_at s 31 25 7 w hs (by omega) (by omega) rfl)
  have B31_25:pc s 25 7 < 128:=pc_lt s 25 7
  have C31_20:=hid (fun w=>F_at s 31 20 12 w hs (by omega) (by omega) rfl)
  have B31_20:pc s 20 12 < 4096:=pc_lt s 20 12
  have C6_0:=hid (fun w=>F_at s 6 0 7 w hs (by omega) (by omega) rfl)
  rw [hc] at C6_0
  have B6_0:pc s 0 7 < 128:=pc_lt s 0 7
  rw [hf] at C14_12
  have WI:=hid (fun b rd r1 im w hb=>withImm19_2 s b rd r1 im w hs hc hu hb)
  clear hf hu
  go_enter Tryz.func50,Tryz.ntmps50
  go_wp2_with fail
  refine (C11_7.out _).mono ?_
  rintro e wx ⟨rfl,rfl⟩
  generalize (w.alloc (.cells (I7 0 0 0 0 0 0 0) 47)).alloc (.cells (I7 0 0 0 0 0 0 4) 47) = w1 at f0 ⊢
  obtain ⟨b0,b1,b2,b3,b4,b5,b6⟩:=f0.box.seven
  have z:=f0.box.free
  go_wp2_with fail
  refine (C14_12.out _).mono ?_
  rintro e wx ⟨rfl,rfl⟩
  go_wp2_with fail
  refine (C19_15.out _).mono ?_
  rintro e wx ⟨rfl,rfl⟩
  go_wp2_with fail
  refine (C24_20.out _).mono ?_
  rintro e wx ⟨rfl,rfl⟩
  go_wp2_with fail
  refine (C31_25.out _).mono ?_
  rintro e wx ⟨rfl,rfl⟩
  go_wp2_with fail
  refine (C31_20.out _).mono ?_
  rintro e wx ⟨rfl,rfl⟩
  go_wp2_with fail
  refine (S_at _ 12 4096 _ (by omega) (by omega) (by omega) (by rfl) (by omega)).mono ?_
  rintro e wx ⟨rfl,rfl⟩
  go_wp2_with fail
  refine (C6_0.out _).mono ?_
  rintro e wx ⟨rfl,rfl⟩
  go_wp2_with fail
  refine (WI.out _ _ _ _ _ (((f0.set 1 (.int .i64 (pc s 7 5:Nat))).set 2 (.int .i64 (pc s 15 5:Nat))).set 4 (.int .i64 (low (pc s 20 12:Nat) 12))).box).mono ?_
  rintro e w2 ⟨rfl,hb2,k2⟩
  have f1:=(((f0.set 1 (.int .i64 (pc s 7 5:Nat))).set 2 (.int .i64 (pc s 15 5:Nat))).set 4 (.int .i64 (low (pc s 20 12:Nat) 12))).turn k2 hb2
  clear b0 b1 b2 b3 b4 b5 b6 z
  obtain ⟨b0,b1,b2,b3,b4,b5,b6⟩:=f1.box.seven
  have z:=f1.box.free
  obtain ⟨q0,q1,q2,q3,q4,q5,q6⟩:=f1.res.seven
  have y:=f1.res.free
  go_wp2
  have g:=f1
  (try simp only [Exit.inBlock,Exit.then])
  refine bodyPost_ret (results_two rfl _ _ w.heap.size _ _ _ _ _ _ _ rfl (g.res.seven_set _ _ _ _ _ _ _)) rfl ⟨rfl,?_⟩
  exact g.kp.seven_set (Nat.le_refl _) _ _ _ _ _ _ _

set_option maxRecDepth 100000 in
theorem ref_imm19_3 (s:Nat) (w:World) (hs:s < 4294967296) (hc:pc s 0 7 = 19) (hf:pc s 12 3 = 1) (hu0:((pc s 26 6:Int) == 0) = false) :
    Calls Tryz.prog 50 #[.int .u32 s] w fun e w'=>e = .returned (.tuple #[.agg (I7 0 0 0 0 0 0 0),.bool false])∧Kp none w w':=by
  have f0:=FrR.start w (I7 0 0 0 0 0 0 4)
  have C11_7:=hid (fun w=>F_at s 11 7 5 w hs (by omega) (by omega) rfl)
  have B11_7:pc s 7 5 < 32:=pc_lt s 7 5
  have C14_12:=hid (fun w=>F_at s 14 12 3 w hs (by omega) (by omega) rfl)
  have B14_12:pc s 12 3 < 8:=pc_lt s 12 3
  have C19_15:=hid (fun w=>F_at s 19 15 5 w hs (by omega) (by omega) rfl)
  have B19_15:pc s 15 5 < 32:=pc_lt s 15 5
  have C24_20:=hid (fun w=>F_at s 24 20 5 w hs (by omega) (by omega) rfl)
  have B24_20:pc s 20 5 < 32:=pc_lt s 20 5
  have C31_25:=hid (fun w=>F_at s 31 25 7 w hs (by omega) (by omega) rfl)
  have B31_25:pc s 25 7 < 128:=pc_lt s 25 7
  have C31_20:=hid (fun w=>F_at s 31 20 12 w hs (by omega) (by omega) rfl)
  have B31_20:pc s 20 12 < 4096:=pc_lt s 20 12
  have C6_0:=hid (fun w=>F_at s 6 0 7 w hs (by omega) (by omega) rfl)
  rw [hc] at C6_0
  have B6_0:pc s 0 7 < 128:=pc_lt s 0 7
  rw [hf] at C14_12
  have WI:=hid (fun b rd r1 im w hb=>withImm19_3 s b rd r1 im w hs hc hu0 hb)
  clear hf hu0
  go_enter Tryz.func50,Tryz.ntmps50
  go_wp2_with fail
  refine (C11_7.out _).mono ?_
  rintro e wx ⟨rfl,rfl⟩
  generalize (w.alloc (.cells (I7 0 0 0 0 0 0 0) 47)).alloc (.cells (I7 0 0 0 0 0 0 4) 47) = w1 at f0 ⊢
  obtain ⟨b0,b1,b2,b3,b4,b5,b6⟩:=f0.box.seven
  have z:=f0.box.free
  go_wp2_with fail
  refine (C14_12.out _).mono ?_
  rintro e wx ⟨rfl,rfl⟩
  go_wp2_with fail
  refine (C19_15.out _).mono ?_
  rintro e wx ⟨rfl,rfl⟩
  go_wp2_with fail
  refine (C24_20.out _).mono ?_
  rintro e wx ⟨rfl,rfl⟩
  go_wp2_with fail
  refine (C31_25.out _).mono ?_
  rintro e wx ⟨rfl,rfl⟩
  go_wp2_with fail
  refine (C31_20.out _).mono ?_
  rintro e wx ⟨rfl,rfl⟩
  go_wp2_with fail
  refine (S_at _ 12 4096 _ (by omega) (by omega) (by omega) (by rfl) (by omega)).mono ?_
  rintro e wx ⟨rfl,rfl⟩
  go_wp2_with fail
  refine (C6_0.out _).mono ?_
  rintro e wx ⟨rfl,rfl⟩
  go_wp2_with fail
  refine (WI.out _ _ _ _ _ (((f0.set 1 (.int .i64 (pc s 7 5:Nat))).set 2 (.int .i64 (pc s 15 5:Nat))).set 4 (.int .i64 (low (pc s 20 12:Nat) 12))).box).mono ?_
  rintro e w2 ⟨rfl,hb2,k2⟩
  have f1:=(((f0.set 1 (.int .i64 (pc s 7 5:Nat))).set 2 (.int .i64 (pc s 15 5:Nat))).set 4 (.int .i64 (low (pc s 20 12:Nat) 12))).turn k2 hb2
  clear b0 b1 b2 b3 b4 b5 b6 z
  obtain ⟨b0,b1,b2,b3,b4,b5,b6⟩:=f1.box.seven
  have z:=f1.box.free
  obtain ⟨q0,q1,q2,q3,q4,q5,q6⟩:=f1.res.seven
  have y:=f1.res.free
  go_wp2
  have g:=f1
  (try simp only [Exit.inBlock,Exit.then])
  refine bodyPost_ret (results_two rfl _ _ w.heap.size _ _ _ _ _ _ _ rfl (g.res.seven_set _ _ _ _ _ _ _)) rfl ⟨rfl,?_⟩
  exact g.kp.seven_set (Nat.le_refl _) _ _ _ _ _ _ _

set_option maxRecDepth 100000 in
theorem ref_imm19_4 (s:Nat) (w:World) (hs:s < 4294967296) (hc:pc s 0 7 = 19) (hf:pc s 12 3 = 5) (hu0:((pc s 26 6:Int) == 0) = false) (hu16:((pc s 26 6:Int) == 16) = false) :
    Calls Tryz.prog 50 #[.int .u32 s] w fun e w'=>e = .returned (.tuple #[.agg (I7 0 0 0 0 0 0 0),.bool false])∧Kp none w w':=by
  have f0:=FrR.start w (I7 0 0 0 0 0 0 4)
  have C11_7:=hid (fun w=>F_at s 11 7 5 w hs (by omega) (by omega) rfl)
  have B11_7:pc s 7 5 < 32:=pc_lt s 7 5
  have C14_12:=hid (fun w=>F_at s 14 12 3 w hs (by omega) (by omega) rfl)
  have B14_12:pc s 12 3 < 8:=pc_lt s 12 3
  have C19_15:=hid (fun w=>F_at s 19 15 5 w hs (by omega) (by omega) rfl)
  have B19_15:pc s 15 5 < 32:=pc_lt s 15 5
  have C24_20:=hid (fun w=>F_at s 24 20 5 w hs (by omega) (by omega) rfl)
  have B24_20:pc s 20 5 < 32:=pc_lt s 20 5
  have C31_25:=hid (fun w=>F_at s 31 25 7 w hs (by omega) (by omega) rfl)
  have B31_25:pc s 25 7 < 128:=pc_lt s 25 7
  have C31_20:=hid (fun w=>F_at s 31 20 12 w hs (by omega) (by omega) rfl)
  have B31_20:pc s 20 12 < 4096:=pc_lt s 20 12
  have C6_0:=hid (fun w=>F_at s 6 0 7 w hs (by omega) (by omega) rfl)
  rw [hc] at C6_0
  have B6_0:pc s 0 7 < 128:=pc_lt s 0 7
  rw [hf] at C14_12
  have WI:=hid (fun b rd r1 im w hb=>withImm19_4 s b rd r1 im w hs hc hu0 hu16 hb)
  clear hf hu0 hu16
  go_enter Tryz.func50,Tryz.ntmps50
  go_wp2_with fail
  refine (C11_7.out _).mono ?_
  rintro e wx ⟨rfl,rfl⟩
  generalize (w.alloc (.cells (I7 0 0 0 0 0 0 0) 47)).alloc (.cells (I7 0 0 0 0 0 0 4) 47) = w1 at f0 ⊢
  obtain ⟨b0,b1,b2,b3,b4,b5,b6⟩:=f0.box.seven
  have z:=f0.box.free
  go_wp2_with fail
  refine (C14_12.out _).mono ?_
  rintro e wx ⟨rfl,rfl⟩
  go_wp2_with fail
  refine (C19_15.out _).mono ?_
  rintro e wx ⟨rfl,rfl⟩
  go_wp2_with fail
  refine (C24_20.out _).mono ?_
  rintro e wx ⟨rfl,rfl⟩
  go_wp2_with fail
  refine (C31_25.out _).mono ?_
  rintro e wx ⟨rfl,rfl⟩
  go_wp2_with fail
  refine (C31_20.out _).mono ?_
  rintro e wx ⟨rfl,rfl⟩
  go_wp2_with fail
  refine (S_at _ 12 4096 _ (by omega) (by omega) (by omega) (by rfl) (by omega)).mono ?_
  rintro e wx ⟨rfl,rfl⟩
  go_wp2_with fail
  refine (C6_0.out _).mono ?_
  rintro e wx ⟨rfl,rfl⟩
  go_wp2_with fail
  refine (WI.out _ _ _ _ _ (((f0.set 1 (.int .i64 (pc s 7 5:Nat))).set 2 (.int .i64 (pc s 15 5:Nat))).set 4 (.int .i64 (low (pc s 20 12:Nat) 12))).box).mono ?_
  rintro e w2 ⟨rfl,hb2,k2⟩
  have f1:=(((f0.set 1 (.int .i64 (pc s 7 5:Nat))).set 2 (.int .i64 (pc s 15 5:Nat))).set 4 (.int .i64 (low (pc s 20 12:Nat) 12))).turn k2 hb2
  clear b0 b1 b2 b3 b4 b5 b6 z
  obtain ⟨b0,b1,b2,b3,b4,b5,b6⟩:=f1.box.seven
  have z:=f1.box.free
  obtain ⟨q0,q1,q2,q3,q4,q5,q6⟩:=f1.res.seven
  have y:=f1.res.free
  go_wp2
  have g:=f1
  (try simp only [Exit.inBlock,Exit.then])
  refine bodyPost_ret (results_two rfl _ _ w.heap.size _ _ _ _ _ _ _ rfl (g.res.seven_set _ _ _ _ _ _ _)) rfl ⟨rfl,?_⟩
  exact g.kp.seven_set (Nat.le_refl _) _ _ _ _ _ _ _

set_option maxRecDepth 100000 in
theorem ref_imm27 (s:Nat) (w:World) (hs:s < 4294967296) (hc:pc s 0 7 = 27) (h1:((pc s 12 3:Int) == 1) = false) (h5:((pc s 12 3:Int) == 5) = false) (ho:(([41]:List Int).getD (pc s 12 3) 0 == 0) = false) :
    Calls Tryz.prog 50 #[.int .u32 s] w fun e w'=>e = .returned (.tuple #[.agg (I7 (([41]:List Int).getD (pc s 12 3) 0) (pc s 7 5:Nat) (pc s 15 5:Nat) 0 (low (pc s 20 12:Nat) 12) 0 4),.bool true])∧Kp none w w':=by
  have f0:=FrR.start w (I7 0 0 0 0 0 0 4)
  have C11_7:=hid (fun w=>F_at s 11 7 5 w hs (by omega) (by omega) rfl)
  have B11_7:pc s 7 5 < 32:=pc_lt s 7 5
  have C14_12:=hid (fun w=>F_at s 14 12 3 w hs (by omega) (by omega) rfl)
  have B14_12:pc s 12 3 < 8:=pc_lt s 12 3
  have C19_15:=hid (fun w=>F_at s 19 15 5 w hs (by omega) (by omega) rfl)
  have B19_15:pc s 15 5 < 32:=pc_lt s 15 5
  have C24_20:=hid (fun w=>F_at s 24 20 5 w hs (by omega) (by omega) rfl)
  have B24_20:pc s 20 5 < 32:=pc_lt s 20 5
  have C31_25:=hid (fun w=>F_at s 31 25 7 w hs (by omega) (by omega) rfl)
  have B31_25:pc s 25 7 < 128:=pc_lt s 25 7
  have C31_20:=hid (fun w=>F_at s 31 20 12 w hs (by omega) (by omega) rfl)
  have B31_20:pc s 20 12 < 4096:=pc_lt s 20 12
  have C6_0:=hid (fun w=>F_at s 6 0 7 w hs (by omega) (by omega) rfl)
  rw [hc] at C6_0
  have B6_0:pc s 0 7 < 128:=pc_lt s 0 7
  have WI:=hid (fun b rd r1 im w hb=>withImm27_plain s (pc s 12 3) b rd r1 im w hs hc h1 h5 hb)
  generalize ([41]:List Int).getD (pc s 12 3) 0 = o at *
  go_enter Tryz.func50,Tryz.ntmps50
  go_wp2_with fail
  refine (C11_7.out _).mono ?_
  rintro e wx ⟨rfl,rfl⟩
  generalize (w.alloc (.cells (I7 0 0 0 0 0 0 0) 47)).alloc (.cells (I7 0 0 0 0 0 0 4) 47) = w1 at f0 ⊢
  obtain ⟨b0,b1,b2,b3,b4,b5,b6⟩:=f0.box.seven
  have z:=f0.box.free
  go_wp2_with fail
  refine (C14_12.out _).mono ?_
  rintro e wx ⟨rfl,rfl⟩
  go_wp2_with fail
  refine (C19_15.out _).mono ?_
  rintro e wx ⟨rfl,rfl⟩
  go_wp2_with fail
  refine (C24_20.out _).mono ?_
  rintro e wx ⟨rfl,rfl⟩
  go_wp2_with fail
  refine (C31_25.out _).mono ?_
  rintro e wx ⟨rfl,rfl⟩
  go_wp2_with fail
  refine (C31_20.out _).mono ?_
  rintro e wx ⟨rfl,rfl⟩
  go_wp2_with fail
  refine (S_at _ 12 4096 _ (by omega) (by omega) (by omega) (by rfl) (by omega)).mono ?_
  rintro e wx ⟨rfl,rfl⟩
  go_wp2_with fail
  refine (C6_0.out _).mono ?_
  rintro e wx ⟨rfl,rfl⟩
  go_wp2_with fail
  refine (WI.out _ _ _ _ _ (((f0.set 1 (.int .i64 (pc s 7 5:Nat))).set 2 (.int .i64 (pc s 15 5:Nat))).set 4 (.int .i64 (low (pc s 20 12:Nat) 12))).box).mono ?_
  rintro e w2 ⟨rfl,hb2,k2⟩
  have f1:=(((f0.set 1 (.int .i64 (pc s 7 5:Nat))).set 2 (.int .i64 (pc s 15 5:Nat))).set 4 (.int .i64 (low (pc s 20 12:Nat) 12))).turn k2 hb2
  clear b0 b1 b2 b3 b4 b5 b6 z
  obtain ⟨b0,b1,b2,b3,b4,b5,b6⟩:=f1.box.seven
  have z:=f1.box.free
  obtain ⟨q0,q1,q2,q3,q4,q5,q6⟩:=f1.res.seven
  have y:=f1.res.free
  go_wp2
  have g:=f1
  (try simp only [Exit.inBlock,Exit.then])
  refine bodyPost_ret (results_two rfl _ _ w.heap.size _ _ _ _ _ _ _ rfl (g.res.seven_set _ _ _ _ _ _ _)) rfl ⟨rfl,?_⟩
  exact g.kp.seven_set (Nat.le_refl _) _ _ _ _ _ _ _

set_option maxRecDepth 100000 in
theorem ref_imm27_z (s:Nat) (w:World) (hs:s < 4294967296) (hc:pc s 0 7 = 27) (h1:((pc s 12 3:Int) == 1) = false) (h5:((pc s 12 3:Int) == 5) = false) (ho:([41]:List Int).getD (pc s 12 3) 0 = 0) :
    Calls Tryz.prog 50 #[.int .u32 s] w fun e w'=>e = .returned (.tuple #[.agg (I7 0 0 0 0 0 0 0),.bool false])∧Kp none w w':=by
  have f0:=FrR.start w (I7 0 0 0 0 0 0 4)
  have C11_7:=hid (fun w=>F_at s 11 7 5 w hs (by omega) (by omega) rfl)
  have B11_7:pc s 7 5 < 32:=pc_lt s 7 5
  have C14_12:=hid (fun w=>F_at s 14 12 3 w hs (by omega) (by omega) rfl)
  have B14_12:pc s 12 3 < 8:=pc_lt s 12 3
  have C19_15:=hid (fun w=>F_at s 19 15 5 w hs (by omega) (by omega) rfl)
  have B19_15:pc s 15 5 < 32:=pc_lt s 15 5
  have C24_20:=hid (fun w=>F_at s 24 20 5 w hs (by omega) (by omega) rfl)
  have B24_20:pc s 20 5 < 32:=pc_lt s 20 5
  have C31_25:=hid (fun w=>F_at s 31 25 7 w hs (by omega) (by omega) rfl)
  have B31_25:pc s 25 7 < 128:=pc_lt s 25 7
  have C31_20:=hid (fun w=>F_at s 31 20 12 w hs (by omega) (by omega) rfl)
  have B31_20:pc s 20 12 < 4096:=pc_lt s 20 12
  have C6_0:=hid (fun w=>F_at s 6 0 7 w hs (by omega) (by omega) rfl)
  rw [hc] at C6_0
  have B6_0:pc s 0 7 < 128:=pc_lt s 0 7
  have WI:=hid (fun b rd r1 im w hb=>withImm27_plain s (pc s 12 3) b rd r1 im w hs hc h1 h5 hb)
  generalize ([41]:List Int).getD (pc s 12 3) 0 = o at *
  subst ho
  go_enter Tryz.func50,Tryz.ntmps50
  go_wp2_with fail
  refine (C11_7.out _).mono ?_
  rintro e wx ⟨rfl,rfl⟩
  generalize (w.alloc (.cells (I7 0 0 0 0 0 0 0) 47)).alloc (.cells (I7 0 0 0 0 0 0 4) 47) = w1 at f0 ⊢
  obtain ⟨b0,b1,b2,b3,b4,b5,b6⟩:=f0.box.seven
  have z:=f0.box.free
  go_wp2_with fail
  refine (C14_12.out _).mono ?_
  rintro e wx ⟨rfl,rfl⟩
  go_wp2_with fail
  refine (C19_15.out _).mono ?_
  rintro e wx ⟨rfl,rfl⟩
  go_wp2_with fail
  refine (C24_20.out _).mono ?_
  rintro e wx ⟨rfl,rfl⟩
  go_wp2_with fail
  refine (C31_25.out _).mono ?_
  rintro e wx ⟨rfl,rfl⟩
  go_wp2_with fail
  refine (C31_20.out _).mono ?_
  rintro e wx ⟨rfl,rfl⟩
  go_wp2_with fail
  refine (S_at _ 12 4096 _ (by omega) (by omega) (by omega) (by rfl) (by omega)).mono ?_
  rintro e wx ⟨rfl,rfl⟩
  go_wp2_with fail
  refine (C6_0.out _).mono ?_
  rintro e wx ⟨rfl,rfl⟩
  go_wp2_with fail
  refine (WI.out _ _ _ _ _ (((f0.set 1 (.int .i64 (pc s 7 5:Nat))).set 2 (.int .i64 (pc s 15 5:Nat))).set 4 (.int .i64 (low (pc s 20 12:Nat) 12))).box).mono ?_
  rintro e w2 ⟨rfl,hb2,k2⟩
  have f1:=(((f0.set 1 (.int .i64 (pc s 7 5:Nat))).set 2 (.int .i64 (pc s 15 5:Nat))).set 4 (.int .i64 (low (pc s 20 12:Nat) 12))).turn k2 hb2
  clear b0 b1 b2 b3 b4 b5 b6 z
  obtain ⟨b0,b1,b2,b3,b4,b5,b6⟩:=f1.box.seven
  have z:=f1.box.free
  obtain ⟨q0,q1,q2,q3,q4,q5,q6⟩:=f1.res.seven
  have y:=f1.res.free
  go_wp2
  have g:=f1
  (try simp only [Exit.inBlock,Exit.then])
  refine bodyPost_ret (results_two rfl _ _ w.heap.size _ _ _ _ _ _ _ rfl (g.res.seven_set _ _ _ _ _ _ _)) rfl ⟨rfl,?_⟩
  exact g.kp.seven_set (Nat.le_refl _) _ _ _ _ _ _ _

set_option maxRecDepth 100000 in
theorem ref_imm27_0 (s:Nat) (w:World) (hs:s < 4294967296) (hc:pc s 0 7 = 27) (hf:pc s 12 3 = 1) (hu:pc s 25 7 = 0) :
    Calls Tryz.prog 50 #[.int .u32 s] w fun e w'=>e = .returned (.tuple #[.agg (I7 42 (pc s 7 5:Nat) (pc s 15 5:Nat) 0 (pc s 20 5:Nat) 0 4),.bool true])∧Kp none w w':=by
  have f0:=FrR.start w (I7 0 0 0 0 0 0 4)
  have C11_7:=hid (fun w=>F_at s 11 7 5 w hs (by omega) (by omega) rfl)
  have B11_7:pc s 7 5 < 32:=pc_lt s 7 5
  have C14_12:=hid (fun w=>F_at s 14 12 3 w hs (by omega) (by omega) rfl)
  have B14_12:pc s 12 3 < 8:=pc_lt s 12 3
  have C19_15:=hid (fun w=>F_at s 19 15 5 w hs (by omega) (by omega) rfl)
  have B19_15:pc s 15 5 < 32:=pc_lt s 15 5
  have C24_20:=hid (fun w=>F_at s 24 20 5 w hs (by omega) (by omega) rfl)
  have B24_20:pc s 20 5 < 32:=pc_lt s 20 5
  have C31_25:=hid (fun w=>F_at s 31 25 7 w hs (by omega) (by omega) rfl)
  have B31_25:pc s 25 7 < 128:=pc_lt s 25 7
  have C31_20:=hid (fun w=>F_at s 31 20 12 w hs (by omega) (by omega) rfl)
  have B31_20:pc s 20 12 < 4096:=pc_lt s 20 12
  have C6_0:=hid (fun w=>F_at s 6 0 7 w hs (by omega) (by omega) rfl)
  rw [hc] at C6_0
  have B6_0:pc s 0 7 < 128:=pc_lt s 0 7
  rw [hf] at C14_12
  have WI:=hid (fun b rd r1 im w hb=>withImm27_0 s b rd r1 im w hs hc hu hb)
  clear hf
  go_enter Tryz.func50,Tryz.ntmps50
  go_wp2_with fail
  refine (C11_7.out _).mono ?_
  rintro e wx ⟨rfl,rfl⟩
  generalize (w.alloc (.cells (I7 0 0 0 0 0 0 0) 47)).alloc (.cells (I7 0 0 0 0 0 0 4) 47) = w1 at f0 ⊢
  obtain ⟨b0,b1,b2,b3,b4,b5,b6⟩:=f0.box.seven
  have z:=f0.box.free
  go_wp2_with fail
  refine (C14_12.out _).mono ?_
  rintro e wx ⟨rfl,rfl⟩
  go_wp2_with fail
  refine (C19_15.out _).mono ?_
  rintro e wx ⟨rfl,rfl⟩
  go_wp2_with fail
  refine (C24_20.out _).mono ?_
  rintro e wx ⟨rfl,rfl⟩
  go_wp2_with fail
  refine (C31_25.out _).mono ?_
  rintro e wx ⟨rfl,rfl⟩
  go_wp2_with fail
  refine (C31_20.out _).mono ?_
  rintro e wx ⟨rfl,rfl⟩
  go_wp2_with fail
  refine (S_at _ 12 4096 _ (by omega) (by omega) (by omega) (by rfl) (by omega)).mono ?_
  rintro e wx ⟨rfl,rfl⟩
  go_wp2_with fail
  refine (C6_0.out _).mono ?_
  rintro e wx ⟨rfl,rfl⟩
  go_wp2_with fail
  refine (WI.out _ _ _ _ _ (((f0.set 1 (.int .i64 (pc s 7 5:Nat))).set 2 (.int .i64 (pc s 15 5:Nat))).set 4 (.int .i64 (low (pc s 20 12:Nat) 12))).box).mono ?_
  rintro e w2 ⟨rfl,hb2,k2⟩
  have f1:=(((f0.set 1 (.int .i64 (pc s 7 5:Nat))).set 2 (.int .i64 (pc s 15 5:Nat))).set 4 (.int .i64 (low (pc s 20 12:Nat) 12))).turn k2 hb2
  clear b0 b1 b2 b3 b4 b5 b6 z
  obtain ⟨b0,b1,b2,b3,b4,b5,b6⟩:=f1.box.seven
  have z:=f1.box.free
  obtain ⟨q0,q1,q2,q3,q4,q5,q6⟩:=f1.res.seven
  have y:=f1.res.free
  go_wp2
  have g:=f1
  (try simp only [Exit.inBlock,Exit.then])
  refine bodyPost_ret (results_two rfl _ _ w.heap.size _ _ _ _ _ _ _ rfl (g.res.seven_set _ _ _ _ _ _ _)) rfl ⟨rfl,?_⟩
  exact g.kp.seven_set (Nat.le_refl _) _ _ _ _ _ _ _

set_option maxRecDepth 100000 in
theorem ref_imm27_1 (s:Nat) (w:World) (hs:s < 4294967296) (hc:pc s 0 7 = 27) (hf:pc s 12 3 = 5) (hu:pc s 25 7 = 0) :
    Calls Tryz.prog 50 #[.int .u32 s] w fun e w'=>e = .returned (.tuple #[.agg (I7 43 (pc s 7 5:Nat) (pc s 15 5:Nat) 0 (pc s 20 5:Nat) 0 4),.bool true])∧Kp none w w':=by
  have f0:=FrR.start w (I7 0 0 0 0 0 0 4)
  have C11_7:=hid (fun w=>F_at s 11 7 5 w hs (by omega) (by omega) rfl)
  have B11_7:pc s 7 5 < 32:=pc_lt s 7 5
  have C14_12:=hid (fun w=>F_at s 14 12 3 w hs (by omega) (by omega) rfl)
  have B14_12:pc s 12 3 < 8:=pc_lt s 12 3
  have C19_15:=hid (fun w=>F_at s 19 15 5 w hs (by omega) (by omega) rfl)
  have B19_15:pc s 15 5 < 32:=pc_lt s 15 5
  have C24_20:=hid (fun w=>F_at s 24 20 5 w hs (by omega) (by omega) rfl)
  have B24_20:pc s 20 5 < 32:=pc_lt s 20 5
  have C31_25:=hid (fun w=>F_at s 31 25 7 w hs (by omega) (by omega) rfl)
  have B31_25:pc s 25 7 < 128:=pc_lt s 25 7
  have C31_20:=hid (fun w=>F_at s 31 20 12 w hs (by omega) (by omega) rfl)
  have B31_20:pc s 20 12 < 4096:=pc_lt s 20 12
  have C6_0:=hid (fun w=>F_at s 6 0 7 w hs (by omega) (by omega) rfl)
  rw [hc] at C6_0
  have B6_0:pc s 0 7 < 128:=pc_lt s 0 7
  rw [hf] at C14_12
  have WI:=hid (fun b rd r1 im w hb=>withImm27_1 s b rd r1 im w hs hc hu hb)
  clear hf
  go_enter Tryz.func50,Tryz.ntmps50
  go_wp2_with fail
  refine (C11_7.out _).mono ?_
  rintro e wx ⟨rfl,rfl⟩
  generalize (w.alloc (.cells (I7 0 0 0 0 0 0 0) 47)).alloc (.cells (I7 0 0 0 0 0 0 4) 47) = w1 at f0 ⊢
  obtain ⟨b0,b1,b2,b3,b4,b5,b6⟩:=f0.box.seven
  have z:=f0.box.free
  go_wp2_with fail
  refine (C14_12.out _).mono ?_
  rintro e wx ⟨rfl,rfl⟩
  go_wp2_with fail
  refine (C19_15.out _).mono ?_
  rintro e wx ⟨rfl,rfl⟩
  go_wp2_with fail
  refine (C24_20.out _).mono ?_
  rintro e wx ⟨rfl,rfl⟩
  go_wp2_with fail
  refine (C31_25.out _).mono ?_
  rintro e wx ⟨rfl,rfl⟩
  go_wp2_with fail
  refine (C31_20.out _).mono ?_
  rintro e wx ⟨rfl,rfl⟩
  go_wp2_with fail
  refine (S_at _ 12 4096 _ (by omega) (by omega) (by omega) (by rfl) (by omega)).mono ?_
  rintro e wx ⟨rfl,rfl⟩
  go_wp2_with fail
  refine (C6_0.out _).mono ?_
  rintro e wx ⟨rfl,rfl⟩
  go_wp2_with fail
  refine (WI.out _ _ _ _ _ (((f0.set 1 (.int .i64 (pc s 7 5:Nat))).set 2 (.int .i64 (pc s 15 5:Nat))).set 4 (.int .i64 (low (pc s 20 12:Nat) 12))).box).mono ?_
  rintro e w2 ⟨rfl,hb2,k2⟩
  have f1:=(((f0.set 1 (.int .i64 (pc s 7 5:Nat))).set 2 (.int .i64 (pc s 15 5:Nat))).set 4 (.int .i64 (low (pc s 20 12:Nat) 12))).turn k2 hb2
  clear b0 b1 b2 b3 b4 b5 b6 z
  obtain ⟨b0,b1,b2,b3,b4,b5,b6⟩:=f1.box.seven
  have z:=f1.box.free
  obtain ⟨q0,q1,q2,q3,q4,q5,q6⟩:=f1.res.seven
  have y:=f1.res.free
  go_wp2
  have g:=f1
  (try simp only [Exit.inBlock,Exit.then])
  refine bodyPost_ret (results_two rfl _ _ w.heap.size _ _ _ _ _ _ _ rfl (g.res.seven_set _ _ _ _ _ _ _)) rfl ⟨rfl,?_⟩
  exact g.kp.seven_set (Nat.le_refl _) _ _ _ _ _ _ _

set_option maxRecDepth 100000 in
theorem ref_imm27_2 (s:Nat) (w:World) (hs:s < 4294967296) (hc:pc s 0 7 = 27) (hf:pc s 12 3 = 5) (hu:pc s 25 7 = 32) :
    Calls Tryz.prog 50 #[.int .u32 s] w fun e w'=>e = .returned (.tuple #[.agg (I7 44 (pc s 7 5:Nat) (pc s 15 5:Nat) 0 (pc s 20 5:Nat) 0 4),.bool true])∧Kp none w w':=by
  have f0:=FrR.start w (I7 0 0 0 0 0 0 4)
  have C11_7:=hid (fun w=>F_at s 11 7 5 w hs (by omega) (by omega) rfl)
  have B11_7:pc s 7 5 < 32:=pc_lt s 7 5
  have C14_12:=hid (fun w=>F_at s 14 12 3 w hs (by omega) (by omega) rfl)
  have B14_12:pc s 12 3 < 8:=pc_lt s 12 3
  have C19_15:=hid (fun w=>F_at s 19 15 5 w hs (by omega) (by omega) rfl)
  have B19_15:pc s 15 5 < 32:=pc_lt s 15 5
  have C24_20:=hid (fun w=>F_at s 24 20 5 w hs (by omega) (by omega) rfl)
  have B24_20:pc s 20 5 < 32:=pc_lt s 20 5
  have C31_25:=hid (fun w=>F_at s 31 25 7 w hs (by omega) (by omega) rfl)
  have B31_25:pc s 25 7 < 128:=pc_lt s 25 7
  have C31_20:=hid (fun w=>F_at s 31 20 12 w hs (by omega) (by omega) rfl)
  have B31_20:pc s 20 12 < 4096:=pc_lt s 20 12
  have C6_0:=hid (fun w=>F_at s 6 0 7 w hs (by omega) (by omega) rfl)
  rw [hc] at C6_0
  have B6_0:pc s 0 7 < 128:=pc_lt s 0 7
  rw [hf] at C14_12
  have WI:=hid (fun b rd r1 im w hb=>withImm27_2 s b rd r1 im w hs hc hu hb)
  clear hf
  go_enter Tryz.func50,Tryz.ntmps50
  go_wp2_with fail
  refine (C11_7.out _).mono ?_
  rintro e wx ⟨rfl,rfl⟩
  generalize (w.alloc (.cells (I7 0 0 0 0 0 0 0) 47)).alloc (.cells (I7 0 0 0 0 0 0 4) 47) = w1 at f0 ⊢
  obtain ⟨b0,b1,b2,b3,b4,b5,b6⟩:=f0.box.seven
  have z:=f0.box.free
  go_wp2_with fail
  refine (C14_12.out _).mono ?_
  rintro e wx ⟨rfl,rfl⟩
  go_wp2_with fail
  refine (C19_15.out _).mono ?_
  rintro e wx ⟨rfl,rfl⟩
  go_wp2_with fail
  refine (C24_20.out _).mono ?_
  rintro e wx ⟨rfl,rfl⟩
  go_wp2_with fail
  refine (C31_25.out _).mono ?_
  rintro e wx ⟨rfl,rfl⟩
  go_wp2_with fail
  refine (C31_20.out _).mono ?_
  rintro e wx ⟨rfl,rfl⟩
  go_wp2_with fail
  refine (S_at _ 12 4096 _ (by omega) (by omega) (by omega) (by rfl) (by omega)).mono ?_
  rintro e wx ⟨rfl,rfl⟩
  go_wp2_with fail
  refine (C6_0.out _).mono ?_
  rintro e wx ⟨rfl,rfl⟩
  go_wp2_with fail
  refine (WI.out _ _ _ _ _ (((f0.set 1 (.int .i64 (pc s 7 5:Nat))).set 2 (.int .i64 (pc s 15 5:Nat))).set 4 (.int .i64 (low (pc s 20 12:Nat) 12))).box).mono ?_
  rintro e w2 ⟨rfl,hb2,k2⟩
  have f1:=(((f0.set 1 (.int .i64 (pc s 7 5:Nat))).set 2 (.int .i64 (pc s 15 5:Nat))).set 4 (.int .i64 (low (pc s 20 12:Nat) 12))).turn k2 hb2
  clear b0 b1 b2 b3 b4 b5 b6 z
  obtain ⟨b0,b1,b2,b3,b4,b5,b6⟩:=f1.box.seven
  have z:=f1.box.free
  obtain ⟨q0,q1,q2,q3,q4,q5,q6⟩:=f1.res.seven
  have y:=f1.res.free
  go_wp2
  have g:=f1
  (try simp only [Exit.inBlock,Exit.then])
  refine bodyPost_ret (results_two rfl _ _ w.heap.size _ _ _ _ _ _ _ rfl (g.res.seven_set _ _ _ _ _ _ _)) rfl ⟨rfl,?_⟩
  exact g.kp.seven_set (Nat.le_refl _) _ _ _ _ _ _ _

end Go.Proofs.YtbngjbmfkekdnaaGreatDoor.Tr
