/-
  Contracts of the reference's functions that write an instruction: sums and shifts with an immediate; atomic operators.
  The reference's Decode, a code each.
  The reference's Decode, a code each.
-/
import Derived.Test.YtbngjbmfkekdnaaGreatDoorT12
import Derived.Test.YtbngjbmfkekdnaaGreatDoorT19
import Derived.Lib.Hide
set_option linter.unusedVariables false
set_option linter.unusedSimpArgs false
set_option maxHeartbeats 16000000
open Go.Lib (hid)
namespace Go.Proofs.YtbngjbmfkekdnaaGreatDoor.Tr
open Go.RowKit
open Td
theorem one_new (zs:List Int) (k:Nat) (w0 w1:World) (hw:w1 = w0.alloc (.cells (zs.map (Value.int .i64)).toArray 3)) (hl:zs.length ≤ 100) :
    Calls Tryz.prog 87 #[.slice (some ⟨w0.heap.size,0,none⟩) zs.length zs.length,.int .i64 k] w1 fun e w'=>e = .returned (.int .i64 (zs.getD k 0))∧w1 = w':=by
  subst hw
  refine one_any _ zs zs.length zs.length k _ rfl hl (fun i hi=>?_)
  rw [(Has.new w0 _ 3).cell i]
  simp [List.getElem?_eq_getElem hi]

theorem withImm19_plain (s f b:Nat) (rd r1 im:Int) (w:World) (hs:s < 4294967296) (hc:pc s 0 7 = 19) (h1:((f:Int) == 1) = false) (h5:((f:Int) == 5) = false) (hb:Has w b 47 (I7 0 rd r1 0 im 0 4)) :
    Calls Tryz.prog 88 #[.int .u32 s,.int .i64 f,.pointer (some ⟨b,0,none⟩)] w fun e w'=>e = .returned (.tuple #[])∧Has w' b 47 (I7 (([22,0,23,24,25,0,26,27]:List Int).getD f 0) rd r1 0 im 0 4)∧Kp (some b) w w':=by
  have FO:=hid (fun w=>F_any s 6 0 w hs (by omega) (by omega))
  have e0:pc s 0 (6 + 1 - 0) = 19:=hc
  rw [e0] at FO;clear e0 hc
  have K1:=(Kp.refl (some b) w).alloc #[.int .i64 22,.int .i64 0,.int .i64 23,.int .i64 24,.int .i64 25,.int .i64 0,.int .i64 26,.int .i64 27] 3
  have hb1:=hb.alloc (.cells #[.int .i64 22,.int .i64 0,.int .i64 23,.int .i64 24,.int .i64 25,.int .i64 0,.int .i64 26,.int .i64 27] 3)
  have HO:=hid (fun w1 hw=>one_new [22,0,23,24,25,0,26,27] f w w1 hw (by decide))
  generalize ([22,0,23,24,25,0,26,27]:List Int).getD f 0 = o at *
  go_enter Tryz.func88,Tryz.ntmps88
  go_wp2_with fail
  refine (FO.out _).mono ?_
  rintro e w1 ⟨rfl,rfl⟩
  go_wp2_with fail
  refine (HO.out _ (by rfl)).mono ?_
  rintro e w1 ⟨rfl,rfl⟩
  clear FO
  generalize w.alloc (.cells #[.int .i64 22,.int .i64 0,.int .i64 23,.int .i64 24,.int .i64 25,.int .i64 0,.int .i64 26,.int .i64 27] 3) = w1 at K1 hb1 ⊢
  obtain ⟨b0,b1,b2,b3,b4,b5,b6⟩:=hb1.seven
  have z:=hb1.free
  go_wp2
  first | go_end0 | ((try simp only [Exit.inBlock,Exit.then]);refine bodyPost_ret (results_none rfl _ _ _) rfl ?_)
  exact ⟨rfl,hb1.set 0 _,K1.setCell (Or.inr rfl) _⟩

theorem withImm19_0 (s b:Nat) (rd r1 im:Int) (w:World) (hs:s < 4294967296) (hc:pc s 0 7 = 19) (hu:pc s 26 6 = 0) (hb:Has w b 47 (I7 0 rd r1 0 im 0 4)) :
    Calls Tryz.prog 88 #[.int .u32 s,.int .i64 1,.pointer (some ⟨b,0,none⟩)] w fun e w'=>e = .returned (.tuple #[])∧Has w' b 47 (I7 28 rd r1 0 (pc s 20 6:Nat) 0 4)∧Kp (some b) w w':=by
  have FI:=hid (fun w=>F_any s 25 20 w hs (by omega) (by omega))
  have FU:=hid (fun w=>F_any s 31 26 w hs (by omega) (by omega))
  have e2:pc s 20 (25 + 1 - 20) = pc s 20 6:=rfl
  rw [e2] at FI;clear e2
  have e1:pc s 26 (31 + 1 - 26) = 0:=hu
  rw [e1] at FU;clear e1 hu
  generalize pc s 20 6 = p at *
  have FO:=hid (fun w=>F_any s 6 0 w hs (by omega) (by omega))
  have e0:pc s 0 (6 + 1 - 0) = 19:=hc
  rw [e0] at FO;clear e0 hc
  have K1:=(Kp.refl (some b) w).alloc #[.int .i64 22,.int .i64 0,.int .i64 23,.int .i64 24,.int .i64 25,.int .i64 0,.int .i64 26,.int .i64 27] 3
  have hb1:=hb.alloc (.cells #[.int .i64 22,.int .i64 0,.int .i64 23,.int .i64 24,.int .i64 25,.int .i64 0,.int .i64 26,.int .i64 27] 3)
  go_enter Tryz.func88,Tryz.ntmps88
  go_wp2_with fail
  refine (FO.out _).mono ?_
  rintro e w1 ⟨rfl,rfl⟩
  go_wp2_with fail
  refine (one_new [22,0,23,24,25,0,26,27] 1 w _ (by rfl) (by decide)).mono ?_
  rintro e w1 ⟨rfl,rfl⟩
  clear FO
  generalize w.alloc (.cells #[.int .i64 22,.int .i64 0,.int .i64 23,.int .i64 24,.int .i64 25,.int .i64 0,.int .i64 26,.int .i64 27] 3) = w1 at K1 hb1 ⊢
  obtain ⟨b0,b1,b2,b3,b4,b5,b6⟩:=hb1.seven
  have z:=hb1.free
  go_wp2_with fail
  refine (FI.out _).mono ?_
  rintro e w2 ⟨rfl,rfl⟩
  go_wp2_with fail
  refine (FU.out _).mono ?_
  rintro e w2 ⟨rfl,rfl⟩
  go_wp2
  first | go_end0 | ((try simp only [Exit.inBlock,Exit.then]);refine bodyPost_ret (results_none rfl _ _ _) rfl ?_)
  exact ⟨rfl,(((hb1.set 0 _).set 4 _).set 0 _),(((K1.setCell (p:=⟨b,0,none⟩) (Or.inr rfl) _).setCell (p:=⟨b,4,none⟩) (Or.inr rfl) _).setCell (p:=⟨b,0,none⟩) (Or.inr rfl) _)⟩

theorem withImm19_1 (s b:Nat) (rd r1 im:Int) (w:World) (hs:s < 4294967296) (hc:pc s 0 7 = 19) (hu:pc s 26 6 = 0) (hb:Has w b 47 (I7 0 rd r1 0 im 0 4)) :
    Calls Tryz.prog 88 #[.int .u32 s,.int .i64 5,.pointer (some ⟨b,0,none⟩)] w fun e w'=>e = .returned (.tuple #[])∧Has w' b 47 (I7 29 rd r1 0 (pc s 20 6:Nat) 0 4)∧Kp (some b) w w':=by
  have FI:=hid (fun w=>F_any s 25 20 w hs (by omega) (by omega))
  have FU:=hid (fun w=>F_any s 31 26 w hs (by omega) (by omega))
  have e2:pc s 20 (25 + 1 - 20) = pc s 20 6:=rfl
  rw [e2] at FI;clear e2
  have e1:pc s 26 (31 + 1 - 26) = 0:=hu
  rw [e1] at FU;clear e1 hu
  generalize pc s 20 6 = p at *
  have FO:=hid (fun w=>F_any s 6 0 w hs (by omega) (by omega))
  have e0:pc s 0 (6 + 1 - 0) = 19:=hc
  rw [e0] at FO;clear e0 hc
  have K1:=(Kp.refl (some b) w).alloc #[.int .i64 22,.int .i64 0,.int .i64 23,.int .i64 24,.int .i64 25,.int .i64 0,.int .i64 26,.int .i64 27] 3
  have hb1:=hb.alloc (.cells #[.int .i64 22,.int .i64 0,.int .i64 23,.int .i64 24,.int .i64 25,.int .i64 0,.int .i64 26,.int .i64 27] 3)
  go_enter Tryz.func88,Tryz.ntmps88
  go_wp2_with fail
  refine (FO.out _).mono ?_
  rintro e w1 ⟨rfl,rfl⟩
  go_wp2_with fail
  refine (one_new [22,0,23,24,25,0,26,27] 5 w _ (by rfl) (by decide)).mono ?_
  rintro e w1 ⟨rfl,rfl⟩
  clear FO
  generalize w.alloc (.cells #[.int .i64 22,.int .i64 0,.int .i64 23,.int .i64 24,.int .i64 25,.int .i64 0,.int .i64 26,.int .i64 27] 3) = w1 at K1 hb1 ⊢
  obtain ⟨b0,b1,b2,b3,b4,b5,b6⟩:=hb1.seven
  have z:=hb1.free
  go_wp2_with fail
  refine (FI.out _).mono ?_
  rintro e w2 ⟨rfl,rfl⟩
  go_wp2_with fail
  refine (FU.out _).mono ?_
  rintro e w2 ⟨rfl,rfl⟩
  go_wp2
  first | go_end0 | ((try simp only [Exit.inBlock,Exit.then]);refine bodyPost_ret (results_none rfl _ _ _) rfl ?_)
  exact ⟨rfl,(((hb1.set 0 _).set 4 _).set 0 _),(((K1.setCell (p:=⟨b,0,none⟩) (Or.inr rfl) _).setCell (p:=⟨b,4,none⟩) (Or.inr rfl) _).setCell (p:=⟨b,0,none⟩) (Or.inr rfl) _)⟩

theorem withImm19_2 (s b:Nat) (rd r1 im:Int) (w:World) (hs:s < 4294967296) (hc:pc s 0 7 = 19) (hu:pc s 26 6 = 16) (hb:Has w b 47 (I7 0 rd r1 0 im 0 4)) :
    Calls Tryz.prog 88 #[.int .u32 s,.int .i64 5,.pointer (some ⟨b,0,none⟩)] w fun e w'=>e = .returned (.tuple #[])∧Has w' b 47 (I7 30 rd r1 0 (pc s 20 6:Nat) 0 4)∧Kp (some b) w w':=by
  have FI:=hid (fun w=>F_any s 25 20 w hs (by omega) (by omega))
  have FU:=hid (fun w=>F_any s 31 26 w hs (by omega) (by omega))
  have e2:pc s 20 (25 + 1 - 20) = pc s 20 6:=rfl
  rw [e2] at FI;clear e2
  have e1:pc s 26 (31 + 1 - 26) = 16:=hu
  rw [e1] at FU;clear e1 hu
  generalize pc s 20 6 = p at *
  have FO:=hid (fun w=>F_any s 6 0 w hs (by omega) (by omega))
  have e0:pc s 0 (6 + 1 - 0) = 19:=hc
  rw [e0] at FO;clear e0 hc
  have K1:=(Kp.refl (some b) w).alloc #[.int .i64 22,.int .i64 0,.int .i64 23,.int .i64 24,.int .i64 25,.int .i64 0,.int .i64 26,.int .i64 27] 3
  have hb1:=hb.alloc (.cells #[.int .i64 22,.int .i64 0,.int .i64 23,.int .i64 24,.int .i64 25,.int .i64 0,.int .i64 26,.int .i64 27] 3)
  go_enter Tryz.func88,Tryz.ntmps88
  go_wp2_with fail
  refine (FO.out _).mono ?_
  rintro e w1 ⟨rfl,rfl⟩
  go_wp2_with fail
  refine (one_new [22,0,23,24,25,0,26,27] 5 w _ (by rfl) (by decide)).mono ?_
  rintro e w1 ⟨rfl,rfl⟩
  clear FO
  generalize w.alloc (.cells #[.int .i64 22,.int .i64 0,.int .i64 23,.int .i64 24,.int .i64 25,.int .i64 0,.int .i64 26,.int .i64 27] 3) = w1 at K1 hb1 ⊢
  obtain ⟨b0,b1,b2,b3,b4,b5,b6⟩:=hb1.seven
  have z:=hb1.free
  go_wp2_with fail
  refine (FI.out _).mono ?_
  rintro e w2 ⟨rfl,rfl⟩
  go_wp2_with fail
  refine (FU.out _).mono ?_
  rintro e w2 ⟨rfl,rfl⟩
  go_wp2
  first | go_end0 | ((try simp only [Exit.inBlock,Exit.then]);refine bodyPost_ret (results_none rfl _ _ _) rfl ?_)
  exact ⟨rfl,(((hb1.set 0 _).set 4 _).set 0 _),(((K1.setCell (p:=⟨b,0,none⟩) (Or.inr rfl) _).setCell (p:=⟨b,4,none⟩) (Or.inr rfl) _).setCell (p:=⟨b,0,none⟩) (Or.inr rfl) _)⟩

theorem withImm19_3 (s b:Nat) (rd r1 im:Int) (w:World) (hs:s < 4294967296) (hc:pc s 0 7 = 19) (hu0:((pc s 26 6:Int) == 0) = false) (hb:Has w b 47 (I7 0 rd r1 0 im 0 4)) :
    Calls Tryz.prog 88 #[.int .u32 s,.int .i64 1,.pointer (some ⟨b,0,none⟩)] w fun e w'=>e = .returned (.tuple #[])∧Has w' b 47 (I7 0 rd r1 0 (pc s 20 6:Nat) 0 4)∧Kp (some b) w w':=by
  have FI:=hid (fun w=>F_any s 25 20 w hs (by omega) (by omega))
  have FU:=hid (fun w=>F_any s 31 26 w hs (by omega) (by omega))
  have e2:pc s 20 (25 + 1 - 20) = pc s 20 6:=rfl
  rw [e2] at FI;clear e2
  have e1:pc s 26 (31 + 1 - 26) = pc s 26 6:=rfl
  rw [e1] at FU;clear e1
  generalize pc s 26 6 = u at *
  generalize pc s 20 6 = p at *
  have FO:=hid (fun w=>F_any s 6 0 w hs (by omega) (by omega))
  have e0:pc s 0 (6 + 1 - 0) = 19:=hc
  rw [e0] at FO;clear e0 hc
  have K1:=(Kp.refl (some b) w).alloc #[.int .i64 22,.int .i64 0,.int .i64 23,.int .i64 24,.int .i64 25,.int .i64 0,.int .i64 26,.int .i64 27] 3
  have hb1:=hb.alloc (.cells #[.int .i64 22,.int .i64 0,.int .i64 23,.int .i64 24,.int .i64 25,.int .i64 0,.int .i64 26,.int .i64 27] 3)
  go_enter Tryz.func88,Tryz.ntmps88
  go_wp2_with fail
  refine (FO.out _).mono ?_
  rintro e w1 ⟨rfl,rfl⟩
  go_wp2_with fail
  refine (one_new [22,0,23,24,25,0,26,27] 1 w _ (by rfl) (by decide)).mono ?_
  rintro e w1 ⟨rfl,rfl⟩
  clear FO
  generalize w.alloc (.cells #[.int .i64 22,.int .i64 0,.int .i64 23,.int .i64 24,.int .i64 25,.int .i64 0,.int .i64 26,.int .i64 27] 3) = w1 at K1 hb1 ⊢
  obtain ⟨b0,b1,b2,b3,b4,b5,b6⟩:=hb1.seven
  have z:=hb1.free
  go_wp2_with fail
  refine (FI.out _).mono ?_
  rintro e w2 ⟨rfl,rfl⟩
  go_wp2_with fail
  refine (FU.out _).mono ?_
  rintro e w2 ⟨rfl,rfl⟩
  go_wp2
  first | go_end0 | ((try simp only [Exit.inBlock,Exit.then]);refine bodyPost_ret (results_none rfl _ _ _) rfl ?_)
  exact ⟨rfl,((hb1.set 0 _).set 4 _),(((K1.setCell (p:=⟨b,0,none⟩) (Or.inr rfl) _).setCell (p:=⟨b,4,none⟩) (Or.inr rfl) _))⟩

theorem withImm19_4 (s b:Nat) (rd r1 im:Int) (w:World) (hs:s < 4294967296) (hc:pc s 0 7 = 19) (hu0:((pc s 26 6:Int) == 0) = false) (hu16:((pc s 26 6:Int) == 16) = false) (hb:Has w b 47 (I7 0 rd r1 0 im 0 4)) :
    Calls Tryz.prog 88 #[.int .u32 s,.int .i64 5,.pointer (some ⟨b,0,none⟩)] w fun e w'=>e = .returned (.tuple #[])∧Has w' b 47 (I7 0 rd r1 0 (pc s 20 6:Nat) 0 4)∧Kp (some b) w w':=by
  have FI:=hid (fun w=>F_any s 25 20 w hs (by omega) (by omega))
  have FU:=hid (fun w=>F_any s 31 26 w hs (by omega) (by omega))
  have e2:pc s 20 (25 + 1 - 20) = pc s 20 6:=rfl
  rw [e2] at FI;clear e2
  have e1:pc s 26 (31 + 1 - 26) = pc s 26 6:=rfl
  rw [e1] at FU;clear e1
  generalize pc s 26 6 = u at *
  generalize pc s 20 6 = p at *
  have FO:=hid (fun w=>F_any s 6 0 w hs (by omega) (by omega))
  have e0:pc s 0 (6 + 1 - 0) = 19:=hc
  rw [e0] at FO;clear e0 hc
  have K1:=(Kp.refl (some b) w).alloc #[.int .i64 22,.int .i64 0,.int .i64 23,.int .i64 24,.int .i64 25,.int .i64 0,.int .i64 26,.int .i64 27] 3
  have hb1:=hb.alloc (.cells #[.int .i64 22,.int .i64 0,.int .i64 23,.int .i64 24,.int .i64 25,.int .i64 0,.int .i64 26,.int .i64 27] 3)
  go_enter Tryz.func88,Tryz.ntmps88
  go_wp2_with fail
  refine (FO.out _).mono ?_
  rintro e w1 ⟨rfl,rfl⟩
  go_wp2_with fail
  refine (one_new [22,0,23,24,25,0,26,27] 5 w _ (by rfl) (by decide)).mono ?_
  rintro e w1 ⟨rfl,rfl⟩
  clear FO
  generalize w.alloc (.cells #[.int .i64 22,.int .i64 0,.int .i64 23,.int .i64 24,.int .i64 25,.int .i64 0,.int .i64 26,.int .i64 27] 3) = w1 at K1 hb1 ⊢
  obtain ⟨b0,b1,b2,b3,b4,b5,b6⟩:=hb1.seven
  have z:=hb1.free
  go_wp2_with fail
  refine (FI.out _).mono ?_
  rintro e w2 ⟨rfl,rfl⟩
  go_wp2_with fail
  refine (FU.out _).mono ?_
  rintro e w2 ⟨rfl,rfl⟩
  go_wp2
  first | go_end0 | ((try simp only [Exit.inBlock,Exit.then]);refine bodyPost_ret (results_none rfl _ _ _) rfl ?_)
  exact ⟨rfl,((hb1.set 0 _).set 4 _),(((K1.setCell (p:=⟨b,0,none⟩) (Or.inr rfl) _).setCell (p:=⟨b,4,none⟩) (Or.inr rfl) _))⟩

theorem withImm27_plain (s f b:Nat) (rd r1 im:Int) (w:World) (hs:s < 4294967296) (hc:pc s 0 7 = 27) (h1:((f:Int) == 1) = false) (h5:((f:Int) == 5) = false) (hb:Has w b 47 (I7 0 rd r1 0 im 0 4)) :
    Calls Tryz.prog 88 #[.int .u32 s,.int .i64 f,.pointer (some ⟨b,0,none⟩)] w fun e w'=>e = .returned (.tuple #[])∧Has w' b 47 (I7 (([41]:List Int).getD f 0) rd r1 0 im 0 4)∧Kp (some b) w w':=by
  have FO:=hid (fun w=>F_any s 6 0 w hs (by omega) (by omega))
  have e0:pc s 0 (6 + 1 - 0) = 27:=hc
  rw [e0] at FO;clear e0 hc
  have K1:=(Kp.refl (some b) w).alloc #[.int .i64 41] 3
  have hb1:=hb.alloc (.cells #[.int .i64 41] 3)
  have HO:=hid (fun w1 hw=>one_new [41] f w w1 hw (by decide))
  generalize ([41]:List Int).getD f 0 = o at *
  go_enter Tryz.func88,Tryz.ntmps88
  go_wp2_with fail
  refine (FO.out _).mono ?_
  rintro e w1 ⟨rfl,rfl⟩
  go_wp2_with fail
  refine (HO.out _ (by rfl)).mono ?_
  rintro e w1 ⟨rfl,rfl⟩
  clear FO
  generalize w.alloc (.cells #[.int .i64 41] 3) = w1 at K1 hb1 ⊢
  obtain ⟨b0,b1,b2,b3,b4,b5,b6⟩:=hb1.seven
  have z:=hb1.free
  go_wp2
  first | go_end0 | ((try simp only [Exit.inBlock,Exit.then]);refine bodyPost_ret (results_none rfl _ _ _) rfl ?_)
  exact ⟨rfl,hb1.set 0 _,K1.setCell (Or.inr rfl) _⟩

theorem withImm27_0 (s b:Nat) (rd r1 im:Int) (w:World) (hs:s < 4294967296) (hc:pc s 0 7 = 27) (hu:pc s 25 7 = 0) (hb:Has w b 47 (I7 0 rd r1 0 im 0 4)) :
    Calls Tryz.prog 88 #[.int .u32 s,.int .i64 1,.pointer (some ⟨b,0,none⟩)] w fun e w'=>e = .returned (.tuple #[])∧Has w' b 47 (I7 42 rd r1 0 (pc s 20 5:Nat) 0 4)∧Kp (some b) w w':=by
  have FI:=hid (fun w=>F_any s 24 20 w hs (by omega) (by omega))
  have FU:=hid (fun w=>F_any s 31 25 w hs (by omega) (by omega))
  have e2:pc s 20 (24 + 1 - 20) = pc s 20 5:=rfl
  rw [e2] at FI;clear e2
  have e1:pc s 25 (31 + 1 - 25) = 0:=hu
  rw [e1] at FU;clear e1 hu
  generalize pc s 20 5 = p at *
  have FO:=hid (fun w=>F_any s 6 0 w hs (by omega) (by omega))
  have e0:pc s 0 (6 + 1 - 0) = 27:=hc
  rw [e0] at FO;clear e0 hc
  have K1:=(Kp.refl (some b) w).alloc #[.int .i64 41] 3
  have hb1:=hb.alloc (.cells #[.int .i64 41] 3)
  go_enter Tryz.func88,Tryz.ntmps88
  go_wp2_with fail
  refine (FO.out _).mono ?_
  rintro e w1 ⟨rfl,rfl⟩
  go_wp2_with fail
  refine (one_new [41] 1 w _ (by rfl) (by decide)).mono ?_
  rintro e w1 ⟨rfl,rfl⟩
  clear FO
  generalize w.alloc (.cells #[.int .i64 41] 3) = w1 at K1 hb1 ⊢
  obtain ⟨b0,b1,b2,b3,b4,b5,b6⟩:=hb1.seven
  have z:=hb1.free
  go_wp2_with fail
  refine (FI.out _).mono ?_
  rintro e w2 ⟨rfl,rfl⟩
  go_wp2_with fail
  refine (FU.out _).mono ?_
  rintro e w2 ⟨rfl,rfl⟩
  go_wp2
  first | go_end0 | ((try simp only [Exit.inBlock,Exit.then]);refine bodyPost_ret (results_none rfl _ _ _) rfl ?_)
  exact ⟨rfl,(((hb1.set 0 _).set 4 _).set 0 _),(((K1.setCell (p:=⟨b,0,none⟩) (Or.inr rfl) _).setCell (p:=⟨b,4,none⟩) (Or.inr rfl) _).setCell (p:=⟨b,0,none⟩) (Or.inr rfl) _)⟩

theorem withImm27_1 (s b:Nat) (rd r1 im:Int) (w:World) (hs:s < 4294967296) (hc:pc s 0 7 = 27) (hu:pc s 25 7 = 0) (hb:Has w b 47 (I7 0 rd r1 0 im 0 4)) :
    Calls Tryz.prog 88 #[.int .u32 s,.int .i64 5,.pointer (some ⟨b,0,none⟩)] w fun e w'=>e = .returned (.tuple #[])∧Has w' b 47 (I7 43 rd r1 0 (pc s 20 5:Nat) 0 4)∧Kp (some b) w w':=by
  have FI:=hid (fun w=>F_any s 24 20 w hs (by omega) (by omega))
  have FU:=hid (fun w=>F_any s 31 25 w hs (by omega) (by omega))
  have e2:pc s 20 (24 + 1 - 20) = pc s 20 5:=rfl
  rw [e2] at FI;clear e2
  have e1:pc s 25 (31 + 1 - 25) = 0:=hu
  rw [e1] at FU;clear e1 hu
  generalize pc s 20 5 = p at *
  have FO:=hid (fun w=>F_any s 6 0 w hs (by omega) (by omega))
  have e0:pc s 0 (6 + 1 - 0) = 27:=hc
  rw [e0] at FO;clear e0 hc
  have K1:=(Kp.refl (some b) w).alloc #[.int .i64 41] 3
  have hb1:=hb.alloc (.cells #[.int .i64 41] 3)
  go_enter Tryz.func88,Tryz.ntmps88
  go_wp2_with fail
  refine (FO.out _).mono ?_
  rintro e w1 ⟨rfl,rfl⟩
  go_wp2_with fail
  refine (one_new [41] 5 w _ (by rfl) (by decide)).mono ?_
  rintro e w1 ⟨rfl,rfl⟩
  clear FO
  generalize w.alloc (.cells #[.int .i64 41] 3) = w1 at K1 hb1 ⊢
  obtain ⟨b0,b1,b2,b3,b4,b5,b6⟩:=hb1.seven
  have z:=hb1.free
  go_wp2_with fail
  refine (FI.out _).mono ?_
  rintro e w2 ⟨rfl,rfl⟩
  go_wp2_with fail
  refine (FU.out _).mono ?_
  rintro e w2 ⟨rfl,rfl⟩
  go_wp2
  first | go_end0 | ((try simp only [Exit.inBlock,Exit.then]);refine bodyPost_ret (results_none rfl _ _ _) rfl ?_)
  exact ⟨rfl,(((hb1.set 0 _).set 4 _).set 0 _),(((K1.setCell (p:=⟨b,0,none⟩) (Or.inr rfl) _).setCell (p:=⟨b,4,none⟩) (Or.inr rfl) _).setCell (p:=⟨b,0,none⟩) (Or.inr rfl) _)⟩

theorem withImm27_2 (s b:Nat) (rd r1 im:Int) (w:World) (hs:s < 4294967296) (hc:pc s 0 7 = 27) (hu:pc s 25 7 = 32) (hb:Has w b 47 (I7 0 rd r1 0 im 0 4)) :
    Calls Tryz.prog 88 #[.int .u32 s,.int .i64 5,.pointer (some ⟨b,0,none⟩)] w fun e w'=>e = .returned (.tuple #[])∧Has w' b 47 (I7 44 rd r1 0 (pc s 20 5:Nat) 0 4)∧Kp (some b) w w':=by
  have FI:=hid (fun w=>F_any s 24 20 w hs (by omega) (by omega))
  have FU:=hid (fun w=>F_any s 31 25 w hs (by omega) (by omega))
  have e2:pc s 20 (24 + 1 - 20) = pc s 20 5:=rfl
  rw [e2] at FI;clear e2
  have e1:pc s 25 (31 + 1 - 25) = 32:=hu
  rw [e1] at FU;clear e1 hu
  generalize pc s 20 5 = p at *
  have FO:=hid (fun w=>F_any s 6 0 w hs (by omega) (by omega))
  have e0:pc s 0 (6 + 1 - 0) = 27:=hc
  rw [e0] at FO;clear e0 hc
  have K1:=(Kp.refl (some b) w).alloc #[.int .i64 41] 3
  have hb1:=hb.alloc (.cells #[.int .i64 41] 3)
  go_enter Tryz.func88,Tryz.ntmps88
  go_wp2_with fail
  refine (FO.out _).mono ?_
  rintro e w1 ⟨rfl,rfl⟩
  go_wp2_with fail
  refine (one_new [41] 5 w _ (by rfl) (by decide)).mono ?_
  rintro e w1 ⟨rfl,rfl⟩
  clear FO
  generalize w.alloc (.cells #[.int .i64 41] 3) = w1 at K1 hb1 ⊢
  obtain ⟨b0,b1,b2,b3,b4,b5,b6⟩:=hb1.seven
  have z:=hb1.free
  go_wp2_with fail
  refine (FI.out _).mono ?_
  rintro e w2 ⟨rfl,rfl⟩
  go_wp2_with fail
  refine (FU.out _).mono ?_
  rintro e w2 ⟨rfl,rfl⟩
  go_wp2
  first | go_end0 | ((try simp only [Exit.inBlock,Exit.then]);refine bodyPost_ret (results_none rfl _ _ _) rfl ?_)
  exact ⟨rfl,(((hb1.set 0 _).set 4 _).set 0 _),(((K1.setCell (p:=⟨b,0,none⟩) (Or.inr rfl) _).setCell (p:=⟨b,4,none⟩) (Or.inr rfl) _).setCell (p:=⟨b,0,none⟩) (Or.inr rfl) _)⟩

theorem withImm27_3 (s b:Nat) (rd r1 im:Int) (w:World) (hs:s < 4294967296) (hc:pc s 0 7 = 27) (hu0:((pc s 25 7:Int) == 0) = false) (hb:Has w b 47 (I7 0 rd r1 0 im 0 4)) :
    Calls Tryz.prog 88 #[.int .u32 s,.int .i64 1,.pointer (some ⟨b,0,none⟩)] w fun e w'=>e = .returned (.tuple #[])∧Has w' b 47 (I7 0 rd r1 0 (pc s 20 5:Nat) 0 4)∧Kp (some b) w w':=by
  have FI:=hid (fun w=>F_any s 24 20 w hs (by omega) (by omega))
  have FU:=hid (fun w=>F_any s 31 25 w hs (by omega) (by omega))
  have e2:pc s 20 (24 + 1 - 20) = pc s 20 5:=rfl
  rw [e2] at FI;clear e2
  have e1:pc s 25 (31 + 1 - 25) = pc s 25 7:=rfl
  rw [e1] at FU;clear e1
  generalize pc s 25 7 = u at *
  generalize pc s 20 5 = p at *
  have FO:=hid (fun w=>F_any s 6 0 w hs (by omega) (by omega))
  have e0:pc s 0 (6 + 1 - 0) = 27:=hc
  rw [e0] at FO;clear e0 hc
  have K1:=(Kp.refl (some b) w).alloc #[.int .i64 41] 3
  have hb1:=hb.alloc (.cells #[.int .i64 41] 3)
  go_enter Tryz.func88,Tryz.ntmps88
  go_wp2_with fail
  refine (FO.out _).mono ?_
  rintro e w1 ⟨rfl,rfl⟩
  go_wp2_with fail
  refine (one_new [41] 1 w _ (by rfl) (by decide)).mono ?_
  rintro e w1 ⟨rfl,rfl⟩
  clear FO
  generalize w.alloc (.cells #[.int .i64 41] 3) = w1 at K1 hb1 ⊢
  obtain ⟨b0,b1,b2,b3,b4,b5,b6⟩:=hb1.seven
  have z:=hb1.free
  go_wp2_with fail
  refine (FI.out _).mono ?_
  rintro e w2 ⟨rfl,rfl⟩
  go_wp2_with fail
  refine (FU.out _).mono ?_
  rintro e w2 ⟨rfl,rfl⟩
  go_wp2
  first | go_end0 | ((try simp only [Exit.inBlock,Exit.then]);refine bodyPost_ret (results_none rfl _ _ _) rfl ?_)
  exact ⟨rfl,((hb1.set 0 _).set 4 _),(((K1.setCell (p:=⟨b,0,none⟩) (Or.inr rfl) _).setCell (p:=⟨b,4,none⟩) (Or.inr rfl) _))⟩

theorem withImm27_4 (s b:Nat) (rd r1 im:Int) (w:World) (hs:s < 4294967296) (hc:pc s 0 7 = 27) (hu0:((pc s 25 7:Int) == 0) = false) (hu32:((pc s 25 7:Int) == 32) = false) (hb:Has w b 47 (I7 0 rd r1 0 im 0 4)) :
    Calls Tryz.prog 88 #[.int .u32 s,.int .i64 5,.pointer (some ⟨b,0,none⟩)] w fun e w'=>e = .returned (.tuple #[])∧Has w' b 47 (I7 0 rd r1 0 (pc s 20 5:Nat) 0 4)∧Kp (some b) w w':=by
  have FI:=hid (fun w=>F_any s 24 20 w hs (by omega) (by omega))
  have FU:=hid (fun w=>F_any s 31 25 w hs (by omega) (by omega))
  have e2:pc s 20 (24 + 1 - 20) = pc s 20 5:=rfl
  rw [e2] at FI;clear e2
  have e1:pc s 25 (31 + 1 - 25) = pc s 25 7:=rfl
  rw [e1] at FU;clear e1
  generalize pc s 25 7 = u at *
  generalize pc s 20 5 = p at *
  have FO:=hid (fun w=>F_any s 6 0 w hs (by omega) (by omega))
  have e0:pc s 0 (6 + 1 - 0) = 27:=hc
  rw [e0] at FO;clear e0 hc
  have K1:=(Kp.refl (some b) w).alloc #[.int .i64 41] 3
  have hb1:=hb.alloc (.cells #[.int .i64 41] 3)
  go_enter Tryz.func88,Tryz.ntmps88
  go_wp2_with fail
  refine (FO.out _).mono ?_
  rintro e w1 ⟨rfl,rfl⟩
  go_wp2_with fail
  refine (one_new [41] 5 w _ (by rfl) (by decide)).mono ?_
  rintro e w1 ⟨rfl,rfl⟩
  clear FO
  generalize w.alloc (.cells #[.int .i64 41] 3) = w1 at K1 hb1 ⊢
  obtain ⟨b0,b1,b2,b3,b4,b5,b6⟩:=hb1.seven
  have z:=hb1.free
  go_wp2_with fail
  refine (FI.out _).mono ?_
  rintro e w2 ⟨rfl,rfl⟩
  go_wp2_with fail
  refine (FU.out _).mono ?_
  rintro e w2 ⟨rfl,rfl⟩
  go_wp2
  first | go_end0 | ((try simp only [Exit.inBlock,Exit.then]);refine bodyPost_ret (results_none rfl _ _ _) rfl ?_)
  exact ⟨rfl,((hb1.set 0 _).set 4 _),(((K1.setCell (p:=⟨b,0,none⟩) (Or.inr rfl) _).setCell (p:=⟨b,4,none⟩) (Or.inr rfl) _))⟩

def codesA:List Int:=[2,3,1,0,4,12,8,16,20,24,28]
def opU (f5 f3:Nat) (z:Bool):Nat → Int
  | 0=>0
  | k + 1=>if codesA.getD k 0 = f5∧¬ (k = 0∧z = true) then (if f3 = 2 then 63 + k else if f3 = 3 then 74 + k else opU f5 f3 z k) else opU f5 f3 z k

theorem refAtomic_any (f5 f3 b:Nat) (rd r1 r2 od:Int) (w:World) (h3:f3 < 8) (hb:Has w b 47 (I7 0 rd r1 r2 0 od 4)) :
    Calls Tryz.prog 89 #[.int .i64 f5,.int .i64 f3,.pointer (some ⟨b,0,none⟩)] w fun e w'=>e = .returned (.tuple #[])∧Has w' b 47 (I7 (opU f5 f3 (decide (r2 ≠ 0)) 11) rd r1 r2 0 od 4)∧Kp (some b) w w':=by
  have K1:=(Kp.refl (some b) w).alloc #[.int .i64 2,.int .i64 3,.int .i64 1,.int .i64 0,.int .i64 4,.int .i64 12,.int .i64 8,.int .i64 16,.int .i64 20,.int .i64 24,.int .i64 28] 3
  have hb1:=hb.alloc (.cells #[.int .i64 2,.int .i64 3,.int .i64 1,.int .i64 0,.int .i64 4,.int .i64 12,.int .i64 8,.int .i64 16,.int .i64 20,.int .i64 24,.int .i64 28] 3)
  have hs1:=Has.new w #[.int .i64 2,.int .i64 3,.int .i64 1,.int .i64 0,.int .i64 4,.int .i64 12,.int .i64 8,.int .i64 16,.int .i64 20,.int .i64 24,.int .i64 28] 3
  have hne:b ≠ w.heap.size:=Nat.ne_of_lt hb.lt
  go_enter Tryz.func89,Tryz.ntmps89
  go_wp2_with fail
  generalize w.alloc (.cells #[.int .i64 2,.int .i64 3,.int .i64 1,.int .i64 0,.int .i64 4,.int .i64 12,.int .i64 8,.int .i64 16,.int .i64 20,.int .i64 24,.int .i64 28] 3) = w1 at K1 hb1 hs1 ⊢
  have HK:=hid K1;have HB:=hid hb1;have HS:=hid hs1;clear K1 hb1 hs1
  go_loopw [7] (fun i wr=>∃ k:Nat,k ≤ 11∧i = .int .i64 k∧Has wr b 47 (I7 (opU f5 f3 (decide (r2 ≠ 0)) k) rd r1 r2 0 od 4)∧Kp (some b) w wr∧Has wr w.heap.size 3 #[.int .i64 2,.int .i64 3,.int .i64 1,.int .i64 0,.int .i64 4,.int .i64 12,.int .i64 8,.int .i64 16,.int .i64 20,.int .i64 24,.int .i64 28]) (fun i wr=>11 - (intOf i).toNat)
  case atStart=>exact ⟨0,by omega,rfl,HB.out,HK.out,HS.out⟩
  case round =>
    obtain ⟨k,hk,rfl,hbk,hKk,hSk⟩:=hrel
    by_cases hlt:k < 11
    · have hcd:wr.cell? ⟨w.heap.size,k,none⟩ = some (.int .i64 (codesA.getD k 0)):=by
        rw [hSk.cell k]
        have hh:k = 0 ∨ k = 1 ∨ k = 2 ∨ k = 3 ∨ k = 4 ∨ k = 5 ∨ k = 6 ∨ k = 7 ∨ k = 8 ∨ k = 9 ∨ k = 10:=by omega
        rcases hh with rfl | rfl | rfl | rfl | rfl | rfl | rfl | rfl | rfl | rfl | rfl <;> rfl
      have hsk:opU f5 f3 (decide (r2 ≠ 0)) (k + 1) = if codesA.getD k 0 = f5∧¬ (k = 0∧decide (r2 ≠ 0) = true) then (if f3 = 2 then (63:Int) + k else if f3 = 3 then (74:Int) + k else opU f5 f3 (decide (r2 ≠ 0)) k) else opU f5 f3 (decide (r2 ≠ 0)) k:=rfl
      have HU:=hid hsk;clear hsk
      obtain ⟨b0,b1,b2,b3,b4,b5,b6⟩:=hbk.seven
      have z:=hbk.free
      have HKk:=hid hKk;have HBk:=hid hbk;have HSk:=hid hSk;clear hKk hbk hSk
      have RND:∀ (x:Int),opU f5 f3 (decide (r2 ≠ 0)) (k + 1) = x → ∀ w2,Has w2 b 47 (I7 x rd r1 r2 0 od 4) → Kp (some b) w w2 → Has w2 w.heap.size 3 #[.int .i64 2,.int .i64 3,.int .i64 1,.int .i64 0,.int .i64 4,.int .i64 12,.int .i64 8,.int .i64 16,.int .i64 20,.int .i64 24,.int .i64 28] →
          ∃ k1:Nat,k1 ≤ 11∧Value.int .i64 ((k:Int) + 1) = .int .i64 k1∧Has w2 b 47 (I7 (opU f5 f3 (decide (r2 ≠ 0)) k1) rd r1 r2 0 od 4)∧Kp (some b) w w2∧Has w2 w.heap.size 3 #[.int .i64 2,.int .i64 3,.int .i64 1,.int .i64 0,.int .i64 4,.int .i64 12,.int .i64 8,.int .i64 16,.int .i64 20,.int .i64 24,.int .i64 28]:=
        fun x hx w2 a1 a2 a3=>⟨k + 1,by omega,rfl,by rw [hx];exact a1,a2,a3⟩
      have RN:=hid RND;clear RND
      have HNE:=hid hne
      generalize codesA.getD k 0 = c at *
      generalize opU f5 f3 (decide (r2 ≠ 0)) k = u at *
      by_cases hA:c = (f5:Int)
      · by_cases hB:k = 0∧r2 ≠ 0
        · have HX:Hid (opU f5 f3 (decide (r2 ≠ 0)) (k + 1) = u):=hid (by rw [HU.out,if_neg];intro h;exact h.2 ⟨hB.1,by simpa using hB.2⟩)
          obtain ⟨rfl,hr⟩:=hB
          have e1:(r2 != 0) = true:=by simpa using hr
          clear hr
          subst hA
          go_wp2
          go_roundw
          case rel=>exact RN.out _ HX.out _ HBk.out HKk.out HSk.out
          case measure=>simp [intOf] <;> omega
        · have hcond:c = (f5:Int)∧¬ (k = 0∧decide (r2 ≠ 0) = true):=⟨hA,fun h=>hB ⟨h.1,by simpa using h.2⟩⟩
          have hU2:=HU.out
          rw [if_pos hcond] at hU2
          clear hcond
          subst hA
          have e0:(r2 != 0 && (k:Int) == 0) = false:=by
            rcases Nat.eq_zero_or_pos k with h | h
            · have:r2 = 0:=by
                rcases Int.decEq r2 0 with h' | h'
                · exact absurd ⟨h,h'⟩ hB
                · exact h'
              simp [this]
            · have:((k:Int) == 0) = false:=by simp;omega
              simp [this]
          by_cases h2:f3 = 2
          · subst h2
            rw [if_pos rfl] at hU2
            have HX:=hid hU2;clear hU2
            rcases Nat.eq_zero_or_pos k with h0 | h0
            · subst h0
              have hr:r2 = 0:=by simpa using e0
              subst hr
              clear e0 hB
              go_wp2
              go_roundw
              case rel=>exact RN.out _ HX.out _ (HBk.out.set 0 _) (HKk.out.setCell (p:=⟨b,0,none⟩) (Or.inr rfl) _) (HSk.out.other (Ne.symm HNE.out) _)
              case measure=>simp [intOf] <;> omega
            · have e1:((k:Int) == 0) = false:=by simp;omega
              clear e0 hB
              go_wp2
              go_roundw
              case rel=>exact RN.out _ HX.out _ (HBk.out.set 0 _) (HKk.out.setCell (p:=⟨b,0,none⟩) (Or.inr rfl) _) (HSk.out.other (Ne.symm HNE.out) _)
              case measure=>simp [intOf] <;> omega
          · by_cases h3':f3 = 3
            · subst h3'
              rw [if_neg (by decide),if_pos rfl] at hU2
              have HX:=hid hU2;clear hU2 h2
              rcases Nat.eq_zero_or_pos k with h0 | h0
              · subst h0
                have hr:r2 = 0:=by simpa using e0
                subst hr
                clear e0 hB
                go_wp2
                go_roundw
                case rel=>exact RN.out _ HX.out _ (HBk.out.set 0 _) (HKk.out.setCell (p:=⟨b,0,none⟩) (Or.inr rfl) _) (HSk.out.other (Ne.symm HNE.out) _)
                case measure=>simp [intOf] <;> omega
              · have e1:((k:Int) == 0) = false:=by simp;omega
                clear e0 hB
                go_wp2
                go_roundw
                case rel=>exact RN.out _ HX.out _ (HBk.out.set 0 _) (HKk.out.setCell (p:=⟨b,0,none⟩) (Or.inr rfl) _) (HSk.out.other (Ne.symm HNE.out) _)
                case measure=>simp [intOf] <;> omega
            · rw [if_neg h2,if_neg h3'] at hU2
              have HX:=hid hU2;clear hU2
              have g2:((f3:Int) == 2) = false:=by simp;omega
              have g3:((f3:Int) == 3) = false:=by simp;omega
              clear h2 h3'
              rcases Nat.eq_zero_or_pos k with h0 | h0
              · subst h0
                have hr:r2 = 0:=by simpa using e0
                subst hr
                clear e0 hB
                go_wp2
                go_roundw
                case rel=>exact RN.out _ HX.out _ HBk.out HKk.out HSk.out
                case measure=>simp [intOf] <;> omega
              · have e1:((k:Int) == 0) = false:=by simp;omega
                clear e0 hB
                go_wp2
                go_roundw
                case rel=>exact RN.out _ HX.out _ HBk.out HKk.out HSk.out
                case measure=>simp [intOf] <;> omega
      · have HX:Hid (opU f5 f3 (decide (r2 ≠ 0)) (k + 1) = u):=hid (by rw [HU.out,if_neg];intro h;exact hA h.1)
        have e1:(c != (f5:Int)) = true:=by simpa using hA
        clear hA
        go_wp2
        go_roundw
        case rel=>exact RN.out _ HX.out _ HBk.out HKk.out HSk.out
        case measure=>simp [intOf] <;> omega
    · obtain rfl:k = 11:=by omega
      go_wp2
      go_end0
      exact ⟨rfl,hbk,hKk⟩
end Go.Proofs.YtbngjbmfkekdnaaGreatDoor.Tr

namespace Go.Proofs.YtbngjbmfkekdnaaGreatDoor.Tr
open Go.RowKit
open Td
theorem F_at (s hi lo m:Nat) (w:World) (hs:s < 4294967296) (h1:lo ≤ hi) (h2:hi ≤ 31) (hm:hi + 1 - lo = m) :
    Calls Tryz.prog 85 #[.int .u32 s,.int .i64 hi,.int .i64 lo] w fun e w'=>e = .returned (.int .i64 (pc s lo m))∧w = w':=by
  subst hm;exact F_any s hi lo w hs h1 h2
theorem S_at (n:Int) (b:Nat) (B:Int) (w:World) (h1:1 ≤ b) (h32:b ≤ 32) (h0:0 ≤ n) (hB:(2:Int) ^ b = B) (h2:n < B) :
    Calls Tryz.prog 86 #[.int .i64 n,.int .i64 b] w fun e w'=>e = .returned (.int .i64 (low n b))∧w = w':=S_any n b w h1 h32 h0 (by rw [hB];exact h2)
structure FrR (w:World) (cs:Array Value) (w1:World):Prop where
  kp:Kp none w w1
  res:Has w1 w.heap.size 47 (I7 0 0 0 0 0 0 0)
  box:Has w1 (w.heap.size + 1) 47 cs
theorem FrR.start (w:World) (cs:Array Value):FrR w cs ((w.alloc (.cells (I7 0 0 0 0 0 0 0) 47)).alloc (.cells cs 47)):=
  ⟨((Kp.refl _ _).alloc _ _).alloc _ _,(Has.new _ _ _).alloc _,by have:=Has.new (w.alloc (.cells (I7 0 0 0 0 0 0 0) 47)) cs 47;simpa using this⟩
theorem FrR.set {w w1:World} {cs:Array Value} (h:FrR w cs w1) (i:Nat) (u:Value):FrR w (cs.setIfInBounds i u) (w1.setCell ⟨w.heap.size + 1,i,none⟩ u):=
  ⟨h.kp.setCell (Or.inl (Nat.le_succ _)) _,h.res.other (by show w.heap.size ≠ w.heap.size + 1;omega) _,h.box.set i u⟩
theorem FrR.alloc {w w1:World} {cs:Array Value} (h:FrR w cs w1) (c:Array Value) (t:TypeId):FrR w cs (w1.alloc (.cells c t)):=⟨h.kp.alloc _ _,h.res.alloc _,h.box.alloc _⟩
theorem FrR.turn {w w1 w2:World} {cs ds:Array Value} (h:FrR w cs w1) (k:Kp (some (w.heap.size + 1)) w1 w2) (hb:Has w2 (w.heap.size + 1) 47 ds):FrR w ds w2:=
  ⟨h.kp.drop k (fun i hi=>by cases hi;omega),h.res.kp k (by simp),hb⟩
theorem mul4096 (n:Int) (h1:-524288 ≤ n) (h2:n < 524288):wrap64 (n * 4096) = n * 4096:=by unfold wrap64;omega
theorem mul2 (n:Int) (h1:-524288 ≤ n) (h2:n < 524288):wrap64 (n * 2) = n * 2:=by unfold wrap64;omega
theorem low20 (n:Int):-524288 ≤ low n 20∧low n 20 < 524288:=⟨by have:=low_lo n 20;simpa using this,by have:=low_hi n 20 (by omega);simpa using this⟩
theorem low12 (n:Int):-524288 ≤ low n 12∧low n 12 < 524288:=⟨by have:=low_lo n 12;simp at this;omega,by have:=low_hi n 12 (by omega);simp at this;omega⟩

set_option maxRecDepth 100000 in
theorem ref_lui (s:Nat) (w:World) (hs:s < 4294967296) (hc:pc s 0 7 = 55) :
    Calls Tryz.prog 50 #[.int .u32 s] w fun e w'=>e = .returned (.tuple #[.agg (I7 1 (pc s 7 5:Nat) 0 0 (low (pc s 12 20:Nat) 20 * 4096) 0 4),.bool true])∧Kp none w w':=by
  have f0:=FrR.start w (I7 0 0 0 0 0 0 4)
  have C11_7:=hid (fun w=>F_at s 11 7 5 w hs (by omega) (by omega) rfl)
  have B11_7:pc s 7 5 < 32:=pc_lt s 7 5
  have C14_12:=hid (fun w=>F_at s 14 12 3 w hs (by omega) (by omega) rfl)
  have B14_12:pc s 12 3 < 8:=pc_lt s 12 3
  have C19_15:=hid (fun w=>F_at s 19 15 5 w hs (by omega) (by omega) rfl)
  have B19_15:pc s 15 5 < 32:=pc_lt s 15 5
  have C24_20:=hid (fun w=>F_at s 24 20 5 w hs (by omega) (by omega) rfl)
  have B24_20:pc s 20 5 < 32:=pc_lt s 20 5
  have C31_25:=hid (fun w=>F_at s 31 25 7 w hs (by omega) (by omega) rfl)
  have B31_25:pc s 25 7 < 128:=pc_lt s 25 7
  have C31_20:=hid (fun w=>F_at s 31 20 12 w hs (by omega) (by omega) rfl)
  have B31_20:pc s 20 12 < 4096:=pc_lt s 20 12
  have C6_0:=hid (fun w=>F_at s 6 0 7 w hs (by omega) (by omega) rfl)
  rw [hc] at C6_0
  have B6_0:pc s 0 7 < 128:=pc_lt s 0 7
  have M:=mul4096 _ (low20 (pc s 12 20:Nat)).1 (low20 _).2
  have C31_12:=hid (fun w=>F_at s 31 12 20 w hs (by omega) (by omega) rfl)
  have B31_12:pc s 12 20 < 1048576:=pc_lt s 12 20
  go_enter Tryz.func50,Tryz.ntmps50
  go_wp2_with fail
  refine (C11_7.out _).mono ?_
  rintro e wx ⟨rfl,rfl⟩
  generalize (w.alloc (.cells (I7 0 0 0 0 0 0 0) 47)).alloc (.cells (I7 0 0 0 0 0 0 4) 47) = w1 at f0 ⊢
  obtain ⟨b0,b1,b2,b3,b4,b5,b6⟩:=f0.box.seven
  have z:=f0.box.free
  go_wp2_with fail
  refine (C14_12.out _).mono ?_
  rintro e wx ⟨rfl,rfl⟩
  go_wp2_with fail
  refine (C19_15.out _).mono ?_
  rintro e wx ⟨rfl,rfl⟩
  go_wp2_with fail
  refine (C24_20.out _).mono ?_
  rintro e wx ⟨rfl,rfl⟩
  go_wp2_with fail
  refine (C31_25.out _).mono ?_
  rintro e wx ⟨rfl,rfl⟩
  go_wp2_with fail
  refine (C31_20.out _).mono ?_
  rintro e wx ⟨rfl,rfl⟩
  go_wp2_with fail
  refine (S_at _ 12 4096 _ (by omega) (by omega) (by omega) (by rfl) (by omega)).mono ?_
  rintro e wx ⟨rfl,rfl⟩
  go_wp2_with fail
  refine (C6_0.out _).mono ?_
  rintro e wx ⟨rfl,rfl⟩
  go_wp2_with fail
  refine (C6_0.out _).mono ?_
  rintro e wx ⟨rfl,rfl⟩
  go_wp2_with fail
  refine (C31_12.out _).mono ?_
  rintro e wx ⟨rfl,rfl⟩
  go_wp2_with fail
  refine (S_at _ 20 1048576 _ (by omega) (by omega) (by omega) (by rfl) (by omega)).mono ?_
  rintro e wx ⟨rfl,rfl⟩
  obtain ⟨q0,q1,q2,q3,q4,q5,q6⟩:=f0.res.seven
  have y:=f0.res.free
  go_wp2
  have g:=(((f0.set 0 (.int .i64 1)).set 1 (.int .i64 (pc s 7 5:Nat))).set 4 (.int .i64 (low (pc s 12 20:Nat) 20 * 4096)))
  (try simp only [Exit.inBlock,Exit.then])
  refine bodyPost_ret (results_two rfl _ _ w.heap.size _ _ _ _ _ _ _ rfl (g.res.seven_set _ _ _ _ _ _ _)) rfl ⟨rfl,?_⟩
  exact g.kp.seven_set (Nat.le_refl _) _ _ _ _ _ _ _

set_option maxRecDepth 100000 in
theorem ref_jal (s:Nat) (w:World) (hs:s < 4294967296) (hc:pc s 0 7 = 111) :
    Calls Tryz.prog 50 #[.int .u32 s] w fun e w'=>e = .returned (.tuple #[.agg (I7 3 (pc s 7 5:Nat) 0 0 (low ((((pc s 31 1:Nat) * 256 + (pc s 12 8:Nat)) * 2 + (pc s 20 1:Nat)) * 1024 + (pc s 21 10:Nat):Int) 20 * 2) 0 4),.bool true])∧Kp none w w':=by
  have f0:=FrR.start w (I7 0 0 0 0 0 0 4)
  have C11_7:=hid (fun w=>F_at s 11 7 5 w hs (by omega) (by omega) rfl)
  have B11_7:pc s 7 5 < 32:=pc_lt s 7 5
  have C14_12:=hid (fun w=>F_at s 14 12 3 w hs (by omega) (by omega) rfl)
  have B14_12:pc s 12 3 < 8:=pc_lt s 12 3
  have C19_15:=hid (fun w=>F_at s 19 15 5 w hs (by omega) (by omega) rfl)
  have B19_15:pc s 15 5 < 32:=pc_lt s 15 5
  have C24_20:=hid (fun w=>F_at s 24 20 5 w hs (by omega) (by omega) rfl)
  have B24_20:pc s 20 5 < 32:=pc_lt s 20 5
  have C31_25:=hid (fun w=>F_at s 31 25 7 w hs (by omega) (by omega) rfl)
  have B31_25:pc s 25 7 < 128:=pc_lt s 25 7
  have C31_20:=hid (fun w=>F_at s 31 20 12 w hs (by omega) (by omega) rfl)
  have B31_20:pc s 20 12 < 4096:=pc_lt s 20 12
  have C6_0:=hid (fun w=>F_at s 6 0 7 w hs (by omega) (by omega) rfl)
  rw [hc] at C6_0
  have B6_0:pc s 0 7 < 128:=pc_lt s 0 7
  have M:=mul2 _ (low20 ((((pc s 31 1:Nat) * 256 + (pc s 12 8:Nat)) * 2 + (pc s 20 1:Nat)) * 1024 + (pc s 21 10:Nat):Int)).1 (low20 _).2
  have C31_31:=hid (fun w=>F_at s 31 31 1 w hs (by omega) (by omega) rfl)
  have B31_31:pc s 31 1 < 2:=pc_lt s 31 1
  have C19_12:=hid (fun w=>F_at s 19 12 8 w hs (by omega) (by omega) rfl)
  have B19_12:pc s 12 8 < 256:=pc_lt s 12 8
  have C20_20:=hid (fun w=>F_at s 20 20 1 w hs (by omega) (by omega) rfl)
  have B20_20:pc s 20 1 < 2:=pc_lt s 20 1
  have C30_21:=hid (fun w=>F_at s 30 21 10 w hs (by omega) (by omega) rfl)
  have B30_21:pc s 21 10 < 1024:=pc_lt s 21 10
  go_enter Tryz.func50,Tryz.ntmps50
  go_wp2_with fail
  refine (C11_7.out _).mono ?_
  rintro e wx ⟨rfl,rfl⟩
  generalize (w.alloc (.cells (I7 0 0 0 0 0 0 0) 47)).alloc (.cells (I7 0 0 0 0 0 0 4) 47) = w1 at f0 ⊢
  obtain ⟨b0,b1,b2,b3,b4,b5,b6⟩:=f0.box.seven
  have z:=f0.box.free
  go_wp2_with fail
  refine (C14_12.out _).mono ?_
  rintro e wx ⟨rfl,rfl⟩
  go_wp2_with fail
  refine (C19_15.out _).mono ?_
  rintro e wx ⟨rfl,rfl⟩
  go_wp2_with fail
  refine (C24_20.out _).mono ?_
  rintro e wx ⟨rfl,rfl⟩
  go_wp2_with fail
  refine (C31_25.out _).mono ?_
  rintro e wx ⟨rfl,rfl⟩
  go_wp2_with fail
  refine (C31_20.out _).mono ?_
  rintro e wx ⟨rfl,rfl⟩
  go_wp2_with fail
  refine (S_at _ 12 4096 _ (by omega) (by omega) (by omega) (by rfl) (by omega)).mono ?_
  rintro e wx ⟨rfl,rfl⟩
  go_wp2_with fail
  refine (C6_0.out _).mono ?_
  rintro e wx ⟨rfl,rfl⟩
  go_wp2_with fail
  refine (C31_31.out _).mono ?_
  rintro e wx ⟨rfl,rfl⟩
  go_wp2_with fail
  refine (C19_12.out _).mono ?_
  rintro e wx ⟨rfl,rfl⟩
  go_wp2_with fail
  refine (C20_20.out _).mono ?_
  rintro e wx ⟨rfl,rfl⟩
  go_wp2_with fail
  refine (C30_21.out _).mono ?_
  rintro e wx ⟨rfl,rfl⟩
  go_wp2_with fail
  refine (S_at _ 20 1048576 _ (by omega) (by omega) (by omega) (by rfl) (by omega)).mono ?_
  rintro e wx ⟨rfl,rfl⟩
  obtain ⟨q0,q1,q2,q3,q4,q5,q6⟩:=f0.res.seven
  have y:=f0.res.free
  go_wp2
  have g:=(((f0.set 0 (.int .i64 3)).set 1 (.int .i64 (pc s 7 5:Nat))).set 4 (.int .i64 (low ((((pc s 31 1:Nat) * 256 + (pc s 12 8:Nat)) * 2 + (pc s 20 1:Nat)) * 1024 + (pc s 21 10:Nat):Int) 20 * 2)))
  (try simp only [Exit.inBlock,Exit.then])
  refine bodyPost_ret (results_two rfl _ _ w.heap.size _ _ _ _ _ _ _ rfl (g.res.seven_set _ _ _ _ _ _ _)) rfl ⟨rfl,?_⟩
  exact g.kp.seven_set (Nat.le_refl _) _ _ _ _ _ _ _

set_option maxRecDepth 100000 in
theorem ref_load (s:Nat) (w:World) (hs:s < 4294967296) (hc:pc s 0 7 = 3) (ho:(([11,12,13,14,15,16,17]:List Int).getD (pc s 12 3) 0 == 0) = false) :
    Calls Tryz.prog 50 #[.int .u32 s] w fun e w'=>e = .returned (.tuple #[.agg (I7 (([11,12,13,14,15,16,17]:List Int).getD (pc s 12 3) 0) (pc s 7 5:Nat) (pc s 15 5:Nat) 0 (low (pc s 20 12:Nat) 12) 0 4),.bool true])∧Kp none w w':=by
  have f0:=FrR.start w (I7 0 0 0 0 0 0 4)
  have C11_7:=hid (fun w=>F_at s 11 7 5 w hs (by omega) (by omega) rfl)
  have B11_7:pc s 7 5 < 32:=pc_lt s 7 5
  have C14_12:=hid (fun w=>F_at s 14 12 3 w hs (by omega) (by omega) rfl)
  have B14_12:pc s 12 3 < 8:=pc_lt s 12 3
  have C19_15:=hid (fun w=>F_at s 19 15 5 w hs (by omega) (by omega) rfl)
  have B19_15:pc s 15 5 < 32:=pc_lt s 15 5
  have C24_20:=hid (fun w=>F_at s 24 20 5 w hs (by omega) (by omega) rfl)
  have B24_20:pc s 20 5 < 32:=pc_lt s 20 5
  have C31_25:=hid (fun w=>F_at s 31 25 7 w hs (by omega) (by omega) rfl)
  have B31_25:pc s 25 7 < 128:=pc_lt s 25 7
  have C31_20:=hid (fun w=>F_at s 31 20 12 w hs (by omega) (by omega) rfl)
  have B31_20:pc s 20 12 < 4096:=pc_lt s 20 12
  have C6_0:=hid (fun w=>F_at s 6 0 7 w hs (by omega) (by omega) rfl)
  rw [hc] at C6_0
  have B6_0:pc s 0 7 < 128:=pc_lt s 0 7
  have O_o:=hid (fun w0 w1 hw=>one_new [11,12,13,14,15,16,17] (pc s 12 3) w0 w1 hw (by decide))
  generalize ([11,12,13,14,15,16,17]:List Int).getD (pc s 12 3) 0 = o at *
  go_enter Tryz.func50,Tryz.ntmps50
  go_wp2_with fail
  refine (C11_7.out _).mono ?_
  rintro e wx ⟨rfl,rfl⟩
  generalize (w.alloc (.cells (I7 0 0 0 0 0 0 0) 47)).alloc (.cells (I7 0 0 0 0 0 0 4) 47) = w1 at f0 ⊢
  obtain ⟨b0,b1,b2,b3,b4,b5,b6⟩:=f0.box.seven
  have z:=f0.box.free
  go_wp2_with fail
  refine (C14_12.out _).mono ?_
  rintro e wx ⟨rfl,rfl⟩
  go_wp2_with fail
  refine (C19_15.out _).mono ?_
  rintro e wx ⟨rfl,rfl⟩
  go_wp2_with fail
  refine (C24_20.out _).mono ?_
  rintro e wx ⟨rfl,rfl⟩
  go_wp2_with fail
  refine (C31_25.out _).mono ?_
  rintro e wx ⟨rfl,rfl⟩
  go_wp2_with fail
  refine (C31_20.out _).mono ?_
  rintro e wx ⟨rfl,rfl⟩
  go_wp2_with fail
  refine (S_at _ 12 4096 _ (by omega) (by omega) (by omega) (by rfl) (by omega)).mono ?_
  rintro e wx ⟨rfl,rfl⟩
  go_wp2_with fail
  refine (C6_0.out _).mono ?_
  rintro e wx ⟨rfl,rfl⟩
  go_wp2_with fail
  refine (O_o.out w1 _ (by rfl)).mono ?_
  rintro e wx ⟨rfl,rfl⟩
  have f1:FrR w (I7 0 0 0 0 0 0 4) _:=f0.alloc #[.int .i64 11,.int .i64 12,.int .i64 13,.int .i64 14,.int .i64 15,.int .i64 16,.int .i64 17] 3
  generalize w1.alloc (.cells #[.int .i64 11,.int .i64 12,.int .i64 13,.int .i64 14,.int .i64 15,.int .i64 16,.int .i64 17] 3) = w2 at f1 ⊢
  clear b0 b1 b2 b3 b4 b5 b6 z
  obtain ⟨b0,b1,b2,b3,b4,b5,b6⟩:=f1.box.seven
  have z:=f1.box.free
  go_wp2_with fail
  refine (C6_0.out _).mono ?_
  rintro e wx ⟨rfl,rfl⟩
  obtain ⟨q0,q1,q2,q3,q4,q5,q6⟩:=f1.res.seven
  have y:=f1.res.free
  go_wp2
  have g:=((((f1.set 0 (.int .i64 o)).set 1 (.int .i64 (pc s 7 5:Nat))).set 2 (.int .i64 (pc s 15 5:Nat))).set 4 (.int .i64 (low (pc s 20 12:Nat) 12)))
  (try simp only [Exit.inBlock,Exit.then])
  refine bodyPost_ret (results_two rfl _ _ w.heap.size _ _ _ _ _ _ _ rfl (g.res.seven_set _ _ _ _ _ _ _)) rfl ⟨rfl,?_⟩
  exact g.kp.seven_set (Nat.le_refl _) _ _ _ _ _ _ _

set_option maxRecDepth 100000 in
theorem ref_load_z (s:Nat) (w:World) (hs:s < 4294967296) (hc:pc s 0 7 = 3) (ho:([11,12,13,14,15,16,17]:List Int).getD (pc s 12 3) 0 = 0) :
    Calls Tryz.prog 50 #[.int .u32 s] w fun e w'=>e = .returned (.tuple #[.agg (I7 0 0 0 0 0 0 0),.bool false])∧Kp none w w':=by
  have f0:=FrR.start w (I7 0 0 0 0 0 0 4)
  have C11_7:=hid (fun w=>F_at s 11 7 5 w hs (by omega) (by omega) rfl)
  have B11_7:pc s 7 5 < 32:=pc_lt s 7 5
  have C14_12:=hid (fun w=>F_at s 14 12 3 w hs (by omega) (by omega) rfl)
  have B14_12:pc s 12 3 < 8:=pc_lt s 12 3
  have C19_15:=hid (fun w=>F_at s 19 15 5 w hs (by omega) (by omega) rfl)
  have B19_15:pc s 15 5 < 32:=pc_lt s 15 5
  have C24_20:=hid (fun w=>F_at s 24 20 5 w hs (by omega) (by omega) rfl)
  have B24_20:pc s 20 5 < 32:=pc_lt s 20 5
  have C31_25:=hid (fun w=>F_at s 31 25 7 w hs (by omega) (by omega) rfl)
  have B31_25:pc s 25 7 < 128:=pc_lt s 25 7
  have C31_20:=hid (fun w=>F_at s 31 20 12 w hs (by omega) (by omega) rfl)
  have B31_20:pc s 20 12 < 4096:=pc_lt s 20 12
  have C6_0:=hid (fun w=>F_at s 6 0 7 w hs (by omega) (by omega) rfl)
  rw [hc] at C6_0
  have B6_0:pc s 0 7 < 128:=pc_lt s 0 7
  have O_o:=hid (fun w0 w1 hw=>one_new [11,12,13,14,15,16,17] (pc s 12 3) w0 w1 hw (by decide))
  generalize ([11,12,13,14,15,16,17]:List Int).getD (pc s 12 3) 0 = o at *
  subst ho
  go_enter Tryz.func50,Tryz.ntmps50
  go_wp2_with fail
  refine (C11_7.out _).mono ?_
  rintro e wx ⟨rfl,rfl⟩
  generalize (w.alloc (.cells (I7 0 0 0 0 0 0 0) 47)).alloc (.cells (I7 0 0 0 0 0 0 4) 47) = w1 at f0 ⊢
  obtain ⟨b0,b1,b2,b3,b4,b5,b6⟩:=f0.box.seven
  have z:=f0.box.free
  go_wp2_with fail
  refine (C14_12.out _).mono ?_
  rintro e wx ⟨rfl,rfl⟩
  go_wp2_with fail
  refine (C19_15.out _).mono ?_
  rintro e wx ⟨rfl,rfl⟩
  go_wp2_with fail
  refine (C24_20.out _).mono ?_
  rintro e wx ⟨rfl,rfl⟩
  go_wp2_with fail
  refine (C31_25.out _).mono ?_
  rintro e wx ⟨rfl,rfl⟩
  go_wp2_with fail
  refine (C31_20.out _).mono ?_
  rintro e wx ⟨rfl,rfl⟩
  go_wp2_with fail
  refine (S_at _ 12 4096 _ (by omega) (by omega) (by omega) (by rfl) (by omega)).mono ?_
  rintro e wx ⟨rfl,rfl⟩
  go_wp2_with fail
  refine (C6_0.out _).mono ?_
  rintro e wx ⟨rfl,rfl⟩
  go_wp2_with fail
  refine (O_o.out w1 _ (by rfl)).mono ?_
  rintro e wx ⟨rfl,rfl⟩
  have f1:FrR w (I7 0 0 0 0 0 0 4) _:=f0.alloc #[.int .i64 11,.int .i64 12,.int .i64 13,.int .i64 14,.int .i64 15,.int .i64 16,.int .i64 17] 3
  generalize w1.alloc (.cells #[.int .i64 11,.int .i64 12,.int .i64 13,.int .i64 14,.int .i64 15,.int .i64 16,.int .i64 17] 3) = w2 at f1 ⊢
  clear b0 b1 b2 b3 b4 b5 b6 z
  obtain ⟨b0,b1,b2,b3,b4,b5,b6⟩:=f1.box.seven
  have z:=f1.box.free
  go_wp2_with fail
  refine (C6_0.out _).mono ?_
  rintro e wx ⟨rfl,rfl⟩
  obtain ⟨q0,q1,q2,q3,q4,q5,q6⟩:=f1.res.seven
  have y:=f1.res.free
  go_wp2
  have g:=((((f1.set 0 (.int .i64 0)).set 1 (.int .i64 (pc s 7 5:Nat))).set 2 (.int .i64 (pc s 15 5:Nat))).set 4 (.int .i64 (low (pc s 20 12:Nat) 12)))
  (try simp only [Exit.inBlock,Exit.then])
  refine bodyPost_ret (results_two rfl _ _ w.heap.size _ _ _ _ _ _ _ rfl (g.res.seven_set _ _ _ _ _ _ _)) rfl ⟨rfl,?_⟩
  exact g.kp.seven_set (Nat.le_refl _) _ _ _ _ _ _ _

end Go.Proofs.YtbngjbmfkekdnaaGreatDoor.Tr

namespace Go.Proofs.YtbngjbmfkekdnaaGreatDoor.Tr
open Go.RowKit
open Td
theorem one_newB (zs:List Int) (k:Nat) (w0 w1:World) (B:Nat) (hB:w0.heap.size = B) (hw:w1 = w0.alloc (.cells (zs.map (Value.int .i64)).toArray 3)) (hl:zs.length ≤ 100) :
    Calls Tryz.prog 87 #[.slice (some ⟨B,0,none⟩) zs.length zs.length,.int .i64 k] w1 fun e w'=>e = .returned (.int .i64 (zs.getD k 0))∧w1 = w':=by
  subst hB;exact one_new zs k w0 w1 hw hl
end Go.Proofs.YtbngjbmfkekdnaaGreatDoor.Tr
