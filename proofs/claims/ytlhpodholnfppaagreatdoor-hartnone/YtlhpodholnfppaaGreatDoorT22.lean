/-
  What a word is, in plain numbers; the contract of Decode, a form each.
  What a word is, in plain numbers: the contracts of look and Decode for every word.
  What all listed variables hold, when the law's call begins: the arrays of both packages. A start that meets it.
-/
import Derived.Test.YtlhpodholnfppaaGreatDoorT21
import Derived.Test.YtlhpodholnfppaaGreatDoorT18
import Derived.Lib.Hide
set_option linter.unusedVariables false
set_option linter.unusedSimpArgs false
set_option maxHeartbeats 16000000
open Go.Lib (hid)
namespace Go.Proofs.YtlhpodholnfppaaGreatDoor.Td
open Go.RowKit
set_option maxRecDepth 100000

structure Ins where
  op:Int
  rd:Int
  r1:Int
  r2:Int
  im:Int
  od:Int
  sz:Int
deriving DecidableEq
abbrev Ins.cells (i:Ins):Array Value:=I7 i.op i.rd i.r1 i.r2 i.im i.od i.sz
def zeroI:Ins:=⟨0,0,0,0,0,0,0⟩
def parts (o:Int) (s:Nat):Fm → Ins
  | .up=>⟨o,(tk s 7 5 0),0,0,(low (tk s 12 20 12) 32),0,4⟩
  | .jp=>⟨o,(tk s 7 5 0),0,0,(low (bits .or .i64 (bits .or .i64 (bits .or .i64 (tk s 31 1 20) (tk s 12 8 12)) (tk s 20 1 11)) (tk s 21 10 1)) 21),0,4⟩
  | .im=>⟨o,(tk s 7 5 0),(tk s 15 5 0),0,(low (tk s 20 12 0) 12),0,4⟩
  | .br=>⟨o,0,(tk s 15 5 0),(tk s 20 5 0),(low (bits .or .i64 (bits .or .i64 (bits .or .i64 (tk s 31 1 12) (tk s 7 1 11)) (tk s 25 6 5)) (tk s 8 4 1)) 13),0,4⟩
  | .st=>⟨o,0,(tk s 15 5 0),(tk s 20 5 0),(low (bits .or .i64 (tk s 25 7 5) (tk s 7 5 0)) 12),0,4⟩
  | .rg=>⟨o,(tk s 7 5 0),(tk s 15 5 0),(tk s 20 5 0),0,0,4⟩
  | .am=>⟨o,(tk s 7 5 0),(tk s 15 5 0),(tk s 20 5 0),0,(tk s 25 2 0),4⟩
  | .ba=>⟨o,0,0,0,0,0,4⟩
  | .sh m=>⟨o,(tk s 7 5 0),(tk s 15 5 0),0,(tk s 20 m 0),0,4⟩
  | .no=>zeroI

theorem results_two {fn:Func} {p u:Tmp} (h:fn.results = #[.cell p 38,.tmp u]) (tmps:Array Value) (w:World) (g:Nat) (v0 v1 v2 v3 v4 v5 v6:Value)
    (hp:tmps.getD p undef = .pointer (some ⟨g,0,none⟩)) (hg:Has w g 38 #[v0,v1,v2,v3,v4,v5,v6]) :
    (results fn tmps).run Tryz.prog w = .ok (.tuple #[.agg #[v0,v1,v2,v3,v4,v5,v6],tmps.getD u undef]) w:=by
  have hr:=run_loadVar_row (P:=Tryz.prog) w g 38 38 #[v0,v1,v2,v3,v4,v5,v6] (0,0) _ hg Tryz.underlying38 rfl (by kernel_rfl)
  rw [results_cell_tmp h,hp]
  simp [asAddr,Result.andThen,hr]

theorem decode_zero (s:Nat) (w:World) (fm:Fm) (hT:Tabs w) (hl:∀ w,Tabs w → Calls Tryz.prog 171 #[.int .u32 s] w (LookPost s w 0 fm)) :
    Calls Tryz.prog 152 #[.int .u32 s] w fun e w'=>e = .returned (.tuple #[.agg (I7 0 0 0 0 0 0 0),.bool false])∧Kp none w w':=by
  have HL:=hid hl;clear hl
  have k0:=(Kp.refl none w).alloc (I7 0 0 0 0 0 0 0) 38
  have h0:=Has.new w (I7 0 0 0 0 0 0 0) 38
  have T0:=hT.kp k0
  clear hT
  go_enter Tryz.func152,Tryz.ntmps152
  go_wp2_with fail
  refine (HL.out _ T0).mono ?_
  rintro e w1 ⟨v,rfl,_,k1⟩
  have h1:=h0.kp k1 (by simp)
  have K1:=k0.trans k1
  clear k0 k1 h0 T0
  obtain ⟨b0,b1,b2,b3,b4,b5,b6⟩:=h1.seven
  have z:=h1.free
  go_wp2
  (try simp only [Exit.inBlock,Exit.then])
  refine bodyPost_ret (results_two rfl _ _ w.heap.size _ _ _ _ _ _ _ rfl (h1.seven_set _ _ _ _ _ _ _)) rfl ⟨rfl,?_⟩
  exact K1.seven_set (Nat.le_refl _) _ _ _ _ _ _ _

theorem decode_up (s:Nat) (w:World) (o:Int) (hs:s < 4294967296) (ho:(o == 0) = false) (hT:Tabs w) (hl:∀ w,Tabs w → Calls Tryz.prog 171 #[.int .u32 s] w (LookPost s w o .up)) :
    Calls Tryz.prog 152 #[.int .u32 s] w fun e w'=>e = .returned (.tuple #[.agg (I7 o (tk s 7 5 0) 0 0 (low (tk s 12 20 12) 32) 0 4),.bool true])∧Kp none w w':=by
  have HL:=hid hl;clear hl
  have k0:=(Kp.refl none w).alloc (I7 0 0 0 0 0 0 0) 38
  have h0:=Has.new w (I7 0 0 0 0 0 0 0) 38
  have T0:=hT.kp k0
  clear hT
  go_enter Tryz.func152,Tryz.ntmps152
  go_wp2_with fail
  refine (HL.out _ T0).mono ?_
  rintro e w1 ⟨v,rfl,rfl,k1⟩
  have h1:=h0.kp k1 (by simp)
  have K1:=k0.trans k1
  clear k0 k1 h0 T0
  go_wp2_with fail
  refine (taker_any s _).mono ?_
  rintro e w2 ⟨rfl,h2,k2⟩
  go_wp2_with fail
  refine (upper_take o 0 0 0 0 0 4 s _ _ hs h2).mono ?_
  rintro e w3 ⟨rfl,k3⟩
  have h3:=(h1.kp k2 (by simp)).kp k3 (by simp)
  have K3:=(K1.trans k2).trans k3
  clear k2 k3 h1 h2 K1
  obtain ⟨b0,b1,b2,b3,b4,b5,b6⟩:=h3.seven
  have z:=h3.free
  go_wp2
  (try simp only [Exit.inBlock,Exit.then])
  refine bodyPost_ret (results_two rfl _ _ w.heap.size _ _ _ _ _ _ _ rfl (h3.seven_set _ _ _ _ _ _ _)) rfl ⟨rfl,?_⟩
  exact K3.seven_set (Nat.le_refl _) _ _ _ _ _ _ _

theorem decode_jp (s:Nat) (w:World) (o:Int) (hs:s < 4294967296) (ho:(o == 0) = false) (hT:Tabs w) (hl:∀ w,Tabs w → Calls Tryz.prog 171 #[.int .u32 s] w (LookPost s w o .jp)) :
    Calls Tryz.prog 152 #[.int .u32 s] w fun e w'=>e = .returned (.tuple #[.agg (I7 o (tk s 7 5 0) 0 0 (low (bits .or .i64 (bits .or .i64 (bits .or .i64 (tk s 31 1 20) (tk s 12 8 12)) (tk s 20 1 11)) (tk s 21 10 1)) 21) 0 4),.bool true])∧Kp none w w':=by
  have HL:=hid hl;clear hl
  have k0:=(Kp.refl none w).alloc (I7 0 0 0 0 0 0 0) 38
  have h0:=Has.new w (I7 0 0 0 0 0 0 0) 38
  have T0:=hT.kp k0
  clear hT
  go_enter Tryz.func152,Tryz.ntmps152
  go_wp2_with fail
  refine (HL.out _ T0).mono ?_
  rintro e w1 ⟨v,rfl,rfl,k1⟩
  have h1:=h0.kp k1 (by simp)
  have K1:=k0.trans k1
  clear k0 k1 h0 T0
  go_wp2_with fail
  refine (taker_any s _).mono ?_
  rintro e w2 ⟨rfl,h2,k2⟩
  go_wp2_with fail
  refine (jump_take o 0 0 0 0 0 4 s _ _ hs h2).mono ?_
  rintro e w3 ⟨rfl,k3⟩
  have h3:=(h1.kp k2 (by simp)).kp k3 (by simp)
  have K3:=(K1.trans k2).trans k3
  clear k2 k3 h1 h2 K1
  obtain ⟨b0,b1,b2,b3,b4,b5,b6⟩:=h3.seven
  have z:=h3.free
  go_wp2
  (try simp only [Exit.inBlock,Exit.then])
  refine bodyPost_ret (results_two rfl _ _ w.heap.size _ _ _ _ _ _ _ rfl (h3.seven_set _ _ _ _ _ _ _)) rfl ⟨rfl,?_⟩
  exact K3.seven_set (Nat.le_refl _) _ _ _ _ _ _ _

theorem decode_im (s:Nat) (w:World) (o:Int) (hs:s < 4294967296) (ho:(o == 0) = false) (hT:Tabs w) (hl:∀ w,Tabs w → Calls Tryz.prog 171 #[.int .u32 s] w (LookPost s w o .im)) :
    Calls Tryz.prog 152 #[.int .u32 s] w fun e w'=>e = .returned (.tuple #[.agg (I7 o (tk s 7 5 0) (tk s 15 5 0) 0 (low (tk s 20 12 0) 12) 0 4),.bool true])∧Kp none w w':=by
  have HL:=hid hl;clear hl
  have k0:=(Kp.refl none w).alloc (I7 0 0 0 0 0 0 0) 38
  have h0:=Has.new w (I7 0 0 0 0 0 0 0) 38
  have T0:=hT.kp k0
  clear hT
  go_enter Tryz.func152,Tryz.ntmps152
  go_wp2_with fail
  refine (HL.out _ T0).mono ?_
  rintro e w1 ⟨v,rfl,rfl,k1⟩
  have h1:=h0.kp k1 (by simp)
  have K1:=k0.trans k1
  clear k0 k1 h0 T0
  go_wp2_with fail
  refine (taker_any s _).mono ?_
  rintro e w2 ⟨rfl,h2,k2⟩
  go_wp2_with fail
  refine (immediate_take o 0 0 0 0 0 4 s _ _ hs h2).mono ?_
  rintro e w3 ⟨rfl,k3⟩
  have h3:=(h1.kp k2 (by simp)).kp k3 (by simp)
  have K3:=(K1.trans k2).trans k3
  clear k2 k3 h1 h2 K1
  obtain ⟨b0,b1,b2,b3,b4,b5,b6⟩:=h3.seven
  have z:=h3.free
  go_wp2
  (try simp only [Exit.inBlock,Exit.then])
  refine bodyPost_ret (results_two rfl _ _ w.heap.size _ _ _ _ _ _ _ rfl (h3.seven_set _ _ _ _ _ _ _)) rfl ⟨rfl,?_⟩
  exact K3.seven_set (Nat.le_refl _) _ _ _ _ _ _ _

theorem decode_br (s:Nat) (w:World) (o:Int) (hs:s < 4294967296) (ho:(o == 0) = false) (hT:Tabs w) (hl:∀ w,Tabs w → Calls Tryz.prog 171 #[.int .u32 s] w (LookPost s w o .br)) :
    Calls Tryz.prog 152 #[.int .u32 s] w fun e w'=>e = .returned (.tuple #[.agg (I7 o 0 (tk s 15 5 0) (tk s 20 5 0) (low (bits .or .i64 (bits .or .i64 (bits .or .i64 (tk s 31 1 12) (tk s 7 1 11)) (tk s 25 6 5)) (tk s 8 4 1)) 13) 0 4),.bool true])∧Kp none w w':=by
  have HL:=hid hl;clear hl
  have k0:=(Kp.refl none w).alloc (I7 0 0 0 0 0 0 0) 38
  have h0:=Has.new w (I7 0 0 0 0 0 0 0) 38
  have T0:=hT.kp k0
  clear hT
  go_enter Tryz.func152,Tryz.ntmps152
  go_wp2_with fail
  refine (HL.out _ T0).mono ?_
  rintro e w1 ⟨v,rfl,rfl,k1⟩
  have h1:=h0.kp k1 (by simp)
  have K1:=k0.trans k1
  clear k0 k1 h0 T0
  go_wp2_with fail
  refine (taker_any s _).mono ?_
  rintro e w2 ⟨rfl,h2,k2⟩
  go_wp2_with fail
  refine (branch_take o 0 0 0 0 0 4 s _ _ hs h2).mono ?_
  rintro e w3 ⟨rfl,k3⟩
  have h3:=(h1.kp k2 (by simp)).kp k3 (by simp)
  have K3:=(K1.trans k2).trans k3
  clear k2 k3 h1 h2 K1
  obtain ⟨b0,b1,b2,b3,b4,b5,b6⟩:=h3.seven
  have z:=h3.free
  go_wp2
  (try simp only [Exit.inBlock,Exit.then])
  refine bodyPost_ret (results_two rfl _ _ w.heap.size _ _ _ _ _ _ _ rfl (h3.seven_set _ _ _ _ _ _ _)) rfl ⟨rfl,?_⟩
  exact K3.seven_set (Nat.le_refl _) _ _ _ _ _ _ _

theorem decode_st (s:Nat) (w:World) (o:Int) (hs:s < 4294967296) (ho:(o == 0) = false) (hT:Tabs w) (hl:∀ w,Tabs w → Calls Tryz.prog 171 #[.int .u32 s] w (LookPost s w o .st)) :
    Calls Tryz.prog 152 #[.int .u32 s] w fun e w'=>e = .returned (.tuple #[.agg (I7 o 0 (tk s 15 5 0) (tk s 20 5 0) (low (bits .or .i64 (tk s 25 7 5) (tk s 7 5 0)) 12) 0 4),.bool true])∧Kp none w w':=by
  have HL:=hid hl;clear hl
  have k0:=(Kp.refl none w).alloc (I7 0 0 0 0 0 0 0) 38
  have h0:=Has.new w (I7 0 0 0 0 0 0 0) 38
  have T0:=hT.kp k0
  clear hT
  go_enter Tryz.func152,Tryz.ntmps152
  go_wp2_with fail
  refine (HL.out _ T0).mono ?_
  rintro e w1 ⟨v,rfl,rfl,k1⟩
  have h1:=h0.kp k1 (by simp)
  have K1:=k0.trans k1
  clear k0 k1 h0 T0
  go_wp2_with fail
  refine (taker_any s _).mono ?_
  rintro e w2 ⟨rfl,h2,k2⟩
  go_wp2_with fail
  refine (store_take o 0 0 0 0 0 4 s _ _ hs h2).mono ?_
  rintro e w3 ⟨rfl,k3⟩
  have h3:=(h1.kp k2 (by simp)).kp k3 (by simp)
  have K3:=(K1.trans k2).trans k3
  clear k2 k3 h1 h2 K1
  obtain ⟨b0,b1,b2,b3,b4,b5,b6⟩:=h3.seven
  have z:=h3.free
  go_wp2
  (try simp only [Exit.inBlock,Exit.then])
  refine bodyPost_ret (results_two rfl _ _ w.heap.size _ _ _ _ _ _ _ rfl (h3.seven_set _ _ _ _ _ _ _)) rfl ⟨rfl,?_⟩
  exact K3.seven_set (Nat.le_refl _) _ _ _ _ _ _ _

theorem decode_rg (s:Nat) (w:World) (o:Int) (hs:s < 4294967296) (ho:(o == 0) = false) (hT:Tabs w) (hl:∀ w,Tabs w → Calls Tryz.prog 171 #[.int .u32 s] w (LookPost s w o .rg)) :
    Calls Tryz.prog 152 #[.int .u32 s] w fun e w'=>e = .returned (.tuple #[.agg (I7 o (tk s 7 5 0) (tk s 15 5 0) (tk s 20 5 0) 0 0 4),.bool true])∧Kp none w w':=by
  have HL:=hid hl;clear hl
  have k0:=(Kp.refl none w).alloc (I7 0 0 0 0 0 0 0) 38
  have h0:=Has.new w (I7 0 0 0 0 0 0 0) 38
  have T0:=hT.kp k0
  clear hT
  go_enter Tryz.func152,Tryz.ntmps152
  go_wp2_with fail
  refine (HL.out _ T0).mono ?_
  rintro e w1 ⟨v,rfl,rfl,k1⟩
  have h1:=h0.kp k1 (by simp)
  have K1:=k0.trans k1
  clear k0 k1 h0 T0
  go_wp2_with fail
  refine (taker_any s _).mono ?_
  rintro e w2 ⟨rfl,h2,k2⟩
  go_wp2_with fail
  refine (registers_take o 0 0 0 0 0 4 s _ _ hs h2).mono ?_
  rintro e w3 ⟨rfl,k3⟩
  have h3:=(h1.kp k2 (by simp)).kp k3 (by simp)
  have K3:=(K1.trans k2).trans k3
  clear k2 k3 h1 h2 K1
  obtain ⟨b0,b1,b2,b3,b4,b5,b6⟩:=h3.seven
  have z:=h3.free
  go_wp2
  (try simp only [Exit.inBlock,Exit.then])
  refine bodyPost_ret (results_two rfl _ _ w.heap.size _ _ _ _ _ _ _ rfl (h3.seven_set _ _ _ _ _ _ _)) rfl ⟨rfl,?_⟩
  exact K3.seven_set (Nat.le_refl _) _ _ _ _ _ _ _

theorem decode_am (s:Nat) (w:World) (o:Int) (hs:s < 4294967296) (ho:(o == 0) = false) (hT:Tabs w) (hl:∀ w,Tabs w → Calls Tryz.prog 171 #[.int .u32 s] w (LookPost s w o .am)) :
    Calls Tryz.prog 152 #[.int .u32 s] w fun e w'=>e = .returned (.tuple #[.agg (I7 o (tk s 7 5 0) (tk s 15 5 0) (tk s 20 5 0) 0 (tk s 25 2 0) 4),.bool true])∧Kp none w w':=by
  have HL:=hid hl;clear hl
  have k0:=(Kp.refl none w).alloc (I7 0 0 0 0 0 0 0) 38
  have h0:=Has.new w (I7 0 0 0 0 0 0 0) 38
  have T0:=hT.kp k0
  clear hT
  go_enter Tryz.func152,Tryz.ntmps152
  go_wp2_with fail
  refine (HL.out _ T0).mono ?_
  rintro e w1 ⟨v,rfl,rfl,k1⟩
  have h1:=h0.kp k1 (by simp)
  have K1:=k0.trans k1
  clear k0 k1 h0 T0
  go_wp2_with fail
  refine (taker_any s _).mono ?_
  rintro e w2 ⟨rfl,h2,k2⟩
  go_wp2_with fail
  refine (atomic_take o 0 0 0 0 0 4 s _ _ hs h2).mono ?_
  rintro e w3 ⟨rfl,k3⟩
  have h3:=(h1.kp k2 (by simp)).kp k3 (by simp)
  have K3:=(K1.trans k2).trans k3
  clear k2 k3 h1 h2 K1
  obtain ⟨b0,b1,b2,b3,b4,b5,b6⟩:=h3.seven
  have z:=h3.free
  go_wp2
  (try simp only [Exit.inBlock,Exit.then])
  refine bodyPost_ret (results_two rfl _ _ w.heap.size _ _ _ _ _ _ _ rfl (h3.seven_set _ _ _ _ _ _ _)) rfl ⟨rfl,?_⟩
  exact K3.seven_set (Nat.le_refl _) _ _ _ _ _ _ _

theorem decode_ba (s:Nat) (w:World) (o:Int) (hs:s < 4294967296) (ho:(o == 0) = false) (hT:Tabs w) (hl:∀ w,Tabs w → Calls Tryz.prog 171 #[.int .u32 s] w (LookPost s w o .ba)) :
    Calls Tryz.prog 152 #[.int .u32 s] w fun e w'=>e = .returned (.tuple #[.agg (I7 o 0 0 0 0 0 4),.bool true])∧Kp none w w':=by
  have HL:=hid hl;clear hl
  have k0:=(Kp.refl none w).alloc (I7 0 0 0 0 0 0 0) 38
  have h0:=Has.new w (I7 0 0 0 0 0 0 0) 38
  have T0:=hT.kp k0
  clear hT
  go_enter Tryz.func152,Tryz.ntmps152
  go_wp2_with fail
  refine (HL.out _ T0).mono ?_
  rintro e w1 ⟨v,rfl,rfl,k1⟩
  have h1:=h0.kp k1 (by simp)
  have K1:=k0.trans k1
  clear k0 k1 h0 T0
  go_wp2_with fail
  refine (taker_any s _).mono ?_
  rintro e w2 ⟨rfl,h2,k2⟩
  go_wp2_with fail
  refine (bare_any o 0 0 0 0 0 4 _ _).mono ?_
  rintro e w3 ⟨rfl,k3⟩
  have h3:=(h1.kp k2 (by simp)).kp k3 (by simp)
  have K3:=(K1.trans k2).trans k3
  clear k2 k3 h1 h2 K1
  obtain ⟨b0,b1,b2,b3,b4,b5,b6⟩:=h3.seven
  have z:=h3.free
  go_wp2
  (try simp only [Exit.inBlock,Exit.then])
  refine bodyPost_ret (results_two rfl _ _ w.heap.size _ _ _ _ _ _ _ rfl (h3.seven_set _ _ _ _ _ _ _)) rfl ⟨rfl,?_⟩
  exact K3.seven_set (Nat.le_refl _) _ _ _ _ _ _ _

theorem decode_sh (s:Nat) (w:World) (o:Int) (m:Nat) (hm:m ≤ 6) (hs:s < 4294967296) (ho:(o == 0) = false) (hT:Tabs w) (hl:∀ w,Tabs w → Calls Tryz.prog 171 #[.int .u32 s] w (LookPost s w o (.sh m))) :
    Calls Tryz.prog 152 #[.int .u32 s] w fun e w'=>e = .returned (.tuple #[.agg (I7 o (tk s 7 5 0) (tk s 15 5 0) 0 (tk s 20 m 0) 0 4),.bool true])∧Kp none w w':=by
  have HL:=hid hl;clear hl
  have k0:=(Kp.refl none w).alloc (I7 0 0 0 0 0 0 0) 38
  have h0:=Has.new w (I7 0 0 0 0 0 0 0) 38
  have T0:=hT.kp k0
  clear hT
  go_enter Tryz.func152,Tryz.ntmps152
  go_wp2_with fail
  refine (HL.out _ T0).mono ?_
  rintro e w1 ⟨v,rfl,⟨Q,rfl,hq,_⟩,k1⟩
  have h1:=h0.kp k1 (by simp)
  have K1:=k0.trans k1
  clear k0 k1 h0 T0
  go_wp2_with fail
  refine (taker_any s _).mono ?_
  rintro e w2 ⟨rfl,h2,k2⟩
  go_wp2_with fail
  refine (shift_take o 0 0 0 0 0 4 s _ _ hs h2 m Q hm (hq.kp k2 (by simp))).mono ?_
  rintro e w3 ⟨rfl,k3⟩
  have h3:=(h1.kp k2 (by simp)).kp k3 (by simp)
  have K3:=(K1.trans k2).trans k3
  clear k2 k3 h1 h2 K1
  obtain ⟨b0,b1,b2,b3,b4,b5,b6⟩:=h3.seven
  have z:=h3.free
  go_wp2
  (try simp only [Exit.inBlock,Exit.then])
  refine bodyPost_ret (results_two rfl _ _ w.heap.size _ _ _ _ _ _ _ rfl (h3.seven_set _ _ _ _ _ _ _)) rfl ⟨rfl,?_⟩
  exact K3.seven_set (Nat.le_refl _) _ _ _ _ _ _ _

end Go.Proofs.YtlhpodholnfppaaGreatDoor.Td

namespace Go.Proofs.YtlhpodholnfppaaGreatDoor.Td
open Go.RowKit
set_option maxRecDepth 100000
def Z8:List Int:=[0,0,0,0,0,0,0,0]
def opC (c f g s:Nat):Int:=
  if c = 55 then 1 else if c = 23 then 2 else if c = 111 then 3 else if c = 103 then T0.getD f 0 else if c = 99 then T1.getD f 0 else if c = 3 then T2.getD f 0 else if c = 35 then T3.getD f 0
  else if c = 19 then (if f = 1 ∨ f = 5 then pick3 (g / 2 * 2) T12 T13 Z8 f else T11.getD f 0)
  else if c = 51 then pick3 g T4 T5 T6 f
  else if c = 27 then (if f = 0 then 41 else pick3 g T15 T16 Z8 f)
  else if c = 59 then pick3 g T7 T8 T9 f
  else if c = 47 then opA s f else if c = 15 then T10.getD f 0
  else if c = 115 then (if s = 115 then 87 else if s = 1048691 then 88 else 0) else 0
def fmC (c f:Nat):Fm:=
  if c = 55 then .up else if c = 23 then .up else if c = 111 then .jp else if c = 103 then .im else if c = 99 then .br else if c = 3 then .im else if c = 35 then .st
  else if c = 19 then (if f = 1 ∨ f = 5 then .sh 6 else .im) else if c = 51 then .rg else if c = 27 then (if f = 0 then .im else .sh 5) else if c = 59 then .rg
  else if c = 47 then .am else if c = 15 then .ba else if c = 115 then .ba else .no
def opW (s:Nat):Int:=opC (pc s 0 7) (pc s 12 3) (pc s 25 7) s
def fmW (s:Nat):Fm:=fmC (pc s 0 7) (pc s 12 3)
def dec (s:Nat):Ins:=if opW s = 0 then zeroI else parts (opW s) s (fmW s)

theorem z8:∀ f:Nat,f < 8 → Z8.getD f 0 = 0:=by decide
theorem pick_a {g f:Nat} {a b c:List Int} (h:g = 0):pick3 g a b c f = a.getD f 0:=by unfold pick3;rw [if_pos h]
theorem pick_b {g f:Nat} {a b c:List Int} (h:g = 32):pick3 g a b c f = b.getD f 0:=by unfold pick3;rw [if_neg (by omega),if_pos h]
theorem pick_p {g f:Nat} {a b c:List Int} (h:g = 1):pick3 g a b c f = c.getD f 0:=by unfold pick3;rw [if_neg (by omega),if_neg (by omega),if_pos h]
theorem pick_c {g f:Nat} {a b c:List Int} (h0:g ≠ 0) (h1:g ≠ 32) (h2:g ≠ 1) (hf:f < 8):pick3 g a b c f = Z8.getD f 0:=by unfold pick3;rw [if_neg h0,if_neg h1,if_neg h2,z8 f hf]
theorem nb {a b:Nat} (h:a ≠ b):((a:Int) == (b:Int)) = false:=by simp;omega

theorem look_any (s:Nat) (w:World) (hs:s < 4294967296) (hT:Tabs w):Calls Tryz.prog 171 #[.int .u32 s] w (LookPost s w (opW s) (fmW s)):=by
  have hf:=pc_lt s 12 3
  have hg:=pc_lt s 25 7
  unfold opW fmW
  by_cases h55:pc s 0 7 = 55
  · rw [h55]
    exact look_lui s w hs hT h55
  by_cases h23:pc s 0 7 = 23
  · rw [h23]
    exact look_auipc s w hs hT h23
  by_cases h111:pc s 0 7 = 111
  · rw [h111]
    exact look_jal s w hs hT h111
  by_cases h103:pc s 0 7 = 103
  · rw [h103]
    exact look_jalr s w hs hT h103
  by_cases h99:pc s 0 7 = 99
  · rw [h99]
    exact look_branch s w hs hT h99
  by_cases h3:pc s 0 7 = 3
  · rw [h3]
    exact look_load s w hs hT h3
  by_cases h35:pc s 0 7 = 35
  · rw [h35]
    exact look_store s w hs hT h35
  by_cases h47:pc s 0 7 = 47
  · rw [h47]
    exact look_atomic s w hs hT h47
  by_cases h15:pc s 0 7 = 15
  · rw [h15]
    exact look_fence s w hs hT h15
  by_cases h115:pc s 0 7 = 115
  · rw [h115]
    exact look_system s w hs hT h115
  by_cases h51:pc s 0 7 = 51
  · rw [h51]
    show Calls Tryz.prog 171 #[.int .u32 s] w (LookPost s w (pick3 (pc s 25 7) T4 T5 T6 (pc s 12 3)) .rg)
    by_cases ha:pc s 25 7 = 0
    · rw [pick_a ha];exact look_plain_a s w hs hT h51 ha
    by_cases hb:pc s 25 7 = 32
    · rw [pick_b hb];exact look_plain_b s w hs hT h51 hb
    by_cases hp:pc s 25 7 = 1
    · rw [pick_p hp];exact look_plain_p s w hs hT h51 hp
    rw [pick_c ha hb hp hf];exact look_plain_c s w hs hT h51 (nb ha) (nb hb) (nb hp)
  by_cases h59:pc s 0 7 = 59
  · rw [h59]
    show Calls Tryz.prog 171 #[.int .u32 s] w (LookPost s w (pick3 (pc s 25 7) T7 T8 T9 (pc s 12 3)) .rg)
    by_cases ha:pc s 25 7 = 0
    · rw [pick_a ha];exact look_narrow_a s w hs hT h59 ha
    by_cases hb:pc s 25 7 = 32
    · rw [pick_b hb];exact look_narrow_b s w hs hT h59 hb
    by_cases hp:pc s 25 7 = 1
    · rw [pick_p hp];exact look_narrow_p s w hs hT h59 hp
    rw [pick_c ha hb hp hf];exact look_narrow_c s w hs hT h59 (nb ha) (nb hb) (nb hp)
  by_cases h19:pc s 0 7 = 19
  · rw [h19]
    by_cases h5:pc s 12 3 = 1 ∨ pc s 12 3 = 5
    · have e1:opC 19 (pc s 12 3) (pc s 25 7) s = pick3 (pc s 25 7 / 2 * 2) T12 T13 Z8 (pc s 12 3):=if_pos h5
      have e2:fmC 19 (pc s 12 3) = .sh 6:=if_pos h5
      rw [e1,e2]
      by_cases ha:pc s 25 7 / 2 * 2 = 0
      · rw [pick_a ha];exact look_imm_a s w hs hT h19 h5 ha
      by_cases hb:pc s 25 7 / 2 * 2 = 32
      · rw [pick_b hb];exact look_imm_b s w hs hT h19 h5 hb
      have hp:pc s 25 7 / 2 * 2 ≠ 1:=by omega
      rw [pick_c ha hb hp hf];exact look_imm_c s w hs hT h19 h5 (nb ha) (nb hb) (nb hp)

    · have e1:opC 19 (pc s 12 3) (pc s 25 7) s = T11.getD (pc s 12 3) 0:=if_neg h5
      have e2:fmC 19 (pc s 12 3) = .im:=if_neg h5
      rw [e1,e2]
      exact look_imm s w hs hT h19 (by simp;omega)
  by_cases h27:pc s 0 7 = 27
  · rw [h27]
    by_cases hz:pc s 12 3 = 0
    · have e1:opC 27 (pc s 12 3) (pc s 25 7) s = 41:=if_pos hz
      have e2:fmC 27 (pc s 12 3) = .im:=if_pos hz
      rw [e1,e2]
      exact look_immW s w hs hT h27 hz
    · have e1:opC 27 (pc s 12 3) (pc s 25 7) s = pick3 (pc s 25 7) T15 T16 Z8 (pc s 12 3):=if_neg hz
      have e2:fmC 27 (pc s 12 3) = .sh 5:=if_neg hz
      rw [e1,e2]
      by_cases ha:pc s 25 7 = 0
      · rw [pick_a ha];exact look_immW_a s w hs hT h27 hz ha
      by_cases hb:pc s 25 7 = 32
      · rw [pick_b hb];exact look_immW_b s w hs hT h27 hz hb
      by_cases hp:pc s 25 7 = 1
      · rw [pick_p hp];exact look_immW_p s w hs hT h27 hz hp
      rw [pick_c ha hb hp hf];exact look_immW_c s w hs hT h27 hz (nb ha) (nb hb) (nb hp)

  have e1:opC (pc s 0 7) (pc s 12 3) (pc s 25 7) s = 0:=by unfold opC;rw [if_neg h55,if_neg h23,if_neg h111,if_neg h103,if_neg h99,if_neg h3,if_neg h35,if_neg h19,if_neg h51,if_neg h27,if_neg h59,if_neg h47,if_neg h15,if_neg h115]
  have e2:fmC (pc s 0 7) (pc s 12 3) = .no:=by unfold fmC;rw [if_neg h55,if_neg h23,if_neg h111,if_neg h103,if_neg h99,if_neg h3,if_neg h35,if_neg h19,if_neg h51,if_neg h27,if_neg h59,if_neg h47,if_neg h15,if_neg h115]
  rw [e1,e2]
  exact look_none s w hs (nb h55) (nb h23) (nb h111) (nb h103) (nb h99) (nb h3) (nb h35) (nb h19) (nb h51) (nb h27) (nb h59) (nb h47) (nb h15) (nb h115)

theorem fm_sh (c f m:Nat) (h:fmC c f = .sh m):m ≤ 6:=by
  by_cases h55:c = 55
  · subst h55;cases h
  by_cases h23:c = 23
  · subst h23;cases h
  by_cases h111:c = 111
  · subst h111;cases h
  by_cases h103:c = 103
  · subst h103;cases h
  by_cases h99:c = 99
  · subst h99;cases h
  by_cases h3:c = 3
  · subst h3;cases h
  by_cases h35:c = 35
  · subst h35;cases h
  by_cases h19:c = 19
  · subst h19
    by_cases h5:f = 1 ∨ f = 5
    · have e:fmC 19 f = .sh 6:=if_pos h5
      rw [e] at h;(injection h with h;omega)
    · have e:fmC 19 f = .im:=if_neg h5
      rw [e] at h;cases h
  by_cases h51:c = 51
  · subst h51;cases h
  by_cases h27:c = 27
  · subst h27
    by_cases h5:f = 0
    · have e:fmC 27 f = .im:=if_pos h5
      rw [e] at h;cases h
    · have e:fmC 27 f = .sh 5:=if_neg h5
      rw [e] at h;(injection h with h;omega)
  by_cases h59:c = 59
  · subst h59;cases h
  by_cases h47:c = 47
  · subst h47;cases h
  by_cases h15:c = 15
  · subst h15;cases h
  by_cases h115:c = 115
  · subst h115;cases h
  have e2:fmC c f = .no:=by unfold fmC;rw [if_neg h55,if_neg h23,if_neg h111,if_neg h103,if_neg h99,if_neg h3,if_neg h35,if_neg h19,if_neg h51,if_neg h27,if_neg h59,if_neg h47,if_neg h15,if_neg h115]
  rw [e2] at h;cases h
theorem no_zero (c f g s:Nat) (h:fmC c f = .no):opC c f g s = 0:=by
  by_cases h55:c = 55
  · subst h55;cases h
  by_cases h23:c = 23
  · subst h23;cases h
  by_cases h111:c = 111
  · subst h111;cases h
  by_cases h103:c = 103
  · subst h103;cases h
  by_cases h99:c = 99
  · subst h99;cases h
  by_cases h3:c = 3
  · subst h3;cases h
  by_cases h35:c = 35
  · subst h35;cases h
  by_cases h19:c = 19
  · subst h19
    by_cases h5:f = 1 ∨ f = 5
    · have e:fmC 19 f = .sh 6:=if_pos h5
      rw [e] at h;cases h
    · have e:fmC 19 f = .im:=if_neg h5
      rw [e] at h;cases h
  by_cases h51:c = 51
  · subst h51;cases h
  by_cases h27:c = 27
  · subst h27
    by_cases h5:f = 0
    · have e:fmC 27 f = .im:=if_pos h5
      rw [e] at h;cases h
    · have e:fmC 27 f = .sh 5:=if_neg h5
      rw [e] at h;cases h
  by_cases h59:c = 59
  · subst h59;cases h
  by_cases h47:c = 47
  · subst h47;cases h
  by_cases h15:c = 15
  · subst h15;cases h
  by_cases h115:c = 115
  · subst h115;cases h
  unfold opC
  rw [if_neg h55,if_neg h23,if_neg h111,if_neg h103,if_neg h99,if_neg h3,if_neg h35,if_neg h19,if_neg h51,if_neg h27,if_neg h59,if_neg h47,if_neg h15,if_neg h115]
theorem decode_any (s:Nat) (w:World) (hs:s < 4294967296) (hT:Tabs w) :
    Calls Tryz.prog 152 #[.int .u32 s] w fun e w'=>e = .returned (.tuple #[.agg (dec s).cells,.bool (decide (opW s ≠ 0))])∧Kp none w w':=by
  have hl:=fun w hT=>look_any s w hs hT
  by_cases h0:opW s = 0
  · have e:dec s = zeroI:=if_pos h0
    rw [e]
    have e2:decide (opW s ≠ 0) = false:=by simp [h0]
    rw [e2]
    rw [h0] at hl
    exact decode_zero s w _ hT hl
  · have e:dec s = parts (opW s) s (fmW s):=if_neg h0
    rw [e]
    have e2:decide (opW s ≠ 0) = true:=by simp [h0]
    have ho:(opW s == 0) = false:=by simp [h0]
    rw [e2]
    have hm:=fm_sh (pc s 0 7) (pc s 12 3)
    have ef:fmC (pc s 0 7) (pc s 12 3) = fmW s:=rfl
    rw [ef] at hm
    have hno:fmW s = .no → opW s = 0:=fun h=>no_zero _ _ _ _ h
    generalize fmW s = fm at *
    cases fm with
    | up=>exact decode_up s w _ hs ho hT hl
    | jp=>exact decode_jp s w _ hs ho hT hl
    | im=>exact decode_im s w _ hs ho hT hl
    | br=>exact decode_br s w _ hs ho hT hl
    | st=>exact decode_st s w _ hs ho hT hl
    | rg=>exact decode_rg s w _ hs ho hT hl
    | am=>exact decode_am s w _ hs ho hT hl
    | ba=>exact decode_ba s w _ hs ho hT hl
    | sh m=>exact decode_sh s w _ m (hm m rfl) hs ho hT hl
    | no=>exact absurd (hno rfl) h0
end Go.Proofs.YtlhpodholnfppaaGreatDoor.Td

namespace Go.Proofs.YtlhpodholnfppaaGreatDoor.Td
open Go.ChangeShapes Go.WideShapes Go.ChangeAt Go.RowKit
def laidS : List (String × DataW Unit) := [("marionette/comp.operators", Rows.laid_marionette_comp_operators), ("marionette/comp.reckoners", Rows.laid_marionette_comp_reckoners), ("marionette/inst.jumps", Rows.laid_marionette_inst_jumps), ("marionette/inst.branches", Rows.laid_marionette_inst_branches), ("marionette/inst.loads", Rows.laid_marionette_inst_loads), ("marionette/inst.stores", Rows.laid_marionette_inst_stores), ("marionette/inst.immediates", Rows.laid_marionette_inst_immediates), ("marionette/inst.shifts", Rows.laid_marionette_inst_shifts), ("marionette/inst.otherShifts", Rows.laid_marionette_inst_otherShifts), ("marionette/inst.plain", Rows.laid_marionette_inst_plain), ("marionette/inst.otherPlain", Rows.laid_marionette_inst_otherPlain), ("marionette/inst.products", Rows.laid_marionette_inst_products), ("marionette/inst.narrowImmediates", Rows.laid_marionette_inst_narrowImmediates), ("marionette/inst.narrowShifts", Rows.laid_marionette_inst_narrowShifts), ("marionette/inst.otherNarrowShifts", Rows.laid_marionette_inst_otherNarrowShifts), ("marionette/inst.narrowPlain", Rows.laid_marionette_inst_narrowPlain), ("marionette/inst.otherNarrowPlain", Rows.laid_marionette_inst_otherNarrowPlain), ("marionette/inst.narrowProducts", Rows.laid_marionette_inst_narrowProducts), ("marionette/inst.fences", Rows.laid_marionette_inst_fences), ("marionette/inst.atomicWords", Rows.laid_marionette_inst_atomicWords), ("marionette/inst.atomicDoubles", Rows.laid_marionette_inst_atomicDoubles)]
theorem cells67:Tryz.prog.cellsOf 220 = 32:=by kernel_rfl
structure TabsS (w:World):Prop where
  c:TabsC w
  i:Tabs w
theorem gS1 : Tryz.prog.globalNamed "marionette/inst.jumps" = some 1 := by kernel_rfl
theorem yS1:(Tryz.prog.globals[1]?).map (·.type) = some 209:=by kernel_rfl
theorem gS2 : Tryz.prog.globalNamed "marionette/inst.branches" = some 2 := by kernel_rfl
theorem yS2:(Tryz.prog.globals[2]?).map (·.type) = some 209:=by kernel_rfl
theorem gS3 : Tryz.prog.globalNamed "marionette/inst.loads" = some 3 := by kernel_rfl
theorem yS3:(Tryz.prog.globals[3]?).map (·.type) = some 209:=by kernel_rfl
theorem gS4 : Tryz.prog.globalNamed "marionette/inst.stores" = some 4 := by kernel_rfl
theorem yS4:(Tryz.prog.globals[4]?).map (·.type) = some 209:=by kernel_rfl
theorem gS13 : Tryz.prog.globalNamed "marionette/inst.immediates" = some 12 := by kernel_rfl
theorem yS13:(Tryz.prog.globals[12]?).map (·.type) = some 209:=by kernel_rfl
theorem gS14 : Tryz.prog.globalNamed "marionette/inst.shifts" = some 13 := by kernel_rfl
theorem yS14:(Tryz.prog.globals[13]?).map (·.type) = some 209:=by kernel_rfl
theorem gS15 : Tryz.prog.globalNamed "marionette/inst.otherShifts" = some 14 := by kernel_rfl
theorem yS15:(Tryz.prog.globals[14]?).map (·.type) = some 209:=by kernel_rfl
theorem gS5 : Tryz.prog.globalNamed "marionette/inst.plain" = some 5 := by kernel_rfl
theorem yS5:(Tryz.prog.globals[5]?).map (·.type) = some 209:=by kernel_rfl
theorem gS6 : Tryz.prog.globalNamed "marionette/inst.otherPlain" = some 6 := by kernel_rfl
theorem yS6:(Tryz.prog.globals[6]?).map (·.type) = some 209:=by kernel_rfl
theorem gS7 : Tryz.prog.globalNamed "marionette/inst.products" = some 7 := by kernel_rfl
theorem yS7:(Tryz.prog.globals[7]?).map (·.type) = some 209:=by kernel_rfl
theorem gS16 : Tryz.prog.globalNamed "marionette/inst.narrowImmediates" = some 15 := by kernel_rfl
theorem yS16:(Tryz.prog.globals[15]?).map (·.type) = some 209:=by kernel_rfl
theorem gS17 : Tryz.prog.globalNamed "marionette/inst.narrowShifts" = some 16 := by kernel_rfl
theorem yS17:(Tryz.prog.globals[16]?).map (·.type) = some 209:=by kernel_rfl
theorem gS18 : Tryz.prog.globalNamed "marionette/inst.otherNarrowShifts" = some 17 := by kernel_rfl
theorem yS18:(Tryz.prog.globals[17]?).map (·.type) = some 209:=by kernel_rfl
theorem gS8 : Tryz.prog.globalNamed "marionette/inst.narrowPlain" = some 8 := by kernel_rfl
theorem yS8:(Tryz.prog.globals[8]?).map (·.type) = some 209:=by kernel_rfl
theorem gS9 : Tryz.prog.globalNamed "marionette/inst.otherNarrowPlain" = some 9 := by kernel_rfl
theorem yS9:(Tryz.prog.globals[9]?).map (·.type) = some 209:=by kernel_rfl
theorem gS10 : Tryz.prog.globalNamed "marionette/inst.narrowProducts" = some 10 := by kernel_rfl
theorem yS10:(Tryz.prog.globals[10]?).map (·.type) = some 209:=by kernel_rfl
theorem gS11 : Tryz.prog.globalNamed "marionette/inst.fences" = some 11 := by kernel_rfl
theorem yS11:(Tryz.prog.globals[11]?).map (·.type) = some 209:=by kernel_rfl
theorem gS19 : Tryz.prog.globalNamed "marionette/inst.atomicWords" = some 18 := by kernel_rfl
theorem yS19:(Tryz.prog.globals[18]?).map (·.type) = some 220:=by kernel_rfl
theorem gS20 : Tryz.prog.globalNamed "marionette/inst.atomicDoubles" = some 19 := by kernel_rfl
theorem yS20:(Tryz.prog.globals[19]?).map (·.type) = some 220:=by kernel_rfl
theorem of_laidS {W:World} (h:laidMetH Tryz.prog laidS W):TabsS W:=by
  rw [MakeChecks.laidMetH_plain _ _ _ (by kernel_rfl)] at h
  have mO:=tabO_of h
  replace h:=h.tail
  have mR:=tabR_of h
  replace h:=h.tail
  have m1:Tab W 1 [4,0,0,0,0,0,0,0]:=fun i hi=>(Lib.tabIs_of_head (k:=.i64) (zs:=[4,0,0,0,0,0,0,0]) gS1 yS1 Tryz.underlying209 Tryz.underlying3 cells3 cells44 h).cell gS1 i hi
  replace h:=h.tail
  have m2:Tab W 2 [5,6,0,0,7,8,9,10]:=fun i hi=>(Lib.tabIs_of_head (k:=.i64) (zs:=[5,6,0,0,7,8,9,10]) gS2 yS2 Tryz.underlying209 Tryz.underlying3 cells3 cells44 h).cell gS2 i hi
  replace h:=h.tail
  have m3:Tab W 3 [11,12,13,14,15,16,17,0]:=fun i hi=>(Lib.tabIs_of_head (k:=.i64) (zs:=[11,12,13,14,15,16,17,0]) gS3 yS3 Tryz.underlying209 Tryz.underlying3 cells3 cells44 h).cell gS3 i hi
  replace h:=h.tail
  have m4:Tab W 4 [18,19,20,21,0,0,0,0]:=fun i hi=>(Lib.tabIs_of_head (k:=.i64) (zs:=[18,19,20,21,0,0,0,0]) gS4 yS4 Tryz.underlying209 Tryz.underlying3 cells3 cells44 h).cell gS4 i hi
  replace h:=h.tail
  have m13:Tab W 12 [22,0,23,24,25,0,26,27]:=fun i hi=>(Lib.tabIs_of_head (k:=.i64) (zs:=[22,0,23,24,25,0,26,27]) gS13 yS13 Tryz.underlying209 Tryz.underlying3 cells3 cells44 h).cell gS13 i hi
  replace h:=h.tail
  have m14:Tab W 13 [0,28,0,0,0,29,0,0]:=fun i hi=>(Lib.tabIs_of_head (k:=.i64) (zs:=[0,28,0,0,0,29,0,0]) gS14 yS14 Tryz.underlying209 Tryz.underlying3 cells3 cells44 h).cell gS14 i hi
  replace h:=h.tail
  have m15:Tab W 14 [0,0,0,0,0,30,0,0]:=fun i hi=>(Lib.tabIs_of_head (k:=.i64) (zs:=[0,0,0,0,0,30,0,0]) gS15 yS15 Tryz.underlying209 Tryz.underlying3 cells3 cells44 h).cell gS15 i hi
  replace h:=h.tail
  have m5:Tab W 5 [31,33,34,35,36,37,39,40]:=fun i hi=>(Lib.tabIs_of_head (k:=.i64) (zs:=[31,33,34,35,36,37,39,40]) gS5 yS5 Tryz.underlying209 Tryz.underlying3 cells3 cells44 h).cell gS5 i hi
  replace h:=h.tail
  have m6:Tab W 6 [32,0,0,0,0,38,0,0]:=fun i hi=>(Lib.tabIs_of_head (k:=.i64) (zs:=[32,0,0,0,0,38,0,0]) gS6 yS6 Tryz.underlying209 Tryz.underlying3 cells3 cells44 h).cell gS6 i hi
  replace h:=h.tail
  have m7:Tab W 7 [50,51,52,53,54,55,56,57]:=fun i hi=>(Lib.tabIs_of_head (k:=.i64) (zs:=[50,51,52,53,54,55,56,57]) gS7 yS7 Tryz.underlying209 Tryz.underlying3 cells3 cells44 h).cell gS7 i hi
  replace h:=h.tail
  have m16:Tab W 15 [41,0,0,0,0,0,0,0]:=fun i hi=>(Lib.tabIs_of_head (k:=.i64) (zs:=[41,0,0,0,0,0,0,0]) gS16 yS16 Tryz.underlying209 Tryz.underlying3 cells3 cells44 h).cell gS16 i hi
  replace h:=h.tail
  have m17:Tab W 16 [0,42,0,0,0,43,0,0]:=fun i hi=>(Lib.tabIs_of_head (k:=.i64) (zs:=[0,42,0,0,0,43,0,0]) gS17 yS17 Tryz.underlying209 Tryz.underlying3 cells3 cells44 h).cell gS17 i hi
  replace h:=h.tail
  have m18:Tab W 17 [0,0,0,0,0,44,0,0]:=fun i hi=>(Lib.tabIs_of_head (k:=.i64) (zs:=[0,0,0,0,0,44,0,0]) gS18 yS18 Tryz.underlying209 Tryz.underlying3 cells3 cells44 h).cell gS18 i hi
  replace h:=h.tail
  have m8:Tab W 8 [45,47,0,0,0,48,0,0]:=fun i hi=>(Lib.tabIs_of_head (k:=.i64) (zs:=[45,47,0,0,0,48,0,0]) gS8 yS8 Tryz.underlying209 Tryz.underlying3 cells3 cells44 h).cell gS8 i hi
  replace h:=h.tail
  have m9:Tab W 9 [46,0,0,0,0,49,0,0]:=fun i hi=>(Lib.tabIs_of_head (k:=.i64) (zs:=[46,0,0,0,0,49,0,0]) gS9 yS9 Tryz.underlying209 Tryz.underlying3 cells3 cells44 h).cell gS9 i hi
  replace h:=h.tail
  have m10:Tab W 10 [58,0,0,0,59,60,61,62]:=fun i hi=>(Lib.tabIs_of_head (k:=.i64) (zs:=[58,0,0,0,59,60,61,62]) gS10 yS10 Tryz.underlying209 Tryz.underlying3 cells3 cells44 h).cell gS10 i hi
  replace h:=h.tail
  have m11:Tab W 11 [85,86,0,0,0,0,0,0]:=fun i hi=>(Lib.tabIs_of_head (k:=.i64) (zs:=[85,86,0,0,0,0,0,0]) gS11 yS11 Tryz.underlying209 Tryz.underlying3 cells3 cells44 h).cell gS11 i hi
  replace h:=h.tail
  have m19:Tab W 18 [66,65,63,64,67,0,0,0,69,0,0,0,68,0,0,0,70,0,0,0,71,0,0,0,72,0,0,0,73,0,0,0]:=fun i hi=>(Lib.tabIs_of_head (k:=.i64) (zs:=[66,65,63,64,67,0,0,0,69,0,0,0,68,0,0,0,70,0,0,0,71,0,0,0,72,0,0,0,73,0,0,0]) gS19 yS19 Tryz.underlying220 Tryz.underlying3 cells3 cells67 h).cell gS19 i hi
  replace h:=h.tail
  have m20:Tab W 19 [77,76,74,75,78,0,0,0,80,0,0,0,79,0,0,0,81,0,0,0,82,0,0,0,83,0,0,0,84,0,0,0]:=fun i hi=>(Lib.tabIs_of_head (k:=.i64) (zs:=[77,76,74,75,78,0,0,0,80,0,0,0,79,0,0,0,81,0,0,0,82,0,0,0,83,0,0,0,84,0,0,0]) gS20 yS20 Tryz.underlying220 Tryz.underlying3 cells3 cells67 h).cell gS20 i hi
  replace h:=h.tail
  exact ⟨⟨mO,mR⟩,⟨m1,m2,m3,m4,m5,m6,m7,m8,m9,m10,m11,m13,m14,m15,m16,m17,m18,m19,m20⟩⟩
set_option maxRecDepth 100000 in
theorem door_metS (os:Os) (args:Array Value):laidMetH Tryz.prog laidS ((World.doorLaid Tryz.prog 117 os).forCall (fun _ _=>0) ⟨#[],args,[]⟩).memory:=
  laidMetH_of_parts3 (fuel:=8) (laidMet_of_run' 8 (by kernel_rfl) (by kernel_rfl)) (by kernel_rfl) (by kernel_rfl)
end Go.Proofs.YtlhpodholnfppaaGreatDoor.Td
