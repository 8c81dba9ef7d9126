/-
  The contract of look, a code each.
-/
import Derived.Test.YtlhpodholnfppaaGreatDoorT20
import Derived.Lib.Hide
set_option linter.unusedVariables false
set_option linter.unusedSimpArgs false
set_option maxHeartbeats 16000000
open Go.Lib (hid)
namespace Go.Proofs.YtlhpodholnfppaaGreatDoor.Td
open Go.RowKit
set_option maxRecDepth 100000
inductive Fm | up | jp | im | sh (m:Nat) | br | st | rg | am | ba | no
def FormV (b:Nat) (w:World):Fm → Value → Prop
  | .up,v=>v = .func (.func 196) #[] #[]
  | .jp,v=>v = .func (.func 197) #[] #[]
  | .im,v=>v = .func (.func 198) #[] #[]
  | .br,v=>v = .func (.func 199) #[] #[]
  | .st,v=>v = .func (.func 200) #[] #[]
  | .rg,v=>v = .func (.func 203) #[] #[]
  | .am,v=>v = .func (.func 206) #[] #[]
  | .ba,v=>v = .func (.func 207) #[] #[]
  | .no,v=>v = .nilFunc
  | .sh m,v=>∃ Q,v = .func (.func 240) #[] #[.pointer (some ⟨Q,0,none⟩)]∧Has w Q 3 #[.int .i64 m]∧b ≤ Q
def T0:List Int:=[4,0,0,0,0,0,0,0]
def T1:List Int:=[5,6,0,0,7,8,9,10]
def T2:List Int:=[11,12,13,14,15,16,17,0]
def T3:List Int:=[18,19,20,21,0,0,0,0]
def T4:List Int:=[31,33,34,35,36,37,39,40]
def T5:List Int:=[32,0,0,0,0,38,0,0]
def T6:List Int:=[50,51,52,53,54,55,56,57]
def T7:List Int:=[45,47,0,0,0,48,0,0]
def T8:List Int:=[46,0,0,0,0,49,0,0]
def T9:List Int:=[58,0,0,0,59,60,61,62]
def T10:List Int:=[85,86,0,0,0,0,0,0]
def T12:List Int:=[0,28,0,0,0,29,0,0]
def T13:List Int:=[0,0,0,0,0,30,0,0]
def T15:List Int:=[0,42,0,0,0,43,0,0]
def T16:List Int:=[0,0,0,0,0,44,0,0]

abbrev LookPost (s:Nat) (w:World) (o:Int) (fm:Fm):Ending → World → Prop:=fun e w'=>∃ v,e = .returned (.tuple #[.int .i64 o,v])∧FormV w.heap.size w' fm v∧Kp none w w'

theorem t14_zero:∀ f:Nat,f < 8 → f ≠ 0 → ([41,0,0,0,0,0,0,0]:List Int).getD f 0 = 0:=by decide
theorem look_lui (s:Nat) (w:World) (hs:s < 4294967296) (hT:Tabs w) (hc:pc s 0 7 = 55) :
    Calls Tryz.prog 171 #[.int .u32 s] w (LookPost s w 1 .up):=by
  have P1:=hid (fun w=>piece_any s 12 3 w hs (by omega) (by omega))
  have P2:=hid (fun w=>piece_any s 25 7 w hs (by omega) (by omega))
  have P3:=hid (fun w=>piece_any s 0 7 w hs (by omega) (by omega))
  rw [hc] at P3
  have hf:pc s 12 3 < 8:=pc_lt s 12 3
  have hg:pc s 25 7 < 128:=pc_lt s 25 7
  clear hc
  generalize pc s 12 3 = f at *
  generalize pc s 25 7 = g at *
  have hf0:(0:Int) ≤ (f:Int):=by omega
  have hf1:(f:Int) < 8:=by omega
  clear hT
  go_enter Tryz.func171,Tryz.ntmps171
  go_wp2_with fail
  refine (P1.out _).mono ?_
  rintro e w1 ⟨rfl,q1,rfl⟩
  go_wp2_with fail
  refine (P2.out _).mono ?_
  rintro e w1 ⟨rfl,q2,rfl⟩
  go_wp2_with fail
  refine (P3.out _).mono ?_
  rintro e w1 ⟨rfl,q3,rfl⟩
  go_wp2
  go_ret2
  exact ⟨_,rfl,rfl,(Kp.refl _ _).drewN _⟩

theorem look_auipc (s:Nat) (w:World) (hs:s < 4294967296) (hT:Tabs w) (hc:pc s 0 7 = 23) :
    Calls Tryz.prog 171 #[.int .u32 s] w (LookPost s w 2 .up):=by
  have P1:=hid (fun w=>piece_any s 12 3 w hs (by omega) (by omega))
  have P2:=hid (fun w=>piece_any s 25 7 w hs (by omega) (by omega))
  have P3:=hid (fun w=>piece_any s 0 7 w hs (by omega) (by omega))
  rw [hc] at P3
  have hf:pc s 12 3 < 8:=pc_lt s 12 3
  have hg:pc s 25 7 < 128:=pc_lt s 25 7
  clear hc
  generalize pc s 12 3 = f at *
  generalize pc s 25 7 = g at *
  have hf0:(0:Int) ≤ (f:Int):=by omega
  have hf1:(f:Int) < 8:=by omega
  clear hT
  go_enter Tryz.func171,Tryz.ntmps171
  go_wp2_with fail
  refine (P1.out _).mono ?_
  rintro e w1 ⟨rfl,q1,rfl⟩
  go_wp2_with fail
  refine (P2.out _).mono ?_
  rintro e w1 ⟨rfl,q2,rfl⟩
  go_wp2_with fail
  refine (P3.out _).mono ?_
  rintro e w1 ⟨rfl,q3,rfl⟩
  go_wp2
  go_ret2
  exact ⟨_,rfl,rfl,(Kp.refl _ _).drewN _⟩

theorem look_jal (s:Nat) (w:World) (hs:s < 4294967296) (hT:Tabs w) (hc:pc s 0 7 = 111) :
    Calls Tryz.prog 171 #[.int .u32 s] w (LookPost s w 3 .jp):=by
  have P1:=hid (fun w=>piece_any s 12 3 w hs (by omega) (by omega))
  have P2:=hid (fun w=>piece_any s 25 7 w hs (by omega) (by omega))
  have P3:=hid (fun w=>piece_any s 0 7 w hs (by omega) (by omega))
  rw [hc] at P3
  have hf:pc s 12 3 < 8:=pc_lt s 12 3
  have hg:pc s 25 7 < 128:=pc_lt s 25 7
  clear hc
  generalize pc s 12 3 = f at *
  generalize pc s 25 7 = g at *
  have hf0:(0:Int) ≤ (f:Int):=by omega
  have hf1:(f:Int) < 8:=by omega
  clear hT
  go_enter Tryz.func171,Tryz.ntmps171
  go_wp2_with fail
  refine (P1.out _).mono ?_
  rintro e w1 ⟨rfl,q1,rfl⟩
  go_wp2_with fail
  refine (P2.out _).mono ?_
  rintro e w1 ⟨rfl,q2,rfl⟩
  go_wp2_with fail
  refine (P3.out _).mono ?_
  rintro e w1 ⟨rfl,q3,rfl⟩
  go_wp2
  go_ret2
  exact ⟨_,rfl,rfl,(Kp.refl _ _).drewN _⟩

theorem look_jalr (s:Nat) (w:World) (hs:s < 4294967296) (hT:Tabs w) (hc:pc s 0 7 = 103) :
    Calls Tryz.prog 171 #[.int .u32 s] w (LookPost s w (T0.getD (pc s 12 3) 0) .im):=by
  have ht:w.cell? ⟨1,pc s 12 3,none⟩ = some (.int .i64 (T0.getD (pc s 12 3) 0)):=hT.t0 _ (pc_lt s 12 3)
  generalize T0.getD (pc s 12 3) 0 = o at *
  have P1:=hid (fun w=>piece_any s 12 3 w hs (by omega) (by omega))
  have P2:=hid (fun w=>piece_any s 25 7 w hs (by omega) (by omega))
  have P3:=hid (fun w=>piece_any s 0 7 w hs (by omega) (by omega))
  rw [hc] at P3
  have hf:pc s 12 3 < 8:=pc_lt s 12 3
  have hg:pc s 25 7 < 128:=pc_lt s 25 7
  clear hc
  generalize pc s 12 3 = f at *
  generalize pc s 25 7 = g at *
  have hf0:(0:Int) ≤ (f:Int):=by omega
  have hf1:(f:Int) < 8:=by omega
  clear hT
  go_enter Tryz.func171,Tryz.ntmps171
  go_wp2_with fail
  refine (P1.out _).mono ?_
  rintro e w1 ⟨rfl,q1,rfl⟩
  go_wp2_with fail
  refine (P2.out _).mono ?_
  rintro e w1 ⟨rfl,q2,rfl⟩
  go_wp2_with fail
  refine (P3.out _).mono ?_
  rintro e w1 ⟨rfl,q3,rfl⟩
  go_wp2
  go_ret2
  exact ⟨_,rfl,rfl,(Kp.refl _ _).drewN _⟩

theorem look_branch (s:Nat) (w:World) (hs:s < 4294967296) (hT:Tabs w) (hc:pc s 0 7 = 99) :
    Calls Tryz.prog 171 #[.int .u32 s] w (LookPost s w (T1.getD (pc s 12 3) 0) .br):=by
  have ht:w.cell? ⟨2,pc s 12 3,none⟩ = some (.int .i64 (T1.getD (pc s 12 3) 0)):=hT.t1 _ (pc_lt s 12 3)
  generalize T1.getD (pc s 12 3) 0 = o at *
  have P1:=hid (fun w=>piece_any s 12 3 w hs (by omega) (by omega))
  have P2:=hid (fun w=>piece_any s 25 7 w hs (by omega) (by omega))
  have P3:=hid (fun w=>piece_any s 0 7 w hs (by omega) (by omega))
  rw [hc] at P3
  have hf:pc s 12 3 < 8:=pc_lt s 12 3
  have hg:pc s 25 7 < 128:=pc_lt s 25 7
  clear hc
  generalize pc s 12 3 = f at *
  generalize pc s 25 7 = g at *
  have hf0:(0:Int) ≤ (f:Int):=by omega
  have hf1:(f:Int) < 8:=by omega
  clear hT
  go_enter Tryz.func171,Tryz.ntmps171
  go_wp2_with fail
  refine (P1.out _).mono ?_
  rintro e w1 ⟨rfl,q1,rfl⟩
  go_wp2_with fail
  refine (P2.out _).mono ?_
  rintro e w1 ⟨rfl,q2,rfl⟩
  go_wp2_with fail
  refine (P3.out _).mono ?_
  rintro e w1 ⟨rfl,q3,rfl⟩
  go_wp2
  go_ret2
  exact ⟨_,rfl,rfl,(Kp.refl _ _).drewN _⟩

theorem look_load (s:Nat) (w:World) (hs:s < 4294967296) (hT:Tabs w) (hc:pc s 0 7 = 3) :
    Calls Tryz.prog 171 #[.int .u32 s] w (LookPost s w (T2.getD (pc s 12 3) 0) .im):=by
  have ht:w.cell? ⟨3,pc s 12 3,none⟩ = some (.int .i64 (T2.getD (pc s 12 3) 0)):=hT.t2 _ (pc_lt s 12 3)
  generalize T2.getD (pc s 12 3) 0 = o at *
  have P1:=hid (fun w=>piece_any s 12 3 w hs (by omega) (by omega))
  have P2:=hid (fun w=>piece_any s 25 7 w hs (by omega) (by omega))
  have P3:=hid (fun w=>piece_any s 0 7 w hs (by omega) (by omega))
  rw [hc] at P3
  have hf:pc s 12 3 < 8:=pc_lt s 12 3
  have hg:pc s 25 7 < 128:=pc_lt s 25 7
  clear hc
  generalize pc s 12 3 = f at *
  generalize pc s 25 7 = g at *
  have hf0:(0:Int) ≤ (f:Int):=by omega
  have hf1:(f:Int) < 8:=by omega
  clear hT
  go_enter Tryz.func171,Tryz.ntmps171
  go_wp2_with fail
  refine (P1.out _).mono ?_
  rintro e w1 ⟨rfl,q1,rfl⟩
  go_wp2_with fail
  refine (P2.out _).mono ?_
  rintro e w1 ⟨rfl,q2,rfl⟩
  go_wp2_with fail
  refine (P3.out _).mono ?_
  rintro e w1 ⟨rfl,q3,rfl⟩
  go_wp2
  go_ret2
  exact ⟨_,rfl,rfl,(Kp.refl _ _).drewN _⟩

theorem look_store (s:Nat) (w:World) (hs:s < 4294967296) (hT:Tabs w) (hc:pc s 0 7 = 35) :
    Calls Tryz.prog 171 #[.int .u32 s] w (LookPost s w (T3.getD (pc s 12 3) 0) .st):=by
  have ht:w.cell? ⟨4,pc s 12 3,none⟩ = some (.int .i64 (T3.getD (pc s 12 3) 0)):=hT.t3 _ (pc_lt s 12 3)
  generalize T3.getD (pc s 12 3) 0 = o at *
  have P1:=hid (fun w=>piece_any s 12 3 w hs (by omega) (by omega))
  have P2:=hid (fun w=>piece_any s 25 7 w hs (by omega) (by omega))
  have P3:=hid (fun w=>piece_any s 0 7 w hs (by omega) (by omega))
  rw [hc] at P3
  have hf:pc s 12 3 < 8:=pc_lt s 12 3
  have hg:pc s 25 7 < 128:=pc_lt s 25 7
  clear hc
  generalize pc s 12 3 = f at *
  generalize pc s 25 7 = g at *
  have hf0:(0:Int) ≤ (f:Int):=by omega
  have hf1:(f:Int) < 8:=by omega
  clear hT
  go_enter Tryz.func171,Tryz.ntmps171
  go_wp2_with fail
  refine (P1.out _).mono ?_
  rintro e w1 ⟨rfl,q1,rfl⟩
  go_wp2_with fail
  refine (P2.out _).mono ?_
  rintro e w1 ⟨rfl,q2,rfl⟩
  go_wp2_with fail
  refine (P3.out _).mono ?_
  rintro e w1 ⟨rfl,q3,rfl⟩
  go_wp2
  go_ret2
  exact ⟨_,rfl,rfl,(Kp.refl _ _).drewN _⟩

theorem look_fence (s:Nat) (w:World) (hs:s < 4294967296) (hT:Tabs w) (hc:pc s 0 7 = 15) :
    Calls Tryz.prog 171 #[.int .u32 s] w (LookPost s w (T10.getD (pc s 12 3) 0) .ba):=by
  have ht:w.cell? ⟨11,pc s 12 3,none⟩ = some (.int .i64 (T10.getD (pc s 12 3) 0)):=hT.t10 _ (pc_lt s 12 3)
  generalize T10.getD (pc s 12 3) 0 = o at *
  have P1:=hid (fun w=>piece_any s 12 3 w hs (by omega) (by omega))
  have P2:=hid (fun w=>piece_any s 25 7 w hs (by omega) (by omega))
  have P3:=hid (fun w=>piece_any s 0 7 w hs (by omega) (by omega))
  rw [hc] at P3
  have hf:pc s 12 3 < 8:=pc_lt s 12 3
  have hg:pc s 25 7 < 128:=pc_lt s 25 7
  clear hc
  generalize pc s 12 3 = f at *
  generalize pc s 25 7 = g at *
  have hf0:(0:Int) ≤ (f:Int):=by omega
  have hf1:(f:Int) < 8:=by omega
  clear hT
  go_enter Tryz.func171,Tryz.ntmps171
  go_wp2_with fail
  refine (P1.out _).mono ?_
  rintro e w1 ⟨rfl,q1,rfl⟩
  go_wp2_with fail
  refine (P2.out _).mono ?_
  rintro e w1 ⟨rfl,q2,rfl⟩
  go_wp2_with fail
  refine (P3.out _).mono ?_
  rintro e w1 ⟨rfl,q3,rfl⟩
  go_wp2
  go_ret2
  exact ⟨_,rfl,rfl,(Kp.refl _ _).drewN _⟩

theorem look_system (s:Nat) (w:World) (hs:s < 4294967296) (hT:Tabs w) (hc:pc s 0 7 = 115) :
    Calls Tryz.prog 171 #[.int .u32 s] w (LookPost s w (if s = 115 then 87 else if s = 1048691 then 88 else 0) .ba):=by
  have P1:=hid (fun w=>piece_any s 12 3 w hs (by omega) (by omega))
  have P2:=hid (fun w=>piece_any s 25 7 w hs (by omega) (by omega))
  have P3:=hid (fun w=>piece_any s 0 7 w hs (by omega) (by omega))
  rw [hc] at P3
  have hf:pc s 12 3 < 8:=pc_lt s 12 3
  have hg:pc s 25 7 < 128:=pc_lt s 25 7
  clear hc
  generalize pc s 12 3 = f at *
  generalize pc s 25 7 = g at *
  have hf0:(0:Int) ≤ (f:Int):=by omega
  have hf1:(f:Int) < 8:=by omega
  clear hT
  have LS:=hid (lookSystem_any s)
  generalize (if s = 115 then (87:Int) else if s = 1048691 then 88 else 0) = o at *
  go_enter Tryz.func171,Tryz.ntmps171
  go_wp2_with fail
  refine (P1.out _).mono ?_
  rintro e w1 ⟨rfl,q1,rfl⟩
  go_wp2_with fail
  refine (P2.out _).mono ?_
  rintro e w1 ⟨rfl,q2,rfl⟩
  go_wp2_with fail
  refine (P3.out _).mono ?_
  rintro e w1 ⟨rfl,q3,rfl⟩
  go_wp2_with fail
  refine (LS.out _).mono ?_
  rintro e w1 ⟨rfl,rfl⟩
  go_wp2
  go_ret2
  exact ⟨_,rfl,rfl,(Kp.refl _ _).drewN _⟩

theorem look_atomic (s:Nat) (w:World) (hs:s < 4294967296) (hT:Tabs w) (hc:pc s 0 7 = 47) :
    Calls Tryz.prog 171 #[.int .u32 s] w (LookPost s w (opA s (pc s 12 3)) .am):=by
  have LA:=hid (fun w (h:Tabs w)=>lookAtomic_any s (pc s 12 3) w hs h)
  generalize opA s (pc s 12 3) = o at *
  have P1:=hid (fun w=>piece_any s 12 3 w hs (by omega) (by omega))
  have P2:=hid (fun w=>piece_any s 25 7 w hs (by omega) (by omega))
  have P3:=hid (fun w=>piece_any s 0 7 w hs (by omega) (by omega))
  rw [hc] at P3
  have hf:pc s 12 3 < 8:=pc_lt s 12 3
  have hg:pc s 25 7 < 128:=pc_lt s 25 7
  clear hc
  generalize pc s 12 3 = f at *
  generalize pc s 25 7 = g at *
  have hf0:(0:Int) ≤ (f:Int):=by omega
  have hf1:(f:Int) < 8:=by omega
  have HT:=hid hT;clear hT
  go_enter Tryz.func171,Tryz.ntmps171
  go_wp2_with fail
  refine (P1.out _).mono ?_
  rintro e w1 ⟨rfl,q1,rfl⟩
  go_wp2_with fail
  refine (P2.out _).mono ?_
  rintro e w1 ⟨rfl,q2,rfl⟩
  go_wp2_with fail
  refine (P3.out _).mono ?_
  rintro e w1 ⟨rfl,q3,rfl⟩
  go_wp2_with fail
  refine (LA.out _ (HT.out.kp ((Kp.refl _ _).drewN _))).mono ?_
  rintro e w1 ⟨rfl,k1⟩
  go_wp2
  go_ret2
  exact ⟨_,rfl,rfl,((Kp.refl _ _).drewN _).trans k1⟩

theorem look_plain_a (s:Nat) (w:World) (hs:s < 4294967296) (hT:Tabs w) (hc:pc s 0 7 = 51) (h:pc s 25 7 = 0) :
    Calls Tryz.prog 171 #[.int .u32 s] w (LookPost s w ([31,33,34,35,36,37,39,40].getD (pc s 12 3) 0) .rg):=by
  have hix:=fun w=>index_run 31 33 34 35 36 37 39 40 (pc s 12 3) (pc_lt s 12 3) w
  generalize ([31,33,34,35,36,37,39,40]:List Int).getD (pc s 12 3) 0 = o at *
  have c4_0:w.cell? ⟨5,0,none⟩ = some (.int .i64 31):=hT.t4 0 (by decide)
  have c4_1:w.cell? ⟨5,1,none⟩ = some (.int .i64 33):=hT.t4 1 (by decide)
  have c4_2:w.cell? ⟨5,2,none⟩ = some (.int .i64 34):=hT.t4 2 (by decide)
  have c4_3:w.cell? ⟨5,3,none⟩ = some (.int .i64 35):=hT.t4 3 (by decide)
  have c4_4:w.cell? ⟨5,4,none⟩ = some (.int .i64 36):=hT.t4 4 (by decide)
  have c4_5:w.cell? ⟨5,5,none⟩ = some (.int .i64 37):=hT.t4 5 (by decide)
  have c4_6:w.cell? ⟨5,6,none⟩ = some (.int .i64 39):=hT.t4 6 (by decide)
  have c4_7:w.cell? ⟨5,7,none⟩ = some (.int .i64 40):=hT.t4 7 (by decide)
  have c5_0:w.cell? ⟨6,0,none⟩ = some (.int .i64 32):=hT.t5 0 (by decide)
  have c5_1:w.cell? ⟨6,1,none⟩ = some (.int .i64 0):=hT.t5 1 (by decide)
  have c5_2:w.cell? ⟨6,2,none⟩ = some (.int .i64 0):=hT.t5 2 (by decide)
  have c5_3:w.cell? ⟨6,3,none⟩ = some (.int .i64 0):=hT.t5 3 (by decide)
  have c5_4:w.cell? ⟨6,4,none⟩ = some (.int .i64 0):=hT.t5 4 (by decide)
  have c5_5:w.cell? ⟨6,5,none⟩ = some (.int .i64 38):=hT.t5 5 (by decide)
  have c5_6:w.cell? ⟨6,6,none⟩ = some (.int .i64 0):=hT.t5 6 (by decide)
  have c5_7:w.cell? ⟨6,7,none⟩ = some (.int .i64 0):=hT.t5 7 (by decide)
  have c6_0:w.cell? ⟨7,0,none⟩ = some (.int .i64 50):=hT.t6 0 (by decide)
  have c6_1:w.cell? ⟨7,1,none⟩ = some (.int .i64 51):=hT.t6 1 (by decide)
  have c6_2:w.cell? ⟨7,2,none⟩ = some (.int .i64 52):=hT.t6 2 (by decide)
  have c6_3:w.cell? ⟨7,3,none⟩ = some (.int .i64 53):=hT.t6 3 (by decide)
  have c6_4:w.cell? ⟨7,4,none⟩ = some (.int .i64 54):=hT.t6 4 (by decide)
  have c6_5:w.cell? ⟨7,5,none⟩ = some (.int .i64 55):=hT.t6 5 (by decide)
  have c6_6:w.cell? ⟨7,6,none⟩ = some (.int .i64 56):=hT.t6 6 (by decide)
  have c6_7:w.cell? ⟨7,7,none⟩ = some (.int .i64 57):=hT.t6 7 (by decide)
  have P1:=hid (fun w=>piece_any s 12 3 w hs (by omega) (by omega))
  have P2:=hid (fun w=>piece_any s 25 7 w hs (by omega) (by omega))
  have P3:=hid (fun w=>piece_any s 0 7 w hs (by omega) (by omega))
  rw [hc] at P3
  have hf:pc s 12 3 < 8:=pc_lt s 12 3
  have hg:pc s 25 7 < 128:=pc_lt s 25 7
  clear hc
  generalize pc s 12 3 = f at *
  generalize pc s 25 7 = g at *
  have hf0:(0:Int) ≤ (f:Int):=by omega
  have hf1:(f:Int) < 8:=by omega
  subst h
  clear hT
  go_enter Tryz.func171,Tryz.ntmps171
  go_wp2_with fail
  refine (P1.out _).mono ?_
  rintro e w1 ⟨rfl,q1,rfl⟩
  go_wp2_with fail
  refine (P2.out _).mono ?_
  rintro e w1 ⟨rfl,q2,rfl⟩
  go_wp2_with fail
  refine (P3.out _).mono ?_
  rintro e w1 ⟨rfl,q3,rfl⟩
  go_wp2_with fail
  refine (byF7_none 0 31 33 34 35 36 37 39 40 32 0 0 0 0 38 0 0 50 51 52 53 54 55 56 57 _ rfl).mono ?_
  rintro e w1 ⟨rfl,k1⟩
  go_wp2
  go_ret2
  exact ⟨_,rfl,rfl,((Kp.refl _ _).drewN _).trans k1⟩

theorem look_plain_b (s:Nat) (w:World) (hs:s < 4294967296) (hT:Tabs w) (hc:pc s 0 7 = 51) (h:pc s 25 7 = 32) :
    Calls Tryz.prog 171 #[.int .u32 s] w (LookPost s w ([32,0,0,0,0,38,0,0].getD (pc s 12 3) 0) .rg):=by
  have hix:=fun w=>index_run 32 0 0 0 0 38 0 0 (pc s 12 3) (pc_lt s 12 3) w
  generalize ([32,0,0,0,0,38,0,0]:List Int).getD (pc s 12 3) 0 = o at *
  have c4_0:w.cell? ⟨5,0,none⟩ = some (.int .i64 31):=hT.t4 0 (by decide)
  have c4_1:w.cell? ⟨5,1,none⟩ = some (.int .i64 33):=hT.t4 1 (by decide)
  have c4_2:w.cell? ⟨5,2,none⟩ = some (.int .i64 34):=hT.t4 2 (by decide)
  have c4_3:w.cell? ⟨5,3,none⟩ = some (.int .i64 35):=hT.t4 3 (by decide)
  have c4_4:w.cell? ⟨5,4,none⟩ = some (.int .i64 36):=hT.t4 4 (by decide)
  have c4_5:w.cell? ⟨5,5,none⟩ = some (.int .i64 37):=hT.t4 5 (by decide)
  have c4_6:w.cell? ⟨5,6,none⟩ = some (.int .i64 39):=hT.t4 6 (by decide)
  have c4_7:w.cell? ⟨5,7,none⟩ = some (.int .i64 40):=hT.t4 7 (by decide)
  have c5_0:w.cell? ⟨6,0,none⟩ = some (.int .i64 32):=hT.t5 0 (by decide)
  have c5_1:w.cell? ⟨6,1,none⟩ = some (.int .i64 0):=hT.t5 1 (by decide)
  have c5_2:w.cell? ⟨6,2,none⟩ = some (.int .i64 0):=hT.t5 2 (by decide)
  have c5_3:w.cell? ⟨6,3,none⟩ = some (.int .i64 0):=hT.t5 3 (by decide)
  have c5_4:w.cell? ⟨6,4,none⟩ = some (.int .i64 0):=hT.t5 4 (by decide)
  have c5_5:w.cell? ⟨6,5,none⟩ = some (.int .i64 38):=hT.t5 5 (by decide)
  have c5_6:w.cell? ⟨6,6,none⟩ = some (.int .i64 0):=hT.t5 6 (by decide)
  have c5_7:w.cell? ⟨6,7,none⟩ = some (.int .i64 0):=hT.t5 7 (by decide)
  have c6_0:w.cell? ⟨7,0,none⟩ = some (.int .i64 50):=hT.t6 0 (by decide)
  have c6_1:w.cell? ⟨7,1,none⟩ = some (.int .i64 51):=hT.t6 1 (by decide)
  have c6_2:w.cell? ⟨7,2,none⟩ = some (.int .i64 52):=hT.t6 2 (by decide)
  have c6_3:w.cell? ⟨7,3,none⟩ = some (.int .i64 53):=hT.t6 3 (by decide)
  have c6_4:w.cell? ⟨7,4,none⟩ = some (.int .i64 54):=hT.t6 4 (by decide)
  have c6_5:w.cell? ⟨7,5,none⟩ = some (.int .i64 55):=hT.t6 5 (by decide)
  have c6_6:w.cell? ⟨7,6,none⟩ = some (.int .i64 56):=hT.t6 6 (by decide)
  have c6_7:w.cell? ⟨7,7,none⟩ = some (.int .i64 57):=hT.t6 7 (by decide)
  have P1:=hid (fun w=>piece_any s 12 3 w hs (by omega) (by omega))
  have P2:=hid (fun w=>piece_any s 25 7 w hs (by omega) (by omega))
  have P3:=hid (fun w=>piece_any s 0 7 w hs (by omega) (by omega))
  rw [hc] at P3
  have hf:pc s 12 3 < 8:=pc_lt s 12 3
  have hg:pc s 25 7 < 128:=pc_lt s 25 7
  clear hc
  generalize pc s 12 3 = f at *
  generalize pc s 25 7 = g at *
  have hf0:(0:Int) ≤ (f:Int):=by omega
  have hf1:(f:Int) < 8:=by omega
  subst h
  clear hT
  go_enter Tryz.func171,Tryz.ntmps171
  go_wp2_with fail
  refine (P1.out _).mono ?_
  rintro e w1 ⟨rfl,q1,rfl⟩
  go_wp2_with fail
  refine (P2.out _).mono ?_
  rintro e w1 ⟨rfl,q2,rfl⟩
  go_wp2_with fail
  refine (P3.out _).mono ?_
  rintro e w1 ⟨rfl,q3,rfl⟩
  go_wp2_with fail
  refine (byF7_other 32 31 33 34 35 36 37 39 40 32 0 0 0 0 38 0 0 50 51 52 53 54 55 56 57 _ rfl).mono ?_
  rintro e w1 ⟨rfl,k1⟩
  go_wp2
  go_ret2
  exact ⟨_,rfl,rfl,((Kp.refl _ _).drewN _).trans k1⟩

theorem look_plain_p (s:Nat) (w:World) (hs:s < 4294967296) (hT:Tabs w) (hc:pc s 0 7 = 51) (h:pc s 25 7 = 1) :
    Calls Tryz.prog 171 #[.int .u32 s] w (LookPost s w ([50,51,52,53,54,55,56,57].getD (pc s 12 3) 0) .rg):=by
  have hix:=fun w=>index_run 50 51 52 53 54 55 56 57 (pc s 12 3) (pc_lt s 12 3) w
  generalize ([50,51,52,53,54,55,56,57]:List Int).getD (pc s 12 3) 0 = o at *
  have c4_0:w.cell? ⟨5,0,none⟩ = some (.int .i64 31):=hT.t4 0 (by decide)
  have c4_1:w.cell? ⟨5,1,none⟩ = some (.int .i64 33):=hT.t4 1 (by decide)
  have c4_2:w.cell? ⟨5,2,none⟩ = some (.int .i64 34):=hT.t4 2 (by decide)
  have c4_3:w.cell? ⟨5,3,none⟩ = some (.int .i64 35):=hT.t4 3 (by decide)
  have c4_4:w.cell? ⟨5,4,none⟩ = some (.int .i64 36):=hT.t4 4 (by decide)
  have c4_5:w.cell? ⟨5,5,none⟩ = some (.int .i64 37):=hT.t4 5 (by decide)
  have c4_6:w.cell? ⟨5,6,none⟩ = some (.int .i64 39):=hT.t4 6 (by decide)
  have c4_7:w.cell? ⟨5,7,none⟩ = some (.int .i64 40):=hT.t4 7 (by decide)
  have c5_0:w.cell? ⟨6,0,none⟩ = some (.int .i64 32):=hT.t5 0 (by decide)
  have c5_1:w.cell? ⟨6,1,none⟩ = some (.int .i64 0):=hT.t5 1 (by decide)
  have c5_2:w.cell? ⟨6,2,none⟩ = some (.int .i64 0):=hT.t5 2 (by decide)
  have c5_3:w.cell? ⟨6,3,none⟩ = some (.int .i64 0):=hT.t5 3 (by decide)
  have c5_4:w.cell? ⟨6,4,none⟩ = some (.int .i64 0):=hT.t5 4 (by decide)
  have c5_5:w.cell? ⟨6,5,none⟩ = some (.int .i64 38):=hT.t5 5 (by decide)
  have c5_6:w.cell? ⟨6,6,none⟩ = some (.int .i64 0):=hT.t5 6 (by decide)
  have c5_7:w.cell? ⟨6,7,none⟩ = some (.int .i64 0):=hT.t5 7 (by decide)
  have c6_0:w.cell? ⟨7,0,none⟩ = some (.int .i64 50):=hT.t6 0 (by decide)
  have c6_1:w.cell? ⟨7,1,none⟩ = some (.int .i64 51):=hT.t6 1 (by decide)
  have c6_2:w.cell? ⟨7,2,none⟩ = some (.int .i64 52):=hT.t6 2 (by decide)
  have c6_3:w.cell? ⟨7,3,none⟩ = some (.int .i64 53):=hT.t6 3 (by decide)
  have c6_4:w.cell? ⟨7,4,none⟩ = some (.int .i64 54):=hT.t6 4 (by decide)
  have c6_5:w.cell? ⟨7,5,none⟩ = some (.int .i64 55):=hT.t6 5 (by decide)
  have c6_6:w.cell? ⟨7,6,none⟩ = some (.int .i64 56):=hT.t6 6 (by decide)
  have c6_7:w.cell? ⟨7,7,none⟩ = some (.int .i64 57):=hT.t6 7 (by decide)
  have P1:=hid (fun w=>piece_any s 12 3 w hs (by omega) (by omega))
  have P2:=hid (fun w=>piece_any s 25 7 w hs (by omega) (by omega))
  have P3:=hid (fun w=>piece_any s 0 7 w hs (by omega) (by omega))
  rw [hc] at P3
  have hf:pc s 12 3 < 8:=pc_lt s 12 3
  have hg:pc s 25 7 < 128:=pc_lt s 25 7
  clear hc
  generalize pc s 12 3 = f at *
  generalize pc s 25 7 = g at *
  have hf0:(0:Int) ≤ (f:Int):=by omega
  have hf1:(f:Int) < 8:=by omega
  subst h
  clear hT
  go_enter Tryz.func171,Tryz.ntmps171
  go_wp2_with fail
  refine (P1.out _).mono ?_
  rintro e w1 ⟨rfl,q1,rfl⟩
  go_wp2_with fail
  refine (P2.out _).mono ?_
  rintro e w1 ⟨rfl,q2,rfl⟩
  go_wp2_with fail
  refine (P3.out _).mono ?_
  rintro e w1 ⟨rfl,q3,rfl⟩
  go_wp2_with fail
  refine (byF7_product 1 31 33 34 35 36 37 39 40 32 0 0 0 0 38 0 0 50 51 52 53 54 55 56 57 _ rfl).mono ?_
  rintro e w1 ⟨rfl,k1⟩
  go_wp2
  go_ret2
  exact ⟨_,rfl,rfl,((Kp.refl _ _).drewN _).trans k1⟩

theorem look_plain_c (s:Nat) (w:World) (hs:s < 4294967296) (hT:Tabs w) (hc:pc s 0 7 = 51) (h0:((pc s 25 7:Int) == 0) = false) (h1:((pc s 25 7:Int) == 32) = false) (h2:((pc s 25 7:Int) == 1) = false) :
    Calls Tryz.prog 171 #[.int .u32 s] w (LookPost s w ([0,0,0,0,0,0,0,0].getD (pc s 12 3) 0) .rg):=by
  have hix:=fun w=>index_run 0 0 0 0 0 0 0 0 (pc s 12 3) (pc_lt s 12 3) w
  generalize ([0,0,0,0,0,0,0,0]:List Int).getD (pc s 12 3) 0 = o at *
  have c4_0:w.cell? ⟨5,0,none⟩ = some (.int .i64 31):=hT.t4 0 (by decide)
  have c4_1:w.cell? ⟨5,1,none⟩ = some (.int .i64 33):=hT.t4 1 (by decide)
  have c4_2:w.cell? ⟨5,2,none⟩ = some (.int .i64 34):=hT.t4 2 (by decide)
  have c4_3:w.cell? ⟨5,3,none⟩ = some (.int .i64 35):=hT.t4 3 (by decide)
  have c4_4:w.cell? ⟨5,4,none⟩ = some (.int .i64 36):=hT.t4 4 (by decide)
  have c4_5:w.cell? ⟨5,5,none⟩ = some (.int .i64 37):=hT.t4 5 (by decide)
  have c4_6:w.cell? ⟨5,6,none⟩ = some (.int .i64 39):=hT.t4 6 (by decide)
  have c4_7:w.cell? ⟨5,7,none⟩ = some (.int .i64 40):=hT.t4 7 (by decide)
  have c5_0:w.cell? ⟨6,0,none⟩ = some (.int .i64 32):=hT.t5 0 (by decide)
  have c5_1:w.cell? ⟨6,1,none⟩ = some (.int .i64 0):=hT.t5 1 (by decide)
  have c5_2:w.cell? ⟨6,2,none⟩ = some (.int .i64 0):=hT.t5 2 (by decide)
  have c5_3:w.cell? ⟨6,3,none⟩ = some (.int .i64 0):=hT.t5 3 (by decide)
  have c5_4:w.cell? ⟨6,4,none⟩ = some (.int .i64 0):=hT.t5 4 (by decide)
  have c5_5:w.cell? ⟨6,5,none⟩ = some (.int .i64 38):=hT.t5 5 (by decide)
  have c5_6:w.cell? ⟨6,6,none⟩ = some (.int .i64 0):=hT.t5 6 (by decide)
  have c5_7:w.cell? ⟨6,7,none⟩ = some (.int .i64 0):=hT.t5 7 (by decide)
  have c6_0:w.cell? ⟨7,0,none⟩ = some (.int .i64 50):=hT.t6 0 (by decide)
  have c6_1:w.cell? ⟨7,1,none⟩ = some (.int .i64 51):=hT.t6 1 (by decide)
  have c6_2:w.cell? ⟨7,2,none⟩ = some (.int .i64 52):=hT.t6 2 (by decide)
  have c6_3:w.cell? ⟨7,3,none⟩ = some (.int .i64 53):=hT.t6 3 (by decide)
  have c6_4:w.cell? ⟨7,4,none⟩ = some (.int .i64 54):=hT.t6 4 (by decide)
  have c6_5:w.cell? ⟨7,5,none⟩ = some (.int .i64 55):=hT.t6 5 (by decide)
  have c6_6:w.cell? ⟨7,6,none⟩ = some (.int .i64 56):=hT.t6 6 (by decide)
  have c6_7:w.cell? ⟨7,7,none⟩ = some (.int .i64 57):=hT.t6 7 (by decide)
  have P1:=hid (fun w=>piece_any s 12 3 w hs (by omega) (by omega))
  have P2:=hid (fun w=>piece_any s 25 7 w hs (by omega) (by omega))
  have P3:=hid (fun w=>piece_any s 0 7 w hs (by omega) (by omega))
  rw [hc] at P3
  have hf:pc s 12 3 < 8:=pc_lt s 12 3
  have hg:pc s 25 7 < 128:=pc_lt s 25 7
  clear hc
  generalize pc s 12 3 = f at *
  generalize pc s 25 7 = g at *
  have hf0:(0:Int) ≤ (f:Int):=by omega
  have hf1:(f:Int) < 8:=by omega
  clear hT
  go_enter Tryz.func171,Tryz.ntmps171
  go_wp2_with fail
  refine (P1.out _).mono ?_
  rintro e w1 ⟨rfl,q1,rfl⟩
  go_wp2_with fail
  refine (P2.out _).mono ?_
  rintro e w1 ⟨rfl,q2,rfl⟩
  go_wp2_with fail
  refine (P3.out _).mono ?_
  rintro e w1 ⟨rfl,q3,rfl⟩
  go_wp2_with fail
  refine (byF7_else g 31 33 34 35 36 37 39 40 32 0 0 0 0 38 0 0 50 51 52 53 54 55 56 57 _ h0 h1 h2).mono ?_
  rintro e w1 ⟨rfl,k1⟩
  go_wp2
  go_ret2
  exact ⟨_,rfl,rfl,((Kp.refl _ _).drewN _).trans k1⟩

theorem look_narrow_a (s:Nat) (w:World) (hs:s < 4294967296) (hT:Tabs w) (hc:pc s 0 7 = 59) (h:pc s 25 7 = 0) :
    Calls Tryz.prog 171 #[.int .u32 s] w (LookPost s w ([45,47,0,0,0,48,0,0].getD (pc s 12 3) 0) .rg):=by
  have hix:=fun w=>index_run 45 47 0 0 0 48 0 0 (pc s 12 3) (pc_lt s 12 3) w
  generalize ([45,47,0,0,0,48,0,0]:List Int).getD (pc s 12 3) 0 = o at *
  have c7_0:w.cell? ⟨8,0,none⟩ = some (.int .i64 45):=hT.t7 0 (by decide)
  have c7_1:w.cell? ⟨8,1,none⟩ = some (.int .i64 47):=hT.t7 1 (by decide)
  have c7_2:w.cell? ⟨8,2,none⟩ = some (.int .i64 0):=hT.t7 2 (by decide)
  have c7_3:w.cell? ⟨8,3,none⟩ = some (.int .i64 0):=hT.t7 3 (by decide)
  have c7_4:w.cell? ⟨8,4,none⟩ = some (.int .i64 0):=hT.t7 4 (by decide)
  have c7_5:w.cell? ⟨8,5,none⟩ = some (.int .i64 48):=hT.t7 5 (by decide)
  have c7_6:w.cell? ⟨8,6,none⟩ = some (.int .i64 0):=hT.t7 6 (by decide)
  have c7_7:w.cell? ⟨8,7,none⟩ = some (.int .i64 0):=hT.t7 7 (by decide)
  have c8_0:w.cell? ⟨9,0,none⟩ = some (.int .i64 46):=hT.t8 0 (by decide)
  have c8_1:w.cell? ⟨9,1,none⟩ = some (.int .i64 0):=hT.t8 1 (by decide)
  have c8_2:w.cell? ⟨9,2,none⟩ = some (.int .i64 0):=hT.t8 2 (by decide)
  have c8_3:w.cell? ⟨9,3,none⟩ = some (.int .i64 0):=hT.t8 3 (by decide)
  have c8_4:w.cell? ⟨9,4,none⟩ = some (.int .i64 0):=hT.t8 4 (by decide)
  have c8_5:w.cell? ⟨9,5,none⟩ = some (.int .i64 49):=hT.t8 5 (by decide)
  have c8_6:w.cell? ⟨9,6,none⟩ = some (.int .i64 0):=hT.t8 6 (by decide)
  have c8_7:w.cell? ⟨9,7,none⟩ = some (.int .i64 0):=hT.t8 7 (by decide)
  have c9_0:w.cell? ⟨10,0,none⟩ = some (.int .i64 58):=hT.t9 0 (by decide)
  have c9_1:w.cell? ⟨10,1,none⟩ = some (.int .i64 0):=hT.t9 1 (by decide)
  have c9_2:w.cell? ⟨10,2,none⟩ = some (.int .i64 0):=hT.t9 2 (by decide)
  have c9_3:w.cell? ⟨10,3,none⟩ = some (.int .i64 0):=hT.t9 3 (by decide)
  have c9_4:w.cell? ⟨10,4,none⟩ = some (.int .i64 59):=hT.t9 4 (by decide)
  have c9_5:w.cell? ⟨10,5,none⟩ = some (.int .i64 60):=hT.t9 5 (by decide)
  have c9_6:w.cell? ⟨10,6,none⟩ = some (.int .i64 61):=hT.t9 6 (by decide)
  have c9_7:w.cell? ⟨10,7,none⟩ = some (.int .i64 62):=hT.t9 7 (by decide)
  have P1:=hid (fun w=>piece_any s 12 3 w hs (by omega) (by omega))
  have P2:=hid (fun w=>piece_any s 25 7 w hs (by omega) (by omega))
  have P3:=hid (fun w=>piece_any s 0 7 w hs (by omega) (by omega))
  rw [hc] at P3
  have hf:pc s 12 3 < 8:=pc_lt s 12 3
  have hg:pc s 25 7 < 128:=pc_lt s 25 7
  clear hc
  generalize pc s 12 3 = f at *
  generalize pc s 25 7 = g at *
  have hf0:(0:Int) ≤ (f:Int):=by omega
  have hf1:(f:Int) < 8:=by omega
  subst h
  clear hT
  go_enter Tryz.func171,Tryz.ntmps171
  go_wp2_with fail
  refine (P1.out _).mono ?_
  rintro e w1 ⟨rfl,q1,rfl⟩
  go_wp2_with fail
  refine (P2.out _).mono ?_
  rintro e w1 ⟨rfl,q2,rfl⟩
  go_wp2_with fail
  refine (P3.out _).mono ?_
  rintro e w1 ⟨rfl,q3,rfl⟩
  go_wp2_with fail
  refine (byF7_none 0 45 47 0 0 0 48 0 0 46 0 0 0 0 49 0 0 58 0 0 0 59 60 61 62 _ rfl).mono ?_
  rintro e w1 ⟨rfl,k1⟩
  go_wp2
  go_ret2
  exact ⟨_,rfl,rfl,((Kp.refl _ _).drewN _).trans k1⟩

theorem look_narrow_b (s:Nat) (w:World) (hs:s < 4294967296) (hT:Tabs w) (hc:pc s 0 7 = 59) (h:pc s 25 7 = 32) :
    Calls Tryz.prog 171 #[.int .u32 s] w (LookPost s w ([46,0,0,0,0,49,0,0].getD (pc s 12 3) 0) .rg):=by
  have hix:=fun w=>index_run 46 0 0 0 0 49 0 0 (pc s 12 3) (pc_lt s 12 3) w
  generalize ([46,0,0,0,0,49,0,0]:List Int).getD (pc s 12 3) 0 = o at *
  have c7_0:w.cell? ⟨8,0,none⟩ = some (.int .i64 45):=hT.t7 0 (by decide)
  have c7_1:w.cell? ⟨8,1,none⟩ = some (.int .i64 47):=hT.t7 1 (by decide)
  have c7_2:w.cell? ⟨8,2,none⟩ = some (.int .i64 0):=hT.t7 2 (by decide)
  have c7_3:w.cell? ⟨8,3,none⟩ = some (.int .i64 0):=hT.t7 3 (by decide)
  have c7_4:w.cell? ⟨8,4,none⟩ = some (.int .i64 0):=hT.t7 4 (by decide)
  have c7_5:w.cell? ⟨8,5,none⟩ = some (.int .i64 48):=hT.t7 5 (by decide)
  have c7_6:w.cell? ⟨8,6,none⟩ = some (.int .i64 0):=hT.t7 6 (by decide)
  have c7_7:w.cell? ⟨8,7,none⟩ = some (.int .i64 0):=hT.t7 7 (by decide)
  have c8_0:w.cell? ⟨9,0,none⟩ = some (.int .i64 46):=hT.t8 0 (by decide)
  have c8_1:w.cell? ⟨9,1,none⟩ = some (.int .i64 0):=hT.t8 1 (by decide)
  have c8_2:w.cell? ⟨9,2,none⟩ = some (.int .i64 0):=hT.t8 2 (by decide)
  have c8_3:w.cell? ⟨9,3,none⟩ = some (.int .i64 0):=hT.t8 3 (by decide)
  have c8_4:w.cell? ⟨9,4,none⟩ = some (.int .i64 0):=hT.t8 4 (by decide)
  have c8_5:w.cell? ⟨9,5,none⟩ = some (.int .i64 49):=hT.t8 5 (by decide)
  have c8_6:w.cell? ⟨9,6,none⟩ = some (.int .i64 0):=hT.t8 6 (by decide)
  have c8_7:w.cell? ⟨9,7,none⟩ = some (.int .i64 0):=hT.t8 7 (by decide)
  have c9_0:w.cell? ⟨10,0,none⟩ = some (.int .i64 58):=hT.t9 0 (by decide)
  have c9_1:w.cell? ⟨10,1,none⟩ = some (.int .i64 0):=hT.t9 1 (by decide)
  have c9_2:w.cell? ⟨10,2,none⟩ = some (.int .i64 0):=hT.t9 2 (by decide)
  have c9_3:w.cell? ⟨10,3,none⟩ = some (.int .i64 0):=hT.t9 3 (by decide)
  have c9_4:w.cell? ⟨10,4,none⟩ = some (.int .i64 59):=hT.t9 4 (by decide)
  have c9_5:w.cell? ⟨10,5,none⟩ = some (.int .i64 60):=hT.t9 5 (by decide)
  have c9_6:w.cell? ⟨10,6,none⟩ = some (.int .i64 61):=hT.t9 6 (by decide)
  have c9_7:w.cell? ⟨10,7,none⟩ = some (.int .i64 62):=hT.t9 7 (by decide)
  have P1:=hid (fun w=>piece_any s 12 3 w hs (by omega) (by omega))
  have P2:=hid (fun w=>piece_any s 25 7 w hs (by omega) (by omega))
  have P3:=hid (fun w=>piece_any s 0 7 w hs (by omega) (by omega))
  rw [hc] at P3
  have hf:pc s 12 3 < 8:=pc_lt s 12 3
  have hg:pc s 25 7 < 128:=pc_lt s 25 7
  clear hc
  generalize pc s 12 3 = f at *
  generalize pc s 25 7 = g at *
  have hf0:(0:Int) ≤ (f:Int):=by omega
  have hf1:(f:Int) < 8:=by omega
  subst h
  clear hT
  go_enter Tryz.func171,Tryz.ntmps171
  go_wp2_with fail
  refine (P1.out _).mono ?_
  rintro e w1 ⟨rfl,q1,rfl⟩
  go_wp2_with fail
  refine (P2.out _).mono ?_
  rintro e w1 ⟨rfl,q2,rfl⟩
  go_wp2_with fail
  refine (P3.out _).mono ?_
  rintro e w1 ⟨rfl,q3,rfl⟩
  go_wp2_with fail
  refine (byF7_other 32 45 47 0 0 0 48 0 0 46 0 0 0 0 49 0 0 58 0 0 0 59 60 61 62 _ rfl).mono ?_
  rintro e w1 ⟨rfl,k1⟩
  go_wp2
  go_ret2
  exact ⟨_,rfl,rfl,((Kp.refl _ _).drewN _).trans k1⟩

theorem look_narrow_p (s:Nat) (w:World) (hs:s < 4294967296) (hT:Tabs w) (hc:pc s 0 7 = 59) (h:pc s 25 7 = 1) :
    Calls Tryz.prog 171 #[.int .u32 s] w (LookPost s w ([58,0,0,0,59,60,61,62].getD (pc s 12 3) 0) .rg):=by
  have hix:=fun w=>index_run 58 0 0 0 59 60 61 62 (pc s 12 3) (pc_lt s 12 3) w
  generalize ([58,0,0,0,59,60,61,62]:List Int).getD (pc s 12 3) 0 = o at *
  have c7_0:w.cell? ⟨8,0,none⟩ = some (.int .i64 45):=hT.t7 0 (by decide)
  have c7_1:w.cell? ⟨8,1,none⟩ = some (.int .i64 47):=hT.t7 1 (by decide)
  have c7_2:w.cell? ⟨8,2,none⟩ = some (.int .i64 0):=hT.t7 2 (by decide)
  have c7_3:w.cell? ⟨8,3,none⟩ = some (.int .i64 0):=hT.t7 3 (by decide)
  have c7_4:w.cell? ⟨8,4,none⟩ = some (.int .i64 0):=hT.t7 4 (by decide)
  have c7_5:w.cell? ⟨8,5,none⟩ = some (.int .i64 48):=hT.t7 5 (by decide)
  have c7_6:w.cell? ⟨8,6,none⟩ = some (.int .i64 0):=hT.t7 6 (by decide)
  have c7_7:w.cell? ⟨8,7,none⟩ = some (.int .i64 0):=hT.t7 7 (by decide)
  have c8_0:w.cell? ⟨9,0,none⟩ = some (.int .i64 46):=hT.t8 0 (by decide)
  have c8_1:w.cell? ⟨9,1,none⟩ = some (.int .i64 0):=hT.t8 1 (by decide)
  have c8_2:w.cell? ⟨9,2,none⟩ = some (.int .i64 0):=hT.t8 2 (by decide)
  have c8_3:w.cell? ⟨9,3,none⟩ = some (.int .i64 0):=hT.t8 3 (by decide)
  have c8_4:w.cell? ⟨9,4,none⟩ = some (.int .i64 0):=hT.t8 4 (by decide)
  have c8_5:w.cell? ⟨9,5,none⟩ = some (.int .i64 49):=hT.t8 5 (by decide)
  have c8_6:w.cell? ⟨9,6,none⟩ = some (.int .i64 0):=hT.t8 6 (by decide)
  have c8_7:w.cell? ⟨9,7,none⟩ = some (.int .i64 0):=hT.t8 7 (by decide)
  have c9_0:w.cell? ⟨10,0,none⟩ = some (.int .i64 58):=hT.t9 0 (by decide)
  have c9_1:w.cell? ⟨10,1,none⟩ = some (.int .i64 0):=hT.t9 1 (by decide)
  have c9_2:w.cell? ⟨10,2,none⟩ = some (.int .i64 0):=hT.t9 2 (by decide)
  have c9_3:w.cell? ⟨10,3,none⟩ = some (.int .i64 0):=hT.t9 3 (by decide)
  have c9_4:w.cell? ⟨10,4,none⟩ = some (.int .i64 59):=hT.t9 4 (by decide)
  have c9_5:w.cell? ⟨10,5,none⟩ = some (.int .i64 60):=hT.t9 5 (by decide)
  have c9_6:w.cell? ⟨10,6,none⟩ = some (.int .i64 61):=hT.t9 6 (by decide)
  have c9_7:w.cell? ⟨10,7,none⟩ = some (.int .i64 62):=hT.t9 7 (by decide)
  have P1:=hid (fun w=>piece_any s 12 3 w hs (by omega) (by omega))
  have P2:=hid (fun w=>piece_any s 25 7 w hs (by omega) (by omega))
  have P3:=hid (fun w=>piece_any s 0 7 w hs (by omega) (by omega))
  rw [hc] at P3
  have hf:pc s 12 3 < 8:=pc_lt s 12 3
  have hg:pc s 25 7 < 128:=pc_lt s 25 7
  clear hc
  generalize pc s 12 3 = f at *
  generalize pc s 25 7 = g at *
  have hf0:(0:Int) ≤ (f:Int):=by omega
  have hf1:(f:Int) < 8:=by omega
  subst h
  clear hT
  go_enter Tryz.func171,Tryz.ntmps171
  go_wp2_with fail
  refine (P1.out _).mono ?_
  rintro e w1 ⟨rfl,q1,rfl⟩
  go_wp2_with fail
  refine (P2.out _).mono ?_
  rintro e w1 ⟨rfl,q2,rfl⟩
  go_wp2_with fail
  refine (P3.out _).mono ?_
  rintro e w1 ⟨rfl,q3,rfl⟩
  go_wp2_with fail
  refine (byF7_product 1 45 47 0 0 0 48 0 0 46 0 0 0 0 49 0 0 58 0 0 0 59 60 61 62 _ rfl).mono ?_
  rintro e w1 ⟨rfl,k1⟩
  go_wp2
  go_ret2
  exact ⟨_,rfl,rfl,((Kp.refl _ _).drewN _).trans k1⟩

theorem look_narrow_c (s:Nat) (w:World) (hs:s < 4294967296) (hT:Tabs w) (hc:pc s 0 7 = 59) (h0:((pc s 25 7:Int) == 0) = false) (h1:((pc s 25 7:Int) == 32) = false) (h2:((pc s 25 7:Int) == 1) = false) :
    Calls Tryz.prog 171 #[.int .u32 s] w (LookPost s w ([0,0,0,0,0,0,0,0].getD (pc s 12 3) 0) .rg):=by
  have hix:=fun w=>index_run 0 0 0 0 0 0 0 0 (pc s 12 3) (pc_lt s 12 3) w
  generalize ([0,0,0,0,0,0,0,0]:List Int).getD (pc s 12 3) 0 = o at *
  have c7_0:w.cell? ⟨8,0,none⟩ = some (.int .i64 45):=hT.t7 0 (by decide)
  have c7_1:w.cell? ⟨8,1,none⟩ = some (.int .i64 47):=hT.t7 1 (by decide)
  have c7_2:w.cell? ⟨8,2,none⟩ = some (.int .i64 0):=hT.t7 2 (by decide)
  have c7_3:w.cell? ⟨8,3,none⟩ = some (.int .i64 0):=hT.t7 3 (by decide)
  have c7_4:w.cell? ⟨8,4,none⟩ = some (.int .i64 0):=hT.t7 4 (by decide)
  have c7_5:w.cell? ⟨8,5,none⟩ = some (.int .i64 48):=hT.t7 5 (by decide)
  have c7_6:w.cell? ⟨8,6,none⟩ = some (.int .i64 0):=hT.t7 6 (by decide)
  have c7_7:w.cell? ⟨8,7,none⟩ = some (.int .i64 0):=hT.t7 7 (by decide)
  have c8_0:w.cell? ⟨9,0,none⟩ = some (.int .i64 46):=hT.t8 0 (by decide)
  have c8_1:w.cell? ⟨9,1,none⟩ = some (.int .i64 0):=hT.t8 1 (by decide)
  have c8_2:w.cell? ⟨9,2,none⟩ = some (.int .i64 0):=hT.t8 2 (by decide)
  have c8_3:w.cell? ⟨9,3,none⟩ = some (.int .i64 0):=hT.t8 3 (by decide)
  have c8_4:w.cell? ⟨9,4,none⟩ = some (.int .i64 0):=hT.t8 4 (by decide)
  have c8_5:w.cell? ⟨9,5,none⟩ = some (.int .i64 49):=hT.t8 5 (by decide)
  have c8_6:w.cell? ⟨9,6,none⟩ = some (.int .i64 0):=hT.t8 6 (by decide)
  have c8_7:w.cell? ⟨9,7,none⟩ = some (.int .i64 0):=hT.t8 7 (by decide)
  have c9_0:w.cell? ⟨10,0,none⟩ = some (.int .i64 58):=hT.t9 0 (by decide)
  have c9_1:w.cell? ⟨10,1,none⟩ = some (.int .i64 0):=hT.t9 1 (by decide)
  have c9_2:w.cell? ⟨10,2,none⟩ = some (.int .i64 0):=hT.t9 2 (by decide)
  have c9_3:w.cell? ⟨10,3,none⟩ = some (.int .i64 0):=hT.t9 3 (by decide)
  have c9_4:w.cell? ⟨10,4,none⟩ = some (.int .i64 59):=hT.t9 4 (by decide)
  have c9_5:w.cell? ⟨10,5,none⟩ = some (.int .i64 60):=hT.t9 5 (by decide)
  have c9_6:w.cell? ⟨10,6,none⟩ = some (.int .i64 61):=hT.t9 6 (by decide)
  have c9_7:w.cell? ⟨10,7,none⟩ = some (.int .i64 62):=hT.t9 7 (by decide)
  have P1:=hid (fun w=>piece_any s 12 3 w hs (by omega) (by omega))
  have P2:=hid (fun w=>piece_any s 25 7 w hs (by omega) (by omega))
  have P3:=hid (fun w=>piece_any s 0 7 w hs (by omega) (by omega))
  rw [hc] at P3
  have hf:pc s 12 3 < 8:=pc_lt s 12 3
  have hg:pc s 25 7 < 128:=pc_lt s 25 7
  clear hc
  generalize pc s 12 3 = f at *
  generalize pc s 25 7 = g at *
  have hf0:(0:Int) ≤ (f:Int):=by omega
  have hf1:(f:Int) < 8:=by omega
  clear hT
  go_enter Tryz.func171,Tryz.ntmps171
  go_wp2_with fail
  refine (P1.out _).mono ?_
  rintro e w1 ⟨rfl,q1,rfl⟩
  go_wp2_with fail
  refine (P2.out _).mono ?_
  rintro e w1 ⟨rfl,q2,rfl⟩
  go_wp2_with fail
  refine (P3.out _).mono ?_
  rintro e w1 ⟨rfl,q3,rfl⟩
  go_wp2_with fail
  refine (byF7_else g 45 47 0 0 0 48 0 0 46 0 0 0 0 49 0 0 58 0 0 0 59 60 61 62 _ h0 h1 h2).mono ?_
  rintro e w1 ⟨rfl,k1⟩
  go_wp2
  go_ret2
  exact ⟨_,rfl,rfl,((Kp.refl _ _).drewN _).trans k1⟩

theorem look_imm (s:Nat) (w:World) (hs:s < 4294967296) (hT:Tabs w) (hc:pc s 0 7 = 19) (hf:pc s 12 3 ∈ [0,2,3,4,6,7]) :
    Calls Tryz.prog 171 #[.int .u32 s] w (LookPost s w (T11.getD (pc s 12 3) 0) .im):=by
  have LI:=hid (fun w (hT:Tabs w)=>lookImmediate_plain (pc s 12 3) (pc s 25 7) w hT hf)
  generalize (T11.getD (pc s 12 3) 0) = o at *
  have P1:=hid (fun w=>piece_any s 12 3 w hs (by omega) (by omega))
  have P2:=hid (fun w=>piece_any s 25 7 w hs (by omega) (by omega))
  have P3:=hid (fun w=>piece_any s 0 7 w hs (by omega) (by omega))
  rw [hc] at P3
  have hf:pc s 12 3 < 8:=pc_lt s 12 3
  have hg:pc s 25 7 < 128:=pc_lt s 25 7
  clear hc
  generalize pc s 12 3 = f at *
  generalize pc s 25 7 = g at *
  have hf0:(0:Int) ≤ (f:Int):=by omega
  have hf1:(f:Int) < 8:=by omega
  have HT:=hid hT;clear hT
  go_enter Tryz.func171,Tryz.ntmps171
  go_wp2_with fail
  refine (P1.out _).mono ?_
  rintro e w1 ⟨rfl,q1,rfl⟩
  go_wp2_with fail
  refine (P2.out _).mono ?_
  rintro e w1 ⟨rfl,q2,rfl⟩
  go_wp2_with fail
  refine (P3.out _).mono ?_
  rintro e w1 ⟨rfl,q3,rfl⟩
  go_wp2_with fail
  refine (LI.out _ (HT.out.kp ((Kp.refl _ _).drewN _))).mono ?_
  rintro e w1 ⟨rfl,rfl⟩
  go_wp2
  go_ret2
  exact ⟨_,rfl,rfl,(Kp.refl _ _).drewN _⟩

theorem look_imm_a (s:Nat) (w:World) (hs:s < 4294967296) (hT:Tabs w) (hc:pc s 0 7 = 19) (hf5:pc s 12 3 = 1 ∨ pc s 12 3 = 5) (h:pc s 25 7 / 2 * 2 = 0) :
    Calls Tryz.prog 171 #[.int .u32 s] w (LookPost s w ([0,28,0,0,0,29,0,0].getD (pc s 12 3) 0:Int) (.sh 6)):=by
  have LI:=hid (fun w (hT:Tabs w)=>lookImmediate_a (pc s 12 3) (pc s 25 7) w hT (pc_lt s 12 3) (by rw [hT.t11 _ (pc_lt s 12 3)];rcases hf5 with h | h <;> rw [h] <;> rfl) (pc_lt s 25 7) h)
  generalize ([0,28,0,0,0,29,0,0].getD (pc s 12 3) 0:Int) = o at *
  have P1:=hid (fun w=>piece_any s 12 3 w hs (by omega) (by omega))
  have P2:=hid (fun w=>piece_any s 25 7 w hs (by omega) (by omega))
  have P3:=hid (fun w=>piece_any s 0 7 w hs (by omega) (by omega))
  rw [hc] at P3
  have hf:pc s 12 3 < 8:=pc_lt s 12 3
  have hg:pc s 25 7 < 128:=pc_lt s 25 7
  clear hc
  generalize pc s 12 3 = f at *
  generalize pc s 25 7 = g at *
  have hf0:(0:Int) ≤ (f:Int):=by omega
  have hf1:(f:Int) < 8:=by omega
  have HT:=hid hT;clear hT
  go_enter Tryz.func171,Tryz.ntmps171
  go_wp2_with fail
  refine (P1.out _).mono ?_
  rintro e w1 ⟨rfl,q1,rfl⟩
  go_wp2_with fail
  refine (P2.out _).mono ?_
  rintro e w1 ⟨rfl,q2,rfl⟩
  go_wp2_with fail
  refine (P3.out _).mono ?_
  rintro e w1 ⟨rfl,q3,rfl⟩
  go_wp2_with fail
  refine (LI.out _ (HT.out.kp ((Kp.refl _ _).drewN _))).mono ?_
  rintro e w1 ⟨Q,rfl,hq,k1,hQ⟩
  go_wp2
  go_ret2
  exact ⟨_,rfl,⟨Q,rfl,hq,hQ⟩,((Kp.refl _ _).drewN _).trans k1⟩

theorem look_imm_b (s:Nat) (w:World) (hs:s < 4294967296) (hT:Tabs w) (hc:pc s 0 7 = 19) (hf5:pc s 12 3 = 1 ∨ pc s 12 3 = 5) (h:pc s 25 7 / 2 * 2 = 32) :
    Calls Tryz.prog 171 #[.int .u32 s] w (LookPost s w ([0,0,0,0,0,30,0,0].getD (pc s 12 3) 0:Int) (.sh 6)):=by
  have LI:=hid (fun w (hT:Tabs w)=>lookImmediate_b (pc s 12 3) (pc s 25 7) w hT (pc_lt s 12 3) (by rw [hT.t11 _ (pc_lt s 12 3)];rcases hf5 with h | h <;> rw [h] <;> rfl) (pc_lt s 25 7) h)
  generalize ([0,0,0,0,0,30,0,0].getD (pc s 12 3) 0:Int) = o at *
  have P1:=hid (fun w=>piece_any s 12 3 w hs (by omega) (by omega))
  have P2:=hid (fun w=>piece_any s 25 7 w hs (by omega) (by omega))
  have P3:=hid (fun w=>piece_any s 0 7 w hs (by omega) (by omega))
  rw [hc] at P3
  have hf:pc s 12 3 < 8:=pc_lt s 12 3
  have hg:pc s 25 7 < 128:=pc_lt s 25 7
  clear hc
  generalize pc s 12 3 = f at *
  generalize pc s 25 7 = g at *
  have hf0:(0:Int) ≤ (f:Int):=by omega
  have hf1:(f:Int) < 8:=by omega
  have HT:=hid hT;clear hT
  go_enter Tryz.func171,Tryz.ntmps171
  go_wp2_with fail
  refine (P1.out _).mono ?_
  rintro e w1 ⟨rfl,q1,rfl⟩
  go_wp2_with fail
  refine (P2.out _).mono ?_
  rintro e w1 ⟨rfl,q2,rfl⟩
  go_wp2_with fail
  refine (P3.out _).mono ?_
  rintro e w1 ⟨rfl,q3,rfl⟩
  go_wp2_with fail
  refine (LI.out _ (HT.out.kp ((Kp.refl _ _).drewN _))).mono ?_
  rintro e w1 ⟨Q,rfl,hq,k1,hQ⟩
  go_wp2
  go_ret2
  exact ⟨_,rfl,⟨Q,rfl,hq,hQ⟩,((Kp.refl _ _).drewN _).trans k1⟩

theorem look_imm_c (s:Nat) (w:World) (hs:s < 4294967296) (hT:Tabs w) (hc:pc s 0 7 = 19) (hf5:pc s 12 3 = 1 ∨ pc s 12 3 = 5) (h0:(((pc s 25 7 / 2 * 2:Nat):Int) == 0) = false) (h1:(((pc s 25 7 / 2 * 2:Nat):Int) == 32) = false) (h2:(((pc s 25 7 / 2 * 2:Nat):Int) == 1) = false) :
    Calls Tryz.prog 171 #[.int .u32 s] w (LookPost s w ([0,0,0,0,0,0,0,0].getD (pc s 12 3) 0:Int) (.sh 6)):=by
  have LI:=hid (fun w (hT:Tabs w)=>lookImmediate_c (pc s 12 3) (pc s 25 7) w hT (pc_lt s 12 3) (by rw [hT.t11 _ (pc_lt s 12 3)];rcases hf5 with h | h <;> rw [h] <;> rfl) (pc_lt s 25 7) _ rfl h0 h1 h2)
  generalize ([0,0,0,0,0,0,0,0].getD (pc s 12 3) 0:Int) = o at *
  have P1:=hid (fun w=>piece_any s 12 3 w hs (by omega) (by omega))
  have P2:=hid (fun w=>piece_any s 25 7 w hs (by omega) (by omega))
  have P3:=hid (fun w=>piece_any s 0 7 w hs (by omega) (by omega))
  rw [hc] at P3
  have hf:pc s 12 3 < 8:=pc_lt s 12 3
  have hg:pc s 25 7 < 128:=pc_lt s 25 7
  clear hc
  generalize pc s 12 3 = f at *
  generalize pc s 25 7 = g at *
  have hf0:(0:Int) ≤ (f:Int):=by omega
  have hf1:(f:Int) < 8:=by omega
  have HT:=hid hT;clear hT
  go_enter Tryz.func171,Tryz.ntmps171
  go_wp2_with fail
  refine (P1.out _).mono ?_
  rintro e w1 ⟨rfl,q1,rfl⟩
  go_wp2_with fail
  refine (P2.out _).mono ?_
  rintro e w1 ⟨rfl,q2,rfl⟩
  go_wp2_with fail
  refine (P3.out _).mono ?_
  rintro e w1 ⟨rfl,q3,rfl⟩
  go_wp2_with fail
  refine (LI.out _ (HT.out.kp ((Kp.refl _ _).drewN _))).mono ?_
  rintro e w1 ⟨Q,rfl,hq,k1,hQ⟩
  go_wp2
  go_ret2
  exact ⟨_,rfl,⟨Q,rfl,hq,hQ⟩,((Kp.refl _ _).drewN _).trans k1⟩

theorem look_immW (s:Nat) (w:World) (hs:s < 4294967296) (hT:Tabs w) (hc:pc s 0 7 = 27) (hz:pc s 12 3 = 0) :
    Calls Tryz.prog 171 #[.int .u32 s] w (LookPost s w 41 .im):=by
  have LI:=hid (fun g w (hT:Tabs w)=>lookImmediateW_plain g w hT)
  have P1:=hid (fun w=>piece_any s 12 3 w hs (by omega) (by omega))
  have P2:=hid (fun w=>piece_any s 25 7 w hs (by omega) (by omega))
  have P3:=hid (fun w=>piece_any s 0 7 w hs (by omega) (by omega))
  rw [hc] at P3
  have hf:pc s 12 3 < 8:=pc_lt s 12 3
  have hg:pc s 25 7 < 128:=pc_lt s 25 7
  clear hc
  generalize pc s 12 3 = f at *
  generalize pc s 25 7 = g at *
  have hf0:(0:Int) ≤ (f:Int):=by omega
  have hf1:(f:Int) < 8:=by omega
  subst hz
  have HT:=hid hT;clear hT
  go_enter Tryz.func171,Tryz.ntmps171
  go_wp2_with fail
  refine (P1.out _).mono ?_
  rintro e w1 ⟨rfl,q1,rfl⟩
  go_wp2_with fail
  refine (P2.out _).mono ?_
  rintro e w1 ⟨rfl,q2,rfl⟩
  go_wp2_with fail
  refine (P3.out _).mono ?_
  rintro e w1 ⟨rfl,q3,rfl⟩
  go_wp2_with fail
  refine (LI.out _ _ (HT.out.kp ((Kp.refl _ _).drewN _))).mono ?_
  rintro e w1 ⟨rfl,rfl⟩
  go_wp2
  go_ret2
  exact ⟨_,rfl,rfl,(Kp.refl _ _).drewN _⟩

theorem look_immW_a (s:Nat) (w:World) (hs:s < 4294967296) (hT:Tabs w) (hc:pc s 0 7 = 27) (hz:pc s 12 3 ≠ 0) (h:pc s 25 7 = 0) :
    Calls Tryz.prog 171 #[.int .u32 s] w (LookPost s w ([0,42,0,0,0,43,0,0].getD (pc s 12 3) 0:Int) (.sh 5)):=by
  have LI:=hid (fun w (hT:Tabs w)=>lookImmediateW_a (pc s 12 3) (pc s 25 7) w hT (pc_lt s 12 3) (by rw [hT.t14 _ (pc_lt s 12 3)];exact congrArg _ (congrArg _ (t14_zero _ (pc_lt s 12 3) hz))) (pc_lt s 25 7) h)
  generalize ([0,42,0,0,0,43,0,0].getD (pc s 12 3) 0:Int) = o at *
  have P1:=hid (fun w=>piece_any s 12 3 w hs (by omega) (by omega))
  have P2:=hid (fun w=>piece_any s 25 7 w hs (by omega) (by omega))
  have P3:=hid (fun w=>piece_any s 0 7 w hs (by omega) (by omega))
  rw [hc] at P3
  have hf:pc s 12 3 < 8:=pc_lt s 12 3
  have hg:pc s 25 7 < 128:=pc_lt s 25 7
  clear hc
  generalize pc s 12 3 = f at *
  generalize pc s 25 7 = g at *
  have hf0:(0:Int) ≤ (f:Int):=by omega
  have hf1:(f:Int) < 8:=by omega
  subst h
  have HT:=hid hT;clear hT
  go_enter Tryz.func171,Tryz.ntmps171
  go_wp2_with fail
  refine (P1.out _).mono ?_
  rintro e w1 ⟨rfl,q1,rfl⟩
  go_wp2_with fail
  refine (P2.out _).mono ?_
  rintro e w1 ⟨rfl,q2,rfl⟩
  go_wp2_with fail
  refine (P3.out _).mono ?_
  rintro e w1 ⟨rfl,q3,rfl⟩
  go_wp2_with fail
  refine (LI.out _ (HT.out.kp ((Kp.refl _ _).drewN _))).mono ?_
  rintro e w1 ⟨Q,rfl,hq,k1,hQ⟩
  go_wp2
  go_ret2
  exact ⟨_,rfl,⟨Q,rfl,hq,hQ⟩,((Kp.refl _ _).drewN _).trans k1⟩

theorem look_immW_b (s:Nat) (w:World) (hs:s < 4294967296) (hT:Tabs w) (hc:pc s 0 7 = 27) (hz:pc s 12 3 ≠ 0) (h:pc s 25 7 = 32) :
    Calls Tryz.prog 171 #[.int .u32 s] w (LookPost s w ([0,0,0,0,0,44,0,0].getD (pc s 12 3) 0:Int) (.sh 5)):=by
  have LI:=hid (fun w (hT:Tabs w)=>lookImmediateW_b (pc s 12 3) (pc s 25 7) w hT (pc_lt s 12 3) (by rw [hT.t14 _ (pc_lt s 12 3)];exact congrArg _ (congrArg _ (t14_zero _ (pc_lt s 12 3) hz))) (pc_lt s 25 7) h)
  generalize ([0,0,0,0,0,44,0,0].getD (pc s 12 3) 0:Int) = o at *
  have P1:=hid (fun w=>piece_any s 12 3 w hs (by omega) (by omega))
  have P2:=hid (fun w=>piece_any s 25 7 w hs (by omega) (by omega))
  have P3:=hid (fun w=>piece_any s 0 7 w hs (by omega) (by omega))
  rw [hc] at P3
  have hf:pc s 12 3 < 8:=pc_lt s 12 3
  have hg:pc s 25 7 < 128:=pc_lt s 25 7
  clear hc
  generalize pc s 12 3 = f at *
  generalize pc s 25 7 = g at *
  have hf0:(0:Int) ≤ (f:Int):=by omega
  have hf1:(f:Int) < 8:=by omega
  subst h
  have HT:=hid hT;clear hT
  go_enter Tryz.func171,Tryz.ntmps171
  go_wp2_with fail
  refine (P1.out _).mono ?_
  rintro e w1 ⟨rfl,q1,rfl⟩
  go_wp2_with fail
  refine (P2.out _).mono ?_
  rintro e w1 ⟨rfl,q2,rfl⟩
  go_wp2_with fail
  refine (P3.out _).mono ?_
  rintro e w1 ⟨rfl,q3,rfl⟩
  go_wp2_with fail
  refine (LI.out _ (HT.out.kp ((Kp.refl _ _).drewN _))).mono ?_
  rintro e w1 ⟨Q,rfl,hq,k1,hQ⟩
  go_wp2
  go_ret2
  exact ⟨_,rfl,⟨Q,rfl,hq,hQ⟩,((Kp.refl _ _).drewN _).trans k1⟩

theorem look_immW_p (s:Nat) (w:World) (hs:s < 4294967296) (hT:Tabs w) (hc:pc s 0 7 = 27) (hz:pc s 12 3 ≠ 0) (h:pc s 25 7 = 1) :
    Calls Tryz.prog 171 #[.int .u32 s] w (LookPost s w ([0,0,0,0,0,0,0,0].getD (pc s 12 3) 0:Int) (.sh 5)):=by
  have LI:=hid (fun w (hT:Tabs w)=>lookImmediateW_p (pc s 12 3) (pc s 25 7) w hT (pc_lt s 12 3) (by rw [hT.t14 _ (pc_lt s 12 3)];exact congrArg _ (congrArg _ (t14_zero _ (pc_lt s 12 3) hz))) (pc_lt s 25 7) h)
  generalize ([0,0,0,0,0,0,0,0].getD (pc s 12 3) 0:Int) = o at *
  have P1:=hid (fun w=>piece_any s 12 3 w hs (by omega) (by omega))
  have P2:=hid (fun w=>piece_any s 25 7 w hs (by omega) (by omega))
  have P3:=hid (fun w=>piece_any s 0 7 w hs (by omega) (by omega))
  rw [hc] at P3
  have hf:pc s 12 3 < 8:=pc_lt s 12 3
  have hg:pc s 25 7 < 128:=pc_lt s 25 7
  clear hc
  generalize pc s 12 3 = f at *
  generalize pc s 25 7 = g at *
  have hf0:(0:Int) ≤ (f:Int):=by omega
  have hf1:(f:Int) < 8:=by omega
  subst h
  have HT:=hid hT;clear hT
  go_enter Tryz.func171,Tryz.ntmps171
  go_wp2_with fail
  refine (P1.out _).mono ?_
  rintro e w1 ⟨rfl,q1,rfl⟩
  go_wp2_with fail
  refine (P2.out _).mono ?_
  rintro e w1 ⟨rfl,q2,rfl⟩
  go_wp2_with fail
  refine (P3.out _).mono ?_
  rintro e w1 ⟨rfl,q3,rfl⟩
  go_wp2_with fail
  refine (LI.out _ (HT.out.kp ((Kp.refl _ _).drewN _))).mono ?_
  rintro e w1 ⟨Q,rfl,hq,k1,hQ⟩
  go_wp2
  go_ret2
  exact ⟨_,rfl,⟨Q,rfl,hq,hQ⟩,((Kp.refl _ _).drewN _).trans k1⟩

theorem look_immW_c (s:Nat) (w:World) (hs:s < 4294967296) (hT:Tabs w) (hc:pc s 0 7 = 27) (hz:pc s 12 3 ≠ 0) (h0:((pc s 25 7:Int) == 0) = false) (h1:((pc s 25 7:Int) == 32) = false) (h2:((pc s 25 7:Int) == 1) = false) :
    Calls Tryz.prog 171 #[.int .u32 s] w (LookPost s w ([0,0,0,0,0,0,0,0].getD (pc s 12 3) 0:Int) (.sh 5)):=by
  have LI:=hid (fun w (hT:Tabs w)=>lookImmediateW_c (pc s 12 3) (pc s 25 7) w hT (pc_lt s 12 3) (by rw [hT.t14 _ (pc_lt s 12 3)];exact congrArg _ (congrArg _ (t14_zero _ (pc_lt s 12 3) hz))) (pc_lt s 25 7) _ rfl h0 h1 h2)
  generalize ([0,0,0,0,0,0,0,0].getD (pc s 12 3) 0:Int) = o at *
  have P1:=hid (fun w=>piece_any s 12 3 w hs (by omega) (by omega))
  have P2:=hid (fun w=>piece_any s 25 7 w hs (by omega) (by omega))
  have P3:=hid (fun w=>piece_any s 0 7 w hs (by omega) (by omega))
  rw [hc] at P3
  have hf:pc s 12 3 < 8:=pc_lt s 12 3
  have hg:pc s 25 7 < 128:=pc_lt s 25 7
  clear hc
  generalize pc s 12 3 = f at *
  generalize pc s 25 7 = g at *
  have hf0:(0:Int) ≤ (f:Int):=by omega
  have hf1:(f:Int) < 8:=by omega
  have HT:=hid hT;clear hT
  go_enter Tryz.func171,Tryz.ntmps171
  go_wp2_with fail
  refine (P1.out _).mono ?_
  rintro e w1 ⟨rfl,q1,rfl⟩
  go_wp2_with fail
  refine (P2.out _).mono ?_
  rintro e w1 ⟨rfl,q2,rfl⟩
  go_wp2_with fail
  refine (P3.out _).mono ?_
  rintro e w1 ⟨rfl,q3,rfl⟩
  go_wp2_with fail
  refine (LI.out _ (HT.out.kp ((Kp.refl _ _).drewN _))).mono ?_
  rintro e w1 ⟨Q,rfl,hq,k1,hQ⟩
  go_wp2
  go_ret2
  exact ⟨_,rfl,⟨Q,rfl,hq,hQ⟩,((Kp.refl _ _).drewN _).trans k1⟩

theorem look_none (s:Nat) (w:World) (hs:s < 4294967296) (n55:((pc s 0 7:Int) == 55) = false) (n23:((pc s 0 7:Int) == 23) = false) (n111:((pc s 0 7:Int) == 111) = false) (n103:((pc s 0 7:Int) == 103) = false) (n99:((pc s 0 7:Int) == 99) = false) (n3:((pc s 0 7:Int) == 3) = false) (n35:((pc s 0 7:Int) == 35) = false) (n19:((pc s 0 7:Int) == 19) = false) (n51:((pc s 0 7:Int) == 51) = false) (n27:((pc s 0 7:Int) == 27) = false) (n59:((pc s 0 7:Int) == 59) = false) (n47:((pc s 0 7:Int) == 47) = false) (n15:((pc s 0 7:Int) == 15) = false) (n115:((pc s 0 7:Int) == 115) = false) :
    Calls Tryz.prog 171 #[.int .u32 s] w (LookPost s w 0 .no):=by
  have P1:=hid (fun w=>piece_any s 12 3 w hs (by omega) (by omega))
  have P2:=hid (fun w=>piece_any s 25 7 w hs (by omega) (by omega))
  have P3:=hid (fun w=>piece_any s 0 7 w hs (by omega) (by omega))
  generalize pc s 12 3 = f at *
  generalize pc s 25 7 = g at *
  generalize pc s 0 7 = c at *
  go_enter Tryz.func171,Tryz.ntmps171
  go_wp2_with fail
  refine (P1.out _).mono ?_
  rintro e w1 ⟨rfl,q1,rfl⟩
  go_wp2_with fail
  refine (P2.out _).mono ?_
  rintro e w1 ⟨rfl,q2,rfl⟩
  go_wp2_with fail
  refine (P3.out _).mono ?_
  rintro e w1 ⟨rfl,q3,rfl⟩
  go_wp2
  go_ret2
  exact ⟨_,rfl,rfl,(Kp.refl _ _).drewN _⟩

end Go.Proofs.YtlhpodholnfppaaGreatDoor.Td
