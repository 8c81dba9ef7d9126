/-
  Contracts of comp's own functions, and the law's own question.
  What the two listed variables hold, when a law's call begins; a start that meets it.
  Contracts of the forms, by what moves pieces out of a word.
  Contracts of the forms, by what lays pieces into a word.
  Contracts of the forms of atomic instructions, and of those that have no parts.
-/
import Derived.Test.YtlhpodholnfppaaGreatDoorT17
import Derived.ProofKit
import Derived.LaidMore
import Derived.OpenShut
import Derived.Stop.Joined
import Derived.Stop.LaidErr
import Derived.Lib.LaidTab
import Derived.Deep.Fields
import Derived.Test.YtlhpodholnfppaaGreatDoorT14
import Derived.Lib.Hide
set_option linter.unusedVariables false
set_option linter.unusedSimpArgs false
set_option maxHeartbeats 16000000
open Go.Lib (hid)
namespace Go.Proofs.YtlhpodholnfppaaGreatDoor.Td
open Go.RowKit
theorem results_twoC {fn:Func} {p u:Tmp} (h:fn.results = #[.cell p 38,.tmp u]) (tmps:Array Value) (w:World) (g:Nat) (v0 v1 v2 v3 v4 v5 v6:Value)
    (hp:tmps.getD p undef = .pointer (some ⟨g,0,none⟩)) (hg:Has w g 38 #[v0,v1,v2,v3,v4,v5,v6]) :
    (results fn tmps).run Tryz.prog w = .ok (.tuple #[.agg #[v0,v1,v2,v3,v4,v5,v6],tmps.getD u undef]) w:=by
  have hr:=run_loadVar_row (P:=Tryz.prog) w g 38 38 #[v0,v1,v2,v3,v4,v5,v6] (0,0) _ hg Tryz.underlying38 rfl (by kernel_rfl)
  rw [results_cell_tmp h,hp]
  simp [asAddr,Result.andThen,hr]
def exI (s:Nat):Array Value:=if (ex s).op = 0 then I7 0 0 0 0 0 0 0 else (ex s).cells 2
def exB (s:Nat):Bool:=decide ((ex s).op ≠ 0)

theorem expand_no (s:Nat) (op rd r1 r2 im:Int) (w:World) (ho:op = 0) (HI:∀ w',Kp none w w' → Calls Tryz.prog 170 #[.int .u16 s] w' fun e w''=>e = .returned (.agg (I7 op rd r1 r2 im 0 0))∧Kp none w' w'') :
    Calls Tryz.prog 151 #[.int .u16 s] w fun e w'=>e = .returned (.tuple #[.agg (I7 0 0 0 0 0 0 0),.bool false])∧Kp none w w':=by
  subst ho
  have CI:=hid HI;clear HI
  have k:=(Kp.refl none w).alloc (I7 0 0 0 0 0 0 0) 38
  have b:=Has.new w (I7 0 0 0 0 0 0 0) 38
  have HK:=hid k;have HB:=hid b;clear k b
  go_enter Tryz.func151,Tryz.ntmps151
  go_wp2_with fail
  refine (CI.out _ HK.out).mono ?_
  rintro e w1 ⟨rfl,hq⟩
  have k:=(HK.out.trans hq);have b:=HB.out.kp hq (by simp)
  clear HK HB hq CI
  have hlt:w.heap.size < w1.heap.size:=b.lt
  have hne:w.heap.size ≠ w1.heap.size:=by omega
  have hne':w1.heap.size ≠ w.heap.size:=by omega
  obtain ⟨q0,q1,q2,q3,q4,q5,q6⟩:=b.seven
  have y:=b.free
  go_wp2
  (try simp only [Exit.inBlock,Exit.then])
  refine bodyPost_ret (results_twoC rfl _ _ w.heap.size _ _ _ _ _ _ _ rfl ((b.seven_set _ _ _ _ _ _ _).alloc _)) rfl ⟨rfl,?_⟩
  exact (k.seven_set (Nat.le_refl _) _ _ _ _ _ _ _).alloc _ _

theorem expand_yes (s:Nat) (op rd r1 r2 im:Int) (w:World) (ho:(op == 0) = false) (HI:∀ w',Kp none w w' → Calls Tryz.prog 170 #[.int .u16 s] w' fun e w''=>e = .returned (.agg (I7 op rd r1 r2 im 0 0))∧Kp none w' w'') :
    Calls Tryz.prog 151 #[.int .u16 s] w fun e w'=>e = .returned (.tuple #[.agg (I7 op rd r1 r2 im 0 2),.bool true])∧Kp none w w':=by
  skip
  have CI:=hid HI;clear HI
  have k:=(Kp.refl none w).alloc (I7 0 0 0 0 0 0 0) 38
  have b:=Has.new w (I7 0 0 0 0 0 0 0) 38
  have HK:=hid k;have HB:=hid b;clear k b
  go_enter Tryz.func151,Tryz.ntmps151
  go_wp2_with fail
  refine (CI.out _ HK.out).mono ?_
  rintro e w1 ⟨rfl,hq⟩
  have k:=(HK.out.trans hq);have b:=HB.out.kp hq (by simp)
  clear HK HB hq CI
  have hlt:w.heap.size < w1.heap.size:=b.lt
  have hne:w.heap.size ≠ w1.heap.size:=by omega
  have hne':w1.heap.size ≠ w.heap.size:=by omega
  obtain ⟨q0,q1,q2,q3,q4,q5,q6⟩:=b.seven
  have y:=b.free
  go_wp2
  (try simp only [Exit.inBlock,Exit.then])
  refine bodyPost_ret (results_twoC rfl _ _ w.heap.size _ _ _ _ _ _ _ rfl ((b.seven_set _ _ _ _ _ _ _).alloc _)) rfl ⟨rfl,?_⟩
  exact (k.seven_set (Nat.le_refl _) _ _ _ _ _ _ _).alloc _ _

theorem expand_any (s:Nat) (w:World) (hs:s < 65536) (hT:TabsC w):Calls Tryz.prog 151 #[.int .u16 s] w fun e w'=>e = .returned (.tuple #[.agg (exI s),.bool (exB s)])∧Kp none w w':=by
  have HI:=fun w' (kw:Kp none w w')=>instruction_any s w' hs (hT.kp kw)
  unfold exI exB
  generalize ex s = i at *
  obtain ⟨op,rd,r1,r2,im⟩:=i
  by_cases h:op = 0
  · have e1:(if (Sh.mk op rd r1 r2 im).op = 0 then I7 0 0 0 0 0 0 0 else (Sh.mk op rd r1 r2 im).cells 2) = I7 0 0 0 0 0 0 0:=if_pos h
    have e2:decide ((Sh.mk op rd r1 r2 im).op ≠ 0) = false:=by simp [h]
    rw [e1,e2]
    exact expand_no s op rd r1 r2 im w h HI
  · have e1:(if (Sh.mk op rd r1 r2 im).op = 0 then I7 0 0 0 0 0 0 0 else (Sh.mk op rd r1 r2 im).cells 2) = I7 op rd r1 r2 im 0 2:=if_neg h
    have e2:decide ((Sh.mk op rd r1 r2 im).op ≠ 0) = true:=by simp [h]
    rw [e1,e2]
    exact expand_yes s op rd r1 r2 im w (by simp [h]) HI
theorem short_yes (s:Nat) (w:World) (hs:s < 65536) (h:((s:Int) % 4 != 3) = true):Calls Tryz.prog 150 #[.int .u16 s] w fun e w'=>e = .returned (.bool true)∧Kp none w w':=by
  have h2:(((pc s 0 2:Nat):Int) != 3) = true:=by
    simp only [bne_iff_ne,ne_eq] at h ⊢
    have:pc s 0 2 = s % 4:=by unfold pc;simp
    omega
  have CG:=hid (fun w=>group_is s _ w hs rfl)
  generalize pc s 0 2 = g at *
  clear h hs
  go_enter Tryz.func150,Tryz.ntmps150
  go_wp2_with fail
  refine (CG.out _).mono ?_
  rintro e w1 ⟨rfl,hq⟩
  go_wp2
  go_ret
  exact ⟨rfl,kd hq⟩
theorem short_no (s:Nat) (w:World) (hs:s < 65536) (h:((s:Int) % 4 != 3) = false):Calls Tryz.prog 150 #[.int .u16 s] w fun e w'=>e = .returned (.bool false)∧Kp none w w':=by
  have h2:pc s 0 2 = 3:=by
    simp only [bne_eq_false_iff_eq] at h
    have:pc s 0 2 = s % 4:=by unfold pc;simp
    omega
  have CG:=hid (fun w=>group_is s 3 w hs h2)
  clear h hs h2
  go_enter Tryz.func150,Tryz.ntmps150
  go_wp2_with fail
  refine (CG.out _).mono ?_
  rintro e w1 ⟨rfl,hq⟩
  go_wp2
  go_ret
  exact ⟨rfl,kd hq⟩
end Go.Proofs.YtlhpodholnfppaaGreatDoor.Td

namespace Go.Proofs.YtlhpodholnfppaaGreatDoor.Td
open Go.ChangeShapes Go.WideShapes Go.ChangeAt Go.RowKit
theorem own:ownKnob Tryz.prog.godebug = none:=by kernel_rfl

theorem cells_of_rows {H:Type} {enc:TypeId × Value → H} {P:Program} {w:World} {base:Nat} {sp:Nat → Bool} {held:Bool} {fuel:Nat} {t e u:TypeId} {n m:Nat} {k:IntKind} {cs:List Value} {rows:List (List Int)} {p:List MemPlace}
    (ht:P.underlying t = some (.array n u)) (hu:P.underlying u = some (.array m e)) (he:P.underlying e = some (.int k)) (hce:P.cellsOf e = 1) (hcu:P.cellsOf u = m) (hct:P.cellsOf t = n * m)
    (h:DataW.trod enc P w base sp held fuel t cs = some (.agg (rows.map (Lib.tabData k)),p)):∀ i zs,rows[i]? = some zs → (cs.drop (i * m)).take m = zs.map fun z=>Value.int k z:=by
  cases fuel with
  | zero=>simp [DataW.trod] at h
  | succ fuel =>
    simp only [DataW.trod,ht,hcu,hct] at h
    split at h
    · rename_i hl
      obtain ⟨xs,hm,hx⟩:=Option.map_eq_some_iff.1 h
      have hxs:xs.map (·.1) = rows.map (Lib.tabData (H:=H) k):=by
        have:=congrArg Prod.fst hx
        simpa using this
      have hxl:xs.length = n:=by simpa using Lib.mapM_length hm
      have hrl:rows.length = n:=by
        have:=congrArg List.length hxs
        simp at this
        omega
      intro i zs hz
      have hi:i < n:=by
        have:=(List.getElem?_eq_some_iff.1 hz).1
        omega
      obtain ⟨b,hb,hf⟩:=Lib.mapM_at hm i i (by simp [hi])
      have h2:(xs.map (·.1))[i]? = some b.1:=by simp [hb]
      rw [hxs] at h2
      simp only [List.getElem?_map,hz,Option.map_some,Option.some.injEq] at h2
      obtain ⟨b1,b2⟩:=b
      dsimp only at h2
      subst h2
      exact Lib.cells_of_tab hu he hce hcu hf
    · cases h
theorem rows_of_head {P:Program} {W:World} {name:String} {k:IntKind} {rows:List (List Int)} {rest:List (String × DataW Unit)} {g:Nat} {t e u:TypeId} {n m:Nat}
    (hg:P.globalNamed name = some g) (hty:(P.globals[g]?).map (·.type) = some t) (ht:P.underlying t = some (.array n u)) (hu:P.underlying u = some (.array m e)) (he:P.underlying e = some (.int k))
    (hce:P.cellsOf e = 1) (hcu:P.cellsOf u = m) (hct:P.cellsOf t = n * m)
    (h:laidMet P ((name,.agg (rows.map (Lib.tabData k))) :: rest) W):∀ i zs,rows[i]? = some zs → ∀ j,j < m → W.cell? ⟨g,i * m + j,none⟩ = (zs.map fun z=>Value.int k z)[j]?:=by
  obtain ⟨ps,⟨g',t',cs,fuel,p,q,hg',ht',hvar,hd,_,_⟩,_⟩:=h
  obtain rfl:=Option.some.inj (hg.symm.trans hg')
  obtain rfl:=Option.some.inj (hty.symm.trans ht')
  intro i zs hz j hj
  have h1:=cells_of_rows ht hu he hce hcu hct hd i zs hz
  rw [World.var?_cell hg hvar (i * m + j),← h1]
  simp [List.getElem?_drop,hj]
theorem cells3:Tryz.prog.cellsOf 3 = 1:=by kernel_rfl
theorem cells44:Tryz.prog.cellsOf 209 = 8:=by kernel_rfl
theorem cells45:Tryz.prog.cellsOf 210 = 4 * 8:=by kernel_rfl
theorem gO : Tryz.prog.globalNamed "marionette/comp.operators" = some 0 := by kernel_rfl
theorem yO:(Tryz.prog.globals[0]?).map (·.type) = some 210:=by kernel_rfl
theorem gR : Tryz.prog.globalNamed "marionette/comp.reckoners" = some 20 := by kernel_rfl
theorem yR:(Tryz.prog.globals[20]?).map (·.type) = some 209:=by kernel_rfl
def opRows:List (List Int):=[[22,0,13,14,0,0,20,21],[22,41,22,1,27,3,5,6],[28,0,13,14,31,0,20,21],[0,0,0,0,0,0,0,0]]
theorem tabO_of {W : World} {rest : List (String × DataW Unit)} (h : laidMet Tryz.prog (("marionette/comp.operators", Rows.laid_marionette_comp_operators) :: rest) W) : TabC W 0 opsT := by
  have hr:=rows_of_head (k:=.i64) (rows:=opRows) gO yO Tryz.underlying210 Tryz.underlying209 Tryz.underlying3 cells3 cells44 cells45 h
  intro i hi
  have hi32:i < 32:=hi
  have hz:∀ q,q < 4 → ∃ zs,opRows[q]? = some zs:=fun q hq=>⟨opRows[q]'hq,List.getElem?_eq_getElem hq⟩
  obtain ⟨zs,hzs⟩:=hz (i / 8) (by omega)
  have h1:=hr (i / 8) zs hzs (i % 8) (by omega)
  rw [show i / 8 * 8 + i % 8 = i by omega] at h1
  rw [h1]
  have hall:∀ i,i < 32 → (((opRows.getD (i / 8) []).map fun z=>z)[i % 8]?) = some (opsT.getD i 0):=by decide
  have h2:=hall i hi32
  have h3:opRows.getD (i / 8) [] = zs:=by simp [List.getD,hzs]
  rw [h3] at h2
  simp only [List.map_id'] at h2
  simp [h2]
theorem tabR_of {W : World} {rest : List (String × DataW Unit)} (h : laidMet Tryz.prog (("marionette/comp.reckoners", Rows.laid_marionette_comp_reckoners) :: rest) W) : TabC W 20 recT := fun i hi =>
  (Lib.tabIs_of_head (k:=.i64) (zs:=recT) gR yR Tryz.underlying209 Tryz.underlying3 cells3 cells44 h).cell gR i hi
end Go.Proofs.YtlhpodholnfppaaGreatDoor.Td

namespace Go.Proofs.YtlhpodholnfppaaGreatDoor.Td
open Go.RowKit
theorem upper_take (op rd r1 r2 im od sz:Int) (s c:Nat) (w:World) (hs:s < 4294967296) (hc:Has w c 39 #[.int .u32 s]) :
    Calls Tryz.prog 196 #[.agg (I7 op rd r1 r2 im od sz),.func (.func 209) #[] #[.pointer (some ⟨c,0,none⟩)]] w fun e w' =>
      e = .returned (.agg (I7 op (tk s 7 5 0) r1 r2 (low (tk s 12 20 12) 32) od sz))∧Kp none w w':=by
  have f0:=FrT.start (I7 op rd r1 r2 im od sz) hc
  go_enter Tryz.func196,Tryz.ntmps196
  go_wp2_with fail
  refine (take_any _ s 7 5 0 c _ hs (by omega) (by omega) (by omega) (by omega) f0.mv).mono ?_
  rintro e w1 ⟨rfl,k1⟩
  have f1:=f0.call k1
  obtain ⟨b0,b1,b2,b3,b4,b5,b6⟩:=f1.box.seven
  have z:=f1.box.free
  go_wp2_with fail
  have f2:=f1.set 1 (.int .i64 (tk s 7 5 0))
  refine (take_any _ s 12 20 12 c _ hs (by omega) (by omega) (by omega) (by omega) f2.mv).mono ?_
  rintro e w2 ⟨rfl,k2⟩
  have f3:=f2.call k2
  clear b0 b1 b2 b3 b4 b5 b6 z
  obtain ⟨b0,b1,b2,b3,b4,b5,b6⟩:=f3.box.seven
  have z:=f3.box.free
  obtain ⟨q0,q1,q2,q3,q4,q5,q6⟩:=f3.res.seven
  have y:=f3.res.free
  go_wp2_with fail
  refine (signed_any _ 32 _ (by omega) (by omega)).mono ?_
  rintro e w' ⟨rfl,rfl⟩
  go_wp2
  have g:=f3.set 4 (.int .i64 (low (tk s 12 20 12) 32))
  (try simp only [Exit.inBlock,Exit.then])
  refine bodyPost_ret (results_cell_row rfl _ _ (w.heap.size + 1) 38 _ (0,0) _ rfl (g.res.seven_set _ _ _ _ _ _ _) Tryz.underlying38 rfl (by kernel_rfl)) rfl ⟨rfl,?_⟩
  exact g.kp.seven_set (Nat.le_succ _) _ _ _ _ _ _ _

theorem immediate_take (op rd r1 r2 im od sz:Int) (s c:Nat) (w:World) (hs:s < 4294967296) (hc:Has w c 39 #[.int .u32 s]) :
    Calls Tryz.prog 198 #[.agg (I7 op rd r1 r2 im od sz),.func (.func 209) #[] #[.pointer (some ⟨c,0,none⟩)]] w fun e w' =>
      e = .returned (.agg (I7 op (tk s 7 5 0) (tk s 15 5 0) r2 (low (tk s 20 12 0) 12) od sz))∧Kp none w w':=by
  have f0:=FrT.start (I7 op rd r1 r2 im od sz) hc
  go_enter Tryz.func198,Tryz.ntmps198
  go_wp2_with fail
  refine (take_any _ s 7 5 0 c _ hs (by omega) (by omega) (by omega) (by omega) f0.mv).mono ?_
  rintro e w1 ⟨rfl,k1⟩
  have f1:=f0.call k1
  obtain ⟨b0,b1,b2,b3,b4,b5,b6⟩:=f1.box.seven
  have z:=f1.box.free
  go_wp2_with fail
  have f2:=f1.set 1 (.int .i64 (tk s 7 5 0))
  refine (take_any _ s 15 5 0 c _ hs (by omega) (by omega) (by omega) (by omega) f2.mv).mono ?_
  rintro e w2 ⟨rfl,k2⟩
  have f3:=f2.call k2
  clear b0 b1 b2 b3 b4 b5 b6 z
  obtain ⟨b0,b1,b2,b3,b4,b5,b6⟩:=f3.box.seven
  have z:=f3.box.free
  go_wp2_with fail
  have f4:=f3.set 2 (.int .i64 (tk s 15 5 0))
  refine (take_any _ s 20 12 0 c _ hs (by omega) (by omega) (by omega) (by omega) f4.mv).mono ?_
  rintro e w3 ⟨rfl,k3⟩
  have f5:=f4.call k3
  clear b0 b1 b2 b3 b4 b5 b6 z
  obtain ⟨b0,b1,b2,b3,b4,b5,b6⟩:=f5.box.seven
  have z:=f5.box.free
  obtain ⟨q0,q1,q2,q3,q4,q5,q6⟩:=f5.res.seven
  have y:=f5.res.free
  go_wp2_with fail
  refine (signed_any _ 12 _ (by omega) (by omega)).mono ?_
  rintro e w' ⟨rfl,rfl⟩
  go_wp2
  have g:=f5.set 4 (.int .i64 (low (tk s 20 12 0) 12))
  (try simp only [Exit.inBlock,Exit.then])
  refine bodyPost_ret (results_cell_row rfl _ _ (w.heap.size + 1) 38 _ (0,0) _ rfl (g.res.seven_set _ _ _ _ _ _ _) Tryz.underlying38 rfl (by kernel_rfl)) rfl ⟨rfl,?_⟩
  exact g.kp.seven_set (Nat.le_succ _) _ _ _ _ _ _ _

theorem registers_take (op rd r1 r2 im od sz:Int) (s c:Nat) (w:World) (hs:s < 4294967296) (hc:Has w c 39 #[.int .u32 s]) :
    Calls Tryz.prog 203 #[.agg (I7 op rd r1 r2 im od sz),.func (.func 209) #[] #[.pointer (some ⟨c,0,none⟩)]] w fun e w' =>
      e = .returned (.agg (I7 op (tk s 7 5 0) (tk s 15 5 0) (tk s 20 5 0) im od sz))∧Kp none w w':=by
  have f0:=FrT.start (I7 op rd r1 r2 im od sz) hc
  go_enter Tryz.func203,Tryz.ntmps203
  go_wp2_with fail
  refine (take_any _ s 7 5 0 c _ hs (by omega) (by omega) (by omega) (by omega) f0.mv).mono ?_
  rintro e w1 ⟨rfl,k1⟩
  have f1:=f0.call k1
  obtain ⟨b0,b1,b2,b3,b4,b5,b6⟩:=f1.box.seven
  have z:=f1.box.free
  go_wp2_with fail
  have f2:=f1.set 1 (.int .i64 (tk s 7 5 0))
  refine (take_any _ s 15 5 0 c _ hs (by omega) (by omega) (by omega) (by omega) f2.mv).mono ?_
  rintro e w2 ⟨rfl,k2⟩
  have f3:=f2.call k2
  clear b0 b1 b2 b3 b4 b5 b6 z
  obtain ⟨b0,b1,b2,b3,b4,b5,b6⟩:=f3.box.seven
  have z:=f3.box.free
  go_wp2_with fail
  have f4:=f3.set 2 (.int .i64 (tk s 15 5 0))
  refine (take_any _ s 20 5 0 c _ hs (by omega) (by omega) (by omega) (by omega) f4.mv).mono ?_
  rintro e w3 ⟨rfl,k3⟩
  have f5:=f4.call k3
  clear b0 b1 b2 b3 b4 b5 b6 z
  obtain ⟨b0,b1,b2,b3,b4,b5,b6⟩:=f5.box.seven
  have z:=f5.box.free
  obtain ⟨q0,q1,q2,q3,q4,q5,q6⟩:=f5.res.seven
  have y:=f5.res.free
  go_wp2
  have g:=f5.set 3 (.int .i64 (tk s 20 5 0))
  (try simp only [Exit.inBlock,Exit.then])
  refine bodyPost_ret (results_cell_row rfl _ _ (w.heap.size + 1) 38 _ (0,0) _ rfl (g.res.seven_set _ _ _ _ _ _ _) Tryz.underlying38 rfl (by kernel_rfl)) rfl ⟨rfl,?_⟩
  exact g.kp.seven_set (Nat.le_succ _) _ _ _ _ _ _ _

theorem jump_take (op rd r1 r2 im od sz:Int) (s c:Nat) (w:World) (hs:s < 4294967296) (hc:Has w c 39 #[.int .u32 s]) :
    Calls Tryz.prog 197 #[.agg (I7 op rd r1 r2 im od sz),.func (.func 209) #[] #[.pointer (some ⟨c,0,none⟩)]] w fun e w' =>
      e = .returned (.agg (I7 op (tk s 7 5 0) r1 r2 (low (bits .or .i64 (bits .or .i64 (bits .or .i64 (tk s 31 1 20) (tk s 12 8 12)) (tk s 20 1 11)) (tk s 21 10 1)) 21) od sz))∧Kp none w w':=by
  have f0:=FrT.start (I7 op rd r1 r2 im od sz) hc
  go_enter Tryz.func197,Tryz.ntmps197
  go_wp2_with fail
  refine (take_any _ s 7 5 0 c _ hs (by omega) (by omega) (by omega) (by omega) f0.mv).mono ?_
  rintro e w1 ⟨rfl,k1⟩
  have f1:=f0.call k1
  obtain ⟨b0,b1,b2,b3,b4,b5,b6⟩:=f1.box.seven
  have z:=f1.box.free
  go_wp2_with fail
  have f2:=f1.set 1 (.int .i64 (tk s 7 5 0))
  have f3:=f2.drew
  refine wp_region_hd 20 (fun w'=>w'.cell? ⟨w.heap.size,4,none⟩ = some (.int .i64 im)) (by kernel_rfl) (by decide) (f3.box.cell 4) (fun hHeld=>?_)
  refine wpHd_take (i:=0) (v:=?_) rfl (by kernel_rfl) (fun _ _ _ h=>h) (Or.inl ⟨by rfl,?hy⟩) hHeld ?_
  case hy=>(intro w hSw;(try dsimp only at hSw);go_split_ands;go_simp;try (with_reducible rfl))
  (try simp only [Act.put,List.setIfInBounds_toArray,List.set_cons_zero,List.set_cons_succ])
  refine wpHd_take (i:=1) (v:=?_) rfl (by kernel_rfl) (fun _ _ _ h=>h) (Or.inl ⟨by rfl,?hy⟩) hHeld ?_
  case hy=>(intro w hSw;(try dsimp only at hSw);go_split_ands;go_simp;try (with_reducible rfl))
  (try simp only [Act.put,List.setIfInBounds_toArray,List.set_cons_zero,List.set_cons_succ])
  refine wpHd_take (i:=2) (v:=?_) rfl (by kernel_rfl) (fun _ _ _ h=>h) (Or.inl ⟨by rfl,?hy⟩) hHeld ?_
  case hy=>(intro w hSw;(try dsimp only at hSw);go_split_ands;go_simp;try (with_reducible rfl))
  (try simp only [Act.put,List.setIfInBounds_toArray,List.set_cons_zero,List.set_cons_succ])
  refine wpHd_take (i:=4) (v:=?_) rfl (by kernel_rfl) (fun _ _ _ h=>h) (Or.inl ⟨by rfl,?hy⟩) hHeld ?_
  case hy=>(intro w hSw;(try dsimp only at hSw);go_split_ands;go_simp;try (with_reducible rfl))
  (try simp only [Act.put,List.setIfInBounds_toArray,List.set_cons_zero,List.set_cons_succ])
  refine wpHd_take (i:=5) (v:=?_) rfl (by kernel_rfl) (fun _ _ _ h=>h) (Or.inl ⟨by rfl,?hy⟩) hHeld ?_
  case hy=>(intro w hSw;(try dsimp only at hSw);go_split_ands;go_simp;try (with_reducible rfl))
  (try simp only [Act.put,List.setIfInBounds_toArray,List.set_cons_zero,List.set_cons_succ])
  refine wpHd_take (i:=6) (v:=?_) rfl (by kernel_rfl) (fun _ _ _ h=>h) (Or.inl ⟨by rfl,?hy⟩) hHeld ?_
  case hy=>(intro w hSw;(try dsimp only at hSw);go_split_ands;go_simp;try (with_reducible rfl))
  (try simp only [Act.put,List.setIfInBounds_toArray,List.set_cons_zero,List.set_cons_succ])
  refine wpHd_take (i:=9) (v:=?_) rfl (by kernel_rfl) (fun _ _ _ h=>h) (Or.inl ⟨by rfl,?hy⟩) hHeld ?_
  case hy=>(intro w hSw;(try dsimp only at hSw);go_split_ands;go_simp;try (with_reducible rfl))
  (try simp only [Act.put,List.setIfInBounds_toArray,List.set_cons_zero,List.set_cons_succ])
  refine wpHd_take (i:=10) (v:=?_) rfl (by kernel_rfl) (fun _ _ _ h=>h) (Or.inl ⟨by rfl,?hy⟩) hHeld ?_
  case hy=>(intro w hSw;(try dsimp only at hSw);go_split_ands;go_simp;try (with_reducible rfl))
  (try simp only [Act.put,List.setIfInBounds_toArray,List.set_cons_zero,List.set_cons_succ])
  refine wpHd_take (i:=11) (v:=?_) rfl (by kernel_rfl) (fun _ _ _ h=>h) (Or.inl ⟨by rfl,?hy⟩) hHeld ?_
  case hy=>(intro w hSw;(try dsimp only at hSw);go_split_ands;go_simp;try (with_reducible rfl))
  (try simp only [Act.put,List.setIfInBounds_toArray,List.set_cons_zero,List.set_cons_succ])
  refine wpHd_take (i:=14) (v:=?_) rfl (by kernel_rfl) (fun _ _ _ h=>h) (Or.inl ⟨by rfl,?hy⟩) hHeld ?_
  case hy=>(intro w hSw;(try dsimp only at hSw);go_split_ands;go_simp;try (with_reducible rfl))
  (try simp only [Act.put,List.setIfInBounds_toArray,List.set_cons_zero,List.set_cons_succ])
  refine wpHd_take (i:=15) (v:=?_) rfl (by kernel_rfl) (fun _ _ _ h=>h) (Or.inl ⟨by rfl,?hy⟩) hHeld ?_
  case hy=>(intro w hSw;(try dsimp only at hSw);go_split_ands;go_simp;try (with_reducible rfl))
  (try simp only [Act.put,List.setIfInBounds_toArray,List.set_cons_zero,List.set_cons_succ])
  refine wpHd_take (i:=16) (v:=?_) rfl (by kernel_rfl) (fun _ _ _ h=>h) (Or.inl ⟨by rfl,?hy⟩) hHeld ?_
  case hy=>(intro w hSw;(try dsimp only at hSw);go_split_ands;go_simp;try (with_reducible rfl))
  (try simp only [Act.put,List.setIfInBounds_toArray,List.set_cons_zero,List.set_cons_succ])
  refine wpHd_one (i:=3) rfl (by kernel_rfl) (fun K hK=>?_)
  go_simp
  refine (take_any _ s 31 1 20 c _ hs (by omega) (by omega) (by omega) (by omega) f3.mv).mono ?_
  rintro e w2 ⟨rfl,k2⟩
  have f4:=f3.call k2
  refine hK.out _ _ (f4.box.cell 4) (fun hHeld=>?_)
  clear hK K
  (try simp only [Act.put,List.setIfInBounds_toArray,List.set_cons_zero,List.set_cons_succ])
  refine wpHd_one (i:=7) rfl (by kernel_rfl) (fun K hK=>?_)
  go_simp
  refine (take_any _ s 12 8 12 c _ hs (by omega) (by omega) (by omega) (by omega) f4.mv).mono ?_
  rintro e w3 ⟨rfl,k3⟩
  have f5:=f4.call k3
  refine hK.out _ _ (f5.box.cell 4) (fun hHeld=>?_)
  clear hK K
  (try simp only [Act.put,List.setIfInBounds_toArray,List.set_cons_zero,List.set_cons_succ])
  refine wpHd_take (i:=8) (v:=?_) rfl (by kernel_rfl) (fun _ _ _ h=>h) (Or.inl ⟨by rfl,?hy⟩) hHeld ?_
  case hy=>(intro w hSw;(try dsimp only at hSw);go_split_ands;go_simp;try (with_reducible rfl))
  (try simp only [Act.put,List.setIfInBounds_toArray,List.set_cons_zero,List.set_cons_succ])
  refine wpHd_one (i:=12) rfl (by kernel_rfl) (fun K hK=>?_)
  go_simp
  refine (take_any _ s 20 1 11 c _ hs (by omega) (by omega) (by omega) (by omega) f5.mv).mono ?_
  rintro e w4 ⟨rfl,k4⟩
  have f6:=f5.call k4
  refine hK.out _ _ (f6.box.cell 4) (fun hHeld=>?_)
  clear hK K
  (try simp only [Act.put,List.setIfInBounds_toArray,List.set_cons_zero,List.set_cons_succ])
  refine wpHd_take (i:=13) (v:=?_) rfl (by kernel_rfl) (fun _ _ _ h=>h) (Or.inl ⟨by rfl,?hy⟩) hHeld ?_
  case hy=>(intro w hSw;(try dsimp only at hSw);go_split_ands;go_simp;try (with_reducible rfl))
  (try simp only [Act.put,List.setIfInBounds_toArray,List.set_cons_zero,List.set_cons_succ])
  refine wpHd_one (i:=17) rfl (by kernel_rfl) (fun K hK=>?_)
  go_simp
  refine (take_any _ s 21 10 1 c _ hs (by omega) (by omega) (by omega) (by omega) f6.mv).mono ?_
  rintro e w5 ⟨rfl,k5⟩
  have f7:=f6.call k5
  refine hK.out _ _ (f7.box.cell 4) (fun hHeld=>?_)
  clear hK K
  (try simp only [Act.put,List.setIfInBounds_toArray,List.set_cons_zero,List.set_cons_succ])
  refine wpHd_take (i:=18) (v:=?_) rfl (by kernel_rfl) (fun _ _ _ h=>h) (Or.inl ⟨by rfl,?hy⟩) hHeld ?_
  case hy=>(intro w hSw;(try dsimp only at hSw);go_split_ands;go_simp;try (with_reducible rfl))
  (try simp only [Act.put,List.setIfInBounds_toArray,List.set_cons_zero,List.set_cons_succ])
  refine wpHd_one (i:=19) rfl (by kernel_rfl) (fun K hK=>?_)
  go_simp
  refine (signed_any _ 21 _ (by omega) (by omega)).mono ?_
  rintro e w' ⟨rfl,rfl⟩
  refine hK.out _ _ (f7.box.cell 4) (fun hHeld=>?_)
  clear hK K
  (try simp only [Act.put,List.setIfInBounds_toArray,List.set_cons_zero,List.set_cons_succ])
  refine ⟨by kernel_rfl,?_⟩
  simp only [List.drop_succ_cons,List.drop_zero]
  clear b0 b1 b2 b3 b4 b5 b6 z
  obtain ⟨b0,b1,b2,b3,b4,b5,b6⟩:=f7.box.seven
  have z:=f7.box.free
  obtain ⟨q0,q1,q2,q3,q4,q5,q6⟩:=f7.res.seven
  have y:=f7.res.free
  go_wp2
  have g:=f7.set 4 (.int .i64 (low (bits .or .i64 (bits .or .i64 (bits .or .i64 (tk s 31 1 20) (tk s 12 8 12)) (tk s 20 1 11)) (tk s 21 10 1)) 21))
  (try simp only [Exit.inBlock,Exit.then])
  refine bodyPost_ret (results_cell_row rfl _ _ (w.heap.size + 1) 38 _ (0,0) _ rfl (g.res.seven_set _ _ _ _ _ _ _) Tryz.underlying38 rfl (by kernel_rfl)) rfl ⟨rfl,?_⟩
  exact g.kp.seven_set (Nat.le_succ _) _ _ _ _ _ _ _

theorem branch_take (op rd r1 r2 im od sz:Int) (s c:Nat) (w:World) (hs:s < 4294967296) (hc:Has w c 39 #[.int .u32 s]) :
    Calls Tryz.prog 199 #[.agg (I7 op rd r1 r2 im od sz),.func (.func 209) #[] #[.pointer (some ⟨c,0,none⟩)]] w fun e w' =>
      e = .returned (.agg (I7 op rd (tk s 15 5 0) (tk s 20 5 0) (low (bits .or .i64 (bits .or .i64 (bits .or .i64 (tk s 31 1 12) (tk s 7 1 11)) (tk s 25 6 5)) (tk s 8 4 1)) 13) od sz))∧Kp none w w':=by
  have f0:=FrT.start (I7 op rd r1 r2 im od sz) hc
  go_enter Tryz.func199,Tryz.ntmps199
  go_wp2_with fail
  refine (take_any _ s 15 5 0 c _ hs (by omega) (by omega) (by omega) (by omega) f0.mv).mono ?_
  rintro e w1 ⟨rfl,k1⟩
  have f1:=f0.call k1
  obtain ⟨b0,b1,b2,b3,b4,b5,b6⟩:=f1.box.seven
  have z:=f1.box.free
  go_wp2_with fail
  have f2:=f1.set 2 (.int .i64 (tk s 15 5 0))
  refine (take_any _ s 20 5 0 c _ hs (by omega) (by omega) (by omega) (by omega) f2.mv).mono ?_
  rintro e w2 ⟨rfl,k2⟩
  have f3:=f2.call k2
  clear b0 b1 b2 b3 b4 b5 b6 z
  obtain ⟨b0,b1,b2,b3,b4,b5,b6⟩:=f3.box.seven
  have z:=f3.box.free
  go_wp2_with fail
  have f4:=f3.set 3 (.int .i64 (tk s 20 5 0))
  have f5:=f4.drew
  refine wp_region_hd 20 (fun w'=>w'.cell? ⟨w.heap.size,4,none⟩ = some (.int .i64 im)) (by kernel_rfl) (by decide) (f5.box.cell 4) (fun hHeld=>?_)
  refine wpHd_take (i:=0) (v:=?_) rfl (by kernel_rfl) (fun _ _ _ h=>h) (Or.inl ⟨by rfl,?hy⟩) hHeld ?_
  case hy=>(intro w hSw;(try dsimp only at hSw);go_split_ands;go_simp;try (with_reducible rfl))
  (try simp only [Act.put,List.setIfInBounds_toArray,List.set_cons_zero,List.set_cons_succ])
  refine wpHd_take (i:=1) (v:=?_) rfl (by kernel_rfl) (fun _ _ _ h=>h) (Or.inl ⟨by rfl,?hy⟩) hHeld ?_
  case hy=>(intro w hSw;(try dsimp only at hSw);go_split_ands;go_simp;try (with_reducible rfl))
  (try simp only [Act.put,List.setIfInBounds_toArray,List.set_cons_zero,List.set_cons_succ])
  refine wpHd_take (i:=2) (v:=?_) rfl (by kernel_rfl) (fun _ _ _ h=>h) (Or.inl ⟨by rfl,?hy⟩) hHeld ?_
  case hy=>(intro w hSw;(try dsimp only at hSw);go_split_ands;go_simp;try (with_reducible rfl))
  (try simp only [Act.put,List.setIfInBounds_toArray,List.set_cons_zero,List.set_cons_succ])
  refine wpHd_take (i:=4) (v:=?_) rfl (by kernel_rfl) (fun _ _ _ h=>h) (Or.inl ⟨by rfl,?hy⟩) hHeld ?_
  case hy=>(intro w hSw;(try dsimp only at hSw);go_split_ands;go_simp;try (with_reducible rfl))
  (try simp only [Act.put,List.setIfInBounds_toArray,List.set_cons_zero,List.set_cons_succ])
  refine wpHd_take (i:=5) (v:=?_) rfl (by kernel_rfl) (fun _ _ _ h=>h) (Or.inl ⟨by rfl,?hy⟩) hHeld ?_
  case hy=>(intro w hSw;(try dsimp only at hSw);go_split_ands;go_simp;try (with_reducible rfl))
  (try simp only [Act.put,List.setIfInBounds_toArray,List.set_cons_zero,List.set_cons_succ])
  refine wpHd_take (i:=6) (v:=?_) rfl (by kernel_rfl) (fun _ _ _ h=>h) (Or.inl ⟨by rfl,?hy⟩) hHeld ?_
  case hy=>(intro w hSw;(try dsimp only at hSw);go_split_ands;go_simp;try (with_reducible rfl))
  (try simp only [Act.put,List.setIfInBounds_toArray,List.set_cons_zero,List.set_cons_succ])
  refine wpHd_take (i:=9) (v:=?_) rfl (by kernel_rfl) (fun _ _ _ h=>h) (Or.inl ⟨by rfl,?hy⟩) hHeld ?_
  case hy=>(intro w hSw;(try dsimp only at hSw);go_split_ands;go_simp;try (with_reducible rfl))
  (try simp only [Act.put,List.setIfInBounds_toArray,List.set_cons_zero,List.set_cons_succ])
  refine wpHd_take (i:=10) (v:=?_) rfl (by kernel_rfl) (fun _ _ _ h=>h) (Or.inl ⟨by rfl,?hy⟩) hHeld ?_
  case hy=>(intro w hSw;(try dsimp only at hSw);go_split_ands;go_simp;try (with_reducible rfl))
  (try simp only [Act.put,List.setIfInBounds_toArray,List.set_cons_zero,List.set_cons_succ])
  refine wpHd_take (i:=11) (v:=?_) rfl (by kernel_rfl) (fun _ _ _ h=>h) (Or.inl ⟨by rfl,?hy⟩) hHeld ?_
  case hy=>(intro w hSw;(try dsimp only at hSw);go_split_ands;go_simp;try (with_reducible rfl))
  (try simp only [Act.put,List.setIfInBounds_toArray,List.set_cons_zero,List.set_cons_succ])
  refine wpHd_take (i:=14) (v:=?_) rfl (by kernel_rfl) (fun _ _ _ h=>h) (Or.inl ⟨by rfl,?hy⟩) hHeld ?_
  case hy=>(intro w hSw;(try dsimp only at hSw);go_split_ands;go_simp;try (with_reducible rfl))
  (try simp only [Act.put,List.setIfInBounds_toArray,List.set_cons_zero,List.set_cons_succ])
  refine wpHd_take (i:=15) (v:=?_) rfl (by kernel_rfl) (fun _ _ _ h=>h) (Or.inl ⟨by rfl,?hy⟩) hHeld ?_
  case hy=>(intro w hSw;(try dsimp only at hSw);go_split_ands;go_simp;try (with_reducible rfl))
  (try simp only [Act.put,List.setIfInBounds_toArray,List.set_cons_zero,List.set_cons_succ])
  refine wpHd_take (i:=16) (v:=?_) rfl (by kernel_rfl) (fun _ _ _ h=>h) (Or.inl ⟨by rfl,?hy⟩) hHeld ?_
  case hy=>(intro w hSw;(try dsimp only at hSw);go_split_ands;go_simp;try (with_reducible rfl))
  (try simp only [Act.put,List.setIfInBounds_toArray,List.set_cons_zero,List.set_cons_succ])
  refine wpHd_one (i:=3) rfl (by kernel_rfl) (fun K hK=>?_)
  go_simp
  refine (take_any _ s 31 1 12 c _ hs (by omega) (by omega) (by omega) (by omega) f5.mv).mono ?_
  rintro e w3 ⟨rfl,k3⟩
  have f6:=f5.call k3
  refine hK.out _ _ (f6.box.cell 4) (fun hHeld=>?_)
  clear hK K
  (try simp only [Act.put,List.setIfInBounds_toArray,List.set_cons_zero,List.set_cons_succ])
  refine wpHd_one (i:=7) rfl (by kernel_rfl) (fun K hK=>?_)
  go_simp
  refine (take_any _ s 7 1 11 c _ hs (by omega) (by omega) (by omega) (by omega) f6.mv).mono ?_
  rintro e w4 ⟨rfl,k4⟩
  have f7:=f6.call k4
  refine hK.out _ _ (f7.box.cell 4) (fun hHeld=>?_)
  clear hK K
  (try simp only [Act.put,List.setIfInBounds_toArray,List.set_cons_zero,List.set_cons_succ])
  refine wpHd_take (i:=8) (v:=?_) rfl (by kernel_rfl) (fun _ _ _ h=>h) (Or.inl ⟨by rfl,?hy⟩) hHeld ?_
  case hy=>(intro w hSw;(try dsimp only at hSw);go_split_ands;go_simp;try (with_reducible rfl))
  (try simp only [Act.put,List.setIfInBounds_toArray,List.set_cons_zero,List.set_cons_succ])
  refine wpHd_one (i:=12) rfl (by kernel_rfl) (fun K hK=>?_)
  go_simp
  refine (take_any _ s 25 6 5 c _ hs (by omega) (by omega) (by omega) (by omega) f7.mv).mono ?_
  rintro e w5 ⟨rfl,k5⟩
  have f8:=f7.call k5
  refine hK.out _ _ (f8.box.cell 4) (fun hHeld=>?_)
  clear hK K
  (try simp only [Act.put,List.setIfInBounds_toArray,List.set_cons_zero,List.set_cons_succ])
  refine wpHd_take (i:=13) (v:=?_) rfl (by kernel_rfl) (fun _ _ _ h=>h) (Or.inl ⟨by rfl,?hy⟩) hHeld ?_
  case hy=>(intro w hSw;(try dsimp only at hSw);go_split_ands;go_simp;try (with_reducible rfl))
  (try simp only [Act.put,List.setIfInBounds_toArray,List.set_cons_zero,List.set_cons_succ])
  refine wpHd_one (i:=17) rfl (by kernel_rfl) (fun K hK=>?_)
  go_simp
  refine (take_any _ s 8 4 1 c _ hs (by omega) (by omega) (by omega) (by omega) f8.mv).mono ?_
  rintro e w6 ⟨rfl,k6⟩
  have f9:=f8.call k6
  refine hK.out _ _ (f9.box.cell 4) (fun hHeld=>?_)
  clear hK K
  (try simp only [Act.put,List.setIfInBounds_toArray,List.set_cons_zero,List.set_cons_succ])
  refine wpHd_take (i:=18) (v:=?_) rfl (by kernel_rfl) (fun _ _ _ h=>h) (Or.inl ⟨by rfl,?hy⟩) hHeld ?_
  case hy=>(intro w hSw;(try dsimp only at hSw);go_split_ands;go_simp;try (with_reducible rfl))
  (try simp only [Act.put,List.setIfInBounds_toArray,List.set_cons_zero,List.set_cons_succ])
  refine wpHd_one (i:=19) rfl (by kernel_rfl) (fun K hK=>?_)
  go_simp
  refine (signed_any _ 13 _ (by omega) (by omega)).mono ?_
  rintro e w' ⟨rfl,rfl⟩
  refine hK.out _ _ (f9.box.cell 4) (fun hHeld=>?_)
  clear hK K
  (try simp only [Act.put,List.setIfInBounds_toArray,List.set_cons_zero,List.set_cons_succ])
  refine ⟨by kernel_rfl,?_⟩
  simp only [List.drop_succ_cons,List.drop_zero]
  clear b0 b1 b2 b3 b4 b5 b6 z
  obtain ⟨b0,b1,b2,b3,b4,b5,b6⟩:=f9.box.seven
  have z:=f9.box.free
  obtain ⟨q0,q1,q2,q3,q4,q5,q6⟩:=f9.res.seven
  have y:=f9.res.free
  go_wp2
  have g:=f9.set 4 (.int .i64 (low (bits .or .i64 (bits .or .i64 (bits .or .i64 (tk s 31 1 12) (tk s 7 1 11)) (tk s 25 6 5)) (tk s 8 4 1)) 13))
  (try simp only [Exit.inBlock,Exit.then])
  refine bodyPost_ret (results_cell_row rfl _ _ (w.heap.size + 1) 38 _ (0,0) _ rfl (g.res.seven_set _ _ _ _ _ _ _) Tryz.underlying38 rfl (by kernel_rfl)) rfl ⟨rfl,?_⟩
  exact g.kp.seven_set (Nat.le_succ _) _ _ _ _ _ _ _

theorem store_take (op rd r1 r2 im od sz:Int) (s c:Nat) (w:World) (hs:s < 4294967296) (hc:Has w c 39 #[.int .u32 s]) :
    Calls Tryz.prog 200 #[.agg (I7 op rd r1 r2 im od sz),.func (.func 209) #[] #[.pointer (some ⟨c,0,none⟩)]] w fun e w' =>
      e = .returned (.agg (I7 op rd (tk s 15 5 0) (tk s 20 5 0) (low (bits .or .i64 (tk s 25 7 5) (tk s 7 5 0)) 12) od sz))∧Kp none w w':=by
  have f0:=FrT.start (I7 op rd r1 r2 im od sz) hc
  go_enter Tryz.func200,Tryz.ntmps200
  go_wp2_with fail
  refine (take_any _ s 15 5 0 c _ hs (by omega) (by omega) (by omega) (by omega) f0.mv).mono ?_
  rintro e w1 ⟨rfl,k1⟩
  have f1:=f0.call k1
  obtain ⟨b0,b1,b2,b3,b4,b5,b6⟩:=f1.box.seven
  have z:=f1.box.free
  go_wp2_with fail
  have f2:=f1.set 2 (.int .i64 (tk s 15 5 0))
  refine (take_any _ s 20 5 0 c _ hs (by omega) (by omega) (by omega) (by omega) f2.mv).mono ?_
  rintro e w2 ⟨rfl,k2⟩
  have f3:=f2.call k2
  clear b0 b1 b2 b3 b4 b5 b6 z
  obtain ⟨b0,b1,b2,b3,b4,b5,b6⟩:=f3.box.seven
  have z:=f3.box.free
  go_wp2_with fail
  have f4:=f3.set 3 (.int .i64 (tk s 20 5 0))
  have f5:=f4.drew
  refine wp_region_hd 10 (fun w'=>w'.cell? ⟨w.heap.size,4,none⟩ = some (.int .i64 im)) (by kernel_rfl) (by decide) (f5.box.cell 4) (fun hHeld=>?_)
  refine wpHd_take (i:=0) (v:=?_) rfl (by kernel_rfl) (fun _ _ _ h=>h) (Or.inl ⟨by rfl,?hy⟩) hHeld ?_
  case hy=>(intro w hSw;(try dsimp only at hSw);go_split_ands;go_simp;try (with_reducible rfl))
  (try simp only [Act.put,List.setIfInBounds_toArray,List.set_cons_zero,List.set_cons_succ])
  refine wpHd_take (i:=1) (v:=?_) rfl (by kernel_rfl) (fun _ _ _ h=>h) (Or.inl ⟨by rfl,?hy⟩) hHeld ?_
  case hy=>(intro w hSw;(try dsimp only at hSw);go_split_ands;go_simp;try (with_reducible rfl))
  (try simp only [Act.put,List.setIfInBounds_toArray,List.set_cons_zero,List.set_cons_succ])
  refine wpHd_take (i:=2) (v:=?_) rfl (by kernel_rfl) (fun _ _ _ h=>h) (Or.inl ⟨by rfl,?hy⟩) hHeld ?_
  case hy=>(intro w hSw;(try dsimp only at hSw);go_split_ands;go_simp;try (with_reducible rfl))
  (try simp only [Act.put,List.setIfInBounds_toArray,List.set_cons_zero,List.set_cons_succ])
  refine wpHd_take (i:=4) (v:=?_) rfl (by kernel_rfl) (fun _ _ _ h=>h) (Or.inl ⟨by rfl,?hy⟩) hHeld ?_
  case hy=>(intro w hSw;(try dsimp only at hSw);go_split_ands;go_simp;try (with_reducible rfl))
  (try simp only [Act.put,List.setIfInBounds_toArray,List.set_cons_zero,List.set_cons_succ])
  refine wpHd_take (i:=5) (v:=?_) rfl (by kernel_rfl) (fun _ _ _ h=>h) (Or.inl ⟨by rfl,?hy⟩) hHeld ?_
  case hy=>(intro w hSw;(try dsimp only at hSw);go_split_ands;go_simp;try (with_reducible rfl))
  (try simp only [Act.put,List.setIfInBounds_toArray,List.set_cons_zero,List.set_cons_succ])
  refine wpHd_take (i:=6) (v:=?_) rfl (by kernel_rfl) (fun _ _ _ h=>h) (Or.inl ⟨by rfl,?hy⟩) hHeld ?_
  case hy=>(intro w hSw;(try dsimp only at hSw);go_split_ands;go_simp;try (with_reducible rfl))
  (try simp only [Act.put,List.setIfInBounds_toArray,List.set_cons_zero,List.set_cons_succ])
  refine wpHd_one (i:=3) rfl (by kernel_rfl) (fun K hK=>?_)
  go_simp
  refine (take_any _ s 25 7 5 c _ hs (by omega) (by omega) (by omega) (by omega) f5.mv).mono ?_
  rintro e w3 ⟨rfl,k3⟩
  have f6:=f5.call k3
  refine hK.out _ _ (f6.box.cell 4) (fun hHeld=>?_)
  clear hK K
  (try simp only [Act.put,List.setIfInBounds_toArray,List.set_cons_zero,List.set_cons_succ])
  refine wpHd_one (i:=7) rfl (by kernel_rfl) (fun K hK=>?_)
  go_simp
  refine (take_any _ s 7 5 0 c _ hs (by omega) (by omega) (by omega) (by omega) f6.mv).mono ?_
  rintro e w4 ⟨rfl,k4⟩
  have f7:=f6.call k4
  refine hK.out _ _ (f7.box.cell 4) (fun hHeld=>?_)
  clear hK K
  (try simp only [Act.put,List.setIfInBounds_toArray,List.set_cons_zero,List.set_cons_succ])
  refine wpHd_take (i:=8) (v:=?_) rfl (by kernel_rfl) (fun _ _ _ h=>h) (Or.inl ⟨by rfl,?hy⟩) hHeld ?_
  case hy=>(intro w hSw;(try dsimp only at hSw);go_split_ands;go_simp;try (with_reducible rfl))
  (try simp only [Act.put,List.setIfInBounds_toArray,List.set_cons_zero,List.set_cons_succ])
  refine wpHd_one (i:=9) rfl (by kernel_rfl) (fun K hK=>?_)
  go_simp
  refine (signed_any _ 12 _ (by omega) (by omega)).mono ?_
  rintro e w' ⟨rfl,rfl⟩
  refine hK.out _ _ (f7.box.cell 4) (fun hHeld=>?_)
  clear hK K
  (try simp only [Act.put,List.setIfInBounds_toArray,List.set_cons_zero,List.set_cons_succ])
  refine ⟨by kernel_rfl,?_⟩
  simp only [List.drop_succ_cons,List.drop_zero]
  clear b0 b1 b2 b3 b4 b5 b6 z
  obtain ⟨b0,b1,b2,b3,b4,b5,b6⟩:=f7.box.seven
  have z:=f7.box.free
  obtain ⟨q0,q1,q2,q3,q4,q5,q6⟩:=f7.res.seven
  have y:=f7.res.free
  go_wp2
  have g:=f7.set 4 (.int .i64 (low (bits .or .i64 (tk s 25 7 5) (tk s 7 5 0)) 12))
  (try simp only [Exit.inBlock,Exit.then])
  refine bodyPost_ret (results_cell_row rfl _ _ (w.heap.size + 1) 38 _ (0,0) _ rfl (g.res.seven_set _ _ _ _ _ _ _) Tryz.underlying38 rfl (by kernel_rfl)) rfl ⟨rfl,?_⟩
  exact g.kp.seven_set (Nat.le_succ _) _ _ _ _ _ _ _

theorem shift_take (op rd r1 r2 im od sz:Int) (s c:Nat) (w:World) (hs:s < 4294967296) (hc:Has w c 39 #[.int .u32 s]) (q Q:Nat) (hq20:q ≤ 6) (hq:Has w Q 3 #[.int .i64 q]) :
    Calls Tryz.prog 240 #[.agg (I7 op rd r1 r2 im od sz),.func (.func 209) #[] #[.pointer (some ⟨c,0,none⟩)],.pointer (some ⟨Q,0,none⟩)] w fun e w' =>
      e = .returned (.agg (I7 op (tk s 7 5 0) (tk s 15 5 0) r2 (tk s 20 q 0) od sz))∧Kp none w w':=by
  have f0:=FrT.start (I7 op rd r1 r2 im od sz) hc
  go_enter Tryz.func240,Tryz.ntmps240
  go_wp2_with fail
  refine (take_any _ s 7 5 0 c _ hs (by omega) (by omega) (by omega) (by omega) f0.mv).mono ?_
  rintro e w1 ⟨rfl,k1⟩
  have f1:=f0.call k1
  obtain ⟨b0,b1,b2,b3,b4,b5,b6⟩:=f1.box.seven
  have z:=f1.box.free
  have qq:=(hq.kp f1.kp (by simp)).cell 0
  simp at qq
  go_wp2_with fail
  have f2:=f1.set 1 (.int .i64 (tk s 7 5 0))
  refine (take_any _ s 15 5 0 c _ hs (by omega) (by omega) (by omega) (by omega) f2.mv).mono ?_
  rintro e w2 ⟨rfl,k2⟩
  have f3:=f2.call k2
  clear b0 b1 b2 b3 b4 b5 b6 z qq
  obtain ⟨b0,b1,b2,b3,b4,b5,b6⟩:=f3.box.seven
  have z:=f3.box.free
  have qq:=(hq.kp f3.kp (by simp)).cell 0
  simp at qq
  go_wp2_with fail
  have f4:=f3.set 2 (.int .i64 (tk s 15 5 0))
  refine (take_any _ s 20 q 0 c _ hs (by omega) (by omega) (by omega) (by omega) f4.mv).mono ?_
  rintro e w3 ⟨rfl,k3⟩
  have f5:=f4.call k3
  clear b0 b1 b2 b3 b4 b5 b6 z qq
  obtain ⟨b0,b1,b2,b3,b4,b5,b6⟩:=f5.box.seven
  have z:=f5.box.free
  obtain ⟨q0,q1,q2,q3,q4,q5,q6⟩:=f5.res.seven
  have y:=f5.res.free
  have qq:=(hq.kp f5.kp (by simp)).cell 0
  simp at qq
  go_wp2
  have g:=f5.set 4 (.int .i64 (tk s 20 q 0))
  (try simp only [Exit.inBlock,Exit.then])
  refine bodyPost_ret (results_cell_row rfl _ _ (w.heap.size + 1) 38 _ (0,0) _ rfl (g.res.seven_set _ _ _ _ _ _ _) Tryz.underlying38 rfl (by kernel_rfl)) rfl ⟨rfl,?_⟩
  exact g.kp.seven_set (Nat.le_succ _) _ _ _ _ _ _ _

end Go.Proofs.YtlhpodholnfppaaGreatDoor.Td

namespace Go.Proofs.YtlhpodholnfppaaGreatDoor.Td
open Go.RowKit
end Go.Proofs.YtlhpodholnfppaaGreatDoor.Td

namespace Go.Proofs.YtlhpodholnfppaaGreatDoor.Td
open Go.RowKit
theorem bare_any (op rd r1 r2 im od sz:Int) (m:Value) (w:World) :
    Calls Tryz.prog 207 #[.agg (I7 op rd r1 r2 im od sz),m] w fun e w'=>e = .returned (.agg (I7 op rd r1 r2 im od sz))∧Kp none w w':=by
  go_enter Tryz.func207,Tryz.ntmps207
  go_wp2
  have g:=Has.new (w.alloc (.cells (I7 op rd r1 r2 im od sz) 38)) (I7 op rd r1 r2 im od sz) 38
  have e:(w.alloc (.cells (I7 op rd r1 r2 im od sz) 38)).heap.size = w.heap.size + 1:=by simp
  rw [e] at g
  (try simp only [Exit.inBlock,Exit.then])
  refine bodyPost_ret (results_cell_row rfl _ _ (w.heap.size + 1) 38 _ (0,0) _ rfl g Tryz.underlying38 rfl (by kernel_rfl)) rfl ⟨rfl,?_⟩
  exact (((Kp.refl _ _).alloc _ _).alloc _ _)

theorem atomic_take (op rd r1 r2 im od sz:Int) (s c:Nat) (w:World) (hs:s < 4294967296) (hc:Has w c 39 #[.int .u32 s]) :
    Calls Tryz.prog 206 #[.agg (I7 op rd r1 r2 im od sz),.func (.func 209) #[] #[.pointer (some ⟨c,0,none⟩)]] w fun e w' =>
      e = .returned (.agg (I7 op (tk s 7 5 0) (tk s 15 5 0) (tk s 20 5 0) im (tk s 25 2 0) sz))∧Kp none w w':=by
  have f0:=FrT.start (I7 op rd r1 r2 im od sz) hc
  go_enter Tryz.func206,Tryz.ntmps206
  go_wp2_with fail
  refine (registers_take op rd r1 r2 im od sz s c _ hs f0.mv).mono ?_
  rintro e w1 ⟨rfl,k1⟩
  have f1:=f0.call k1
  obtain ⟨b0,b1,b2,b3,b4,b5,b6⟩:=f1.box.seven
  have z:=f1.box.free
  go_wp2_with fail
  have g0:=(((((((f1.set 0 (.int .i64 op)).set 1 (.int .i64 (tk s 7 5 0))).set 2 (.int .i64 (tk s 15 5 0))).set 3 (.int .i64 (tk s 20 5 0))).set 4 (.int .i64 im)).set 5 (.int .i64 od)).set 6 (.int .i64 sz))
  have f2:FrT w c s (I7 op (tk s 7 5 0) (tk s 15 5 0) (tk s 20 5 0) im od sz) _:=g0
  refine (take_any _ s 25 2 0 c _ hs (by omega) (by omega) (by omega) (by omega) f2.mv).mono ?_
  rintro e w2 ⟨rfl,k2⟩
  have f3:=f2.call k2
  clear b0 b1 b2 b3 b4 b5 b6 z
  obtain ⟨b0,b1,b2,b3,b4,b5,b6⟩:=f3.box.seven
  have z:=f3.box.free
  obtain ⟨q0,q1,q2,q3,q4,q5,q6⟩:=f3.res.seven
  have y:=f3.res.free
  go_wp2
  have g:=f3.set 5 (.int .i64 (tk s 25 2 0))
  (try simp only [Exit.inBlock,Exit.then])
  refine bodyPost_ret (results_cell_row rfl _ _ (w.heap.size + 1) 38 _ (0,0) _ rfl (g.res.seven_set _ _ _ _ _ _ _) Tryz.underlying38 rfl (by kernel_rfl)) rfl ⟨rfl,?_⟩
  exact g.kp.seven_set (Nat.le_succ _) _ _ _ _ _ _ _

end Go.Proofs.YtlhpodholnfppaaGreatDoor.Td
