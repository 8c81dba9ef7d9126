/-
  What the two listed variables hold, when a law's call begins; a start that meets it.
  Contracts of the forms, by what moves pieces out of a word.
  Contracts of the forms, by what lays pieces into a word.
  Contracts of the forms of atomic instructions, and of those that have no parts.
  The arrays of operators, as the package's variables hold them; what byF7 picks.
  Contracts of the smaller functions that look an operator up.
-/
import Derived.Test.YtbngjbmfkekdnaaGreatDoorT15
import Derived.ProofKit
import Derived.LaidMore
import Derived.OpenShut
import Derived.Stop.Joined
import Derived.Stop.LaidErr
import Derived.Lib.LaidTab
import Derived.Deep.Fields
import Derived.Test.YtbngjbmfkekdnaaGreatDoorT12
import Derived.Deep.RegionHeld3
import Derived.Lib.Hide
set_option linter.unusedVariables false
set_option linter.unusedSimpArgs false
set_option maxHeartbeats 16000000
open Go.Lib (hid)
namespace Go.Proofs.YtbngjbmfkekdnaaGreatDoor.Td
open Go.ChangeShapes Go.WideShapes Go.ChangeAt Go.RowKit
theorem own:ownKnob Tryz.prog.godebug = none:=by kernel_rfl

theorem cells_of_rows {H:Type} {enc:TypeId × Value → H} {P:Program} {w:World} {base:Nat} {sp:Nat → Bool} {held:Bool} {fuel:Nat} {t e u:TypeId} {n m:Nat} {k:IntKind} {cs:List Value} {rows:List (List Int)} {p:List MemPlace}
    (ht:P.underlying t = some (.array n u)) (hu:P.underlying u = some (.array m e)) (he:P.underlying e = some (.int k)) (hce:P.cellsOf e = 1) (hcu:P.cellsOf u = m) (hct:P.cellsOf t = n * m)
    (h:DataW.trod enc P w base sp held fuel t cs = some (.agg (rows.map (Lib.tabData k)),p)):∀ i zs,rows[i]? = some zs → (cs.drop (i * m)).take m = zs.map fun z=>Value.int k z:=by
  cases fuel with
  | zero=>simp [DataW.trod] at h
  | succ fuel =>
    simp only [DataW.trod,ht,hcu,hct] at h
    split at h
    · rename_i hl
      obtain ⟨xs,hm,hx⟩:=Option.map_eq_some_iff.1 h
      have hxs:xs.map (·.1) = rows.map (Lib.tabData (H:=H) k):=by
        have:=congrArg Prod.fst hx
        simpa using this
      have hxl:xs.length = n:=by simpa using Lib.mapM_length hm
      have hrl:rows.length = n:=by
        have:=congrArg List.length hxs
        simp at this
        omega
      intro i zs hz
      have hi:i < n:=by
        have:=(List.getElem?_eq_some_iff.1 hz).1
        omega
      obtain ⟨b,hb,hf⟩:=Lib.mapM_at hm i i (by simp [hi])
      have h2:(xs.map (·.1))[i]? = some b.1:=by simp [hb]
      rw [hxs] at h2
      simp only [List.getElem?_map,hz,Option.map_some,Option.some.injEq] at h2
      obtain ⟨b1,b2⟩:=b
      dsimp only at h2
      subst h2
      exact Lib.cells_of_tab hu he hce hcu hf
    · cases h
theorem rows_of_head {P:Program} {W:World} {name:String} {k:IntKind} {rows:List (List Int)} {rest:List (String × DataW Unit)} {g:Nat} {t e u:TypeId} {n m:Nat}
    (hg:P.globalNamed name = some g) (hty:(P.globals[g]?).map (·.type) = some t) (ht:P.underlying t = some (.array n u)) (hu:P.underlying u = some (.array m e)) (he:P.underlying e = some (.int k))
    (hce:P.cellsOf e = 1) (hcu:P.cellsOf u = m) (hct:P.cellsOf t = n * m)
    (h:laidMet P ((name,.agg (rows.map (Lib.tabData k))) :: rest) W):∀ i zs,rows[i]? = some zs → ∀ j,j < m → W.cell? ⟨g,i * m + j,none⟩ = (zs.map fun z=>Value.int k z)[j]?:=by
  obtain ⟨ps,⟨g',t',cs,fuel,p,q,hg',ht',hvar,hd,_,_⟩,_⟩:=h
  obtain rfl:=Option.some.inj (hg.symm.trans hg')
  obtain rfl:=Option.some.inj (hty.symm.trans ht')
  intro i zs hz j hj
  have h1:=cells_of_rows ht hu he hce hcu hct hd i zs hz
  rw [World.var?_cell hg hvar (i * m + j),← h1]
  simp [List.getElem?_drop,hj]
theorem cells3:Tryz.prog.cellsOf 3 = 1:=by kernel_rfl
theorem cells44:Tryz.prog.cellsOf 154 = 8:=by kernel_rfl
theorem cells45:Tryz.prog.cellsOf 155 = 4 * 8:=by kernel_rfl
theorem gO : Tryz.prog.globalNamed "marionette/comp.operators" = some 0 := by kernel_rfl
theorem yO:(Tryz.prog.globals[0]?).map (·.type) = some 155:=by kernel_rfl
theorem gR : Tryz.prog.globalNamed "marionette/comp.reckoners" = some 20 := by kernel_rfl
theorem yR:(Tryz.prog.globals[20]?).map (·.type) = some 154:=by kernel_rfl
def opRows:List (List Int):=[[22,0,13,14,0,0,20,21],[22,41,22,1,27,3,5,6],[28,0,13,14,31,0,20,21],[0,0,0,0,0,0,0,0]]
theorem tabO_of {W : World} {rest : List (String × DataW Unit)} (h : laidMet Tryz.prog (("marionette/comp.operators", Rows.laid_marionette_comp_operators) :: rest) W) : TabC W 0 opsT := by
  have hr:=rows_of_head (k:=.i64) (rows:=opRows) gO yO Tryz.underlying155 Tryz.underlying154 Tryz.underlying3 cells3 cells44 cells45 h
  intro i hi
  have hi32:i < 32:=hi
  have hz:∀ q,q < 4 → ∃ zs,opRows[q]? = some zs:=fun q hq=>⟨opRows[q]'hq,List.getElem?_eq_getElem hq⟩
  obtain ⟨zs,hzs⟩:=hz (i / 8) (by omega)
  have h1:=hr (i / 8) zs hzs (i % 8) (by omega)
  rw [show i / 8 * 8 + i % 8 = i by omega] at h1
  rw [h1]
  have hall:∀ i,i < 32 → (((opRows.getD (i / 8) []).map fun z=>z)[i % 8]?) = some (opsT.getD i 0):=by decide
  have h2:=hall i hi32
  have h3:opRows.getD (i / 8) [] = zs:=by simp [List.getD,hzs]
  rw [h3] at h2
  simp only [List.map_id'] at h2
  simp [h2]
theorem tabR_of {W : World} {rest : List (String × DataW Unit)} (h : laidMet Tryz.prog (("marionette/comp.reckoners", Rows.laid_marionette_comp_reckoners) :: rest) W) : TabC W 20 recT := fun i hi =>
  (Lib.tabIs_of_head (k:=.i64) (zs:=recT) gR yR Tryz.underlying154 Tryz.underlying3 cells3 cells44 h).cell gR i hi
end Go.Proofs.YtbngjbmfkekdnaaGreatDoor.Td

namespace Go.Proofs.YtbngjbmfkekdnaaGreatDoor.Td
open Go.RowKit
theorem upper_take (op rd r1 r2 im od sz:Int) (s c:Nat) (w:World) (hs:s < 4294967296) (hc:Has w c 37 #[.int .u32 s]) :
    Calls Tryz.prog 125 #[.agg (I7 op rd r1 r2 im od sz),.func (.func 138) #[] #[.pointer (some ⟨c,0,none⟩)]] w fun e w' =>
      e = .returned (.agg (I7 op (tk s 7 5 0) r1 r2 (low (tk s 12 20 12) 32) od sz))∧Kp none w w':=by
  have f0:=FrT.start (I7 op rd r1 r2 im od sz) hc
  go_enter Tryz.func125,Tryz.ntmps125
  go_wp2_with fail
  refine (take_any _ s 7 5 0 c _ hs (by omega) (by omega) (by omega) (by omega) f0.mv).mono ?_
  rintro e w1 ⟨rfl,k1⟩
  have f1:=f0.call k1
  obtain ⟨b0,b1,b2,b3,b4,b5,b6⟩:=f1.box.seven
  have z:=f1.box.free
  go_wp2_with fail
  have f2:=f1.set 1 (.int .i64 (tk s 7 5 0))
  refine (take_any _ s 12 20 12 c _ hs (by omega) (by omega) (by omega) (by omega) f2.mv).mono ?_
  rintro e w2 ⟨rfl,k2⟩
  have f3:=f2.call k2
  clear b0 b1 b2 b3 b4 b5 b6 z
  obtain ⟨b0,b1,b2,b3,b4,b5,b6⟩:=f3.box.seven
  have z:=f3.box.free
  obtain ⟨q0,q1,q2,q3,q4,q5,q6⟩:=f3.res.seven
  have y:=f3.res.free
  go_wp2_with fail
  refine (signed_any _ 32 _ (by omega) (by omega)).mono ?_
  rintro e w' ⟨rfl,rfl⟩
  go_wp2
  have g:=f3.set 4 (.int .i64 (low (tk s 12 20 12) 32))
  (try simp only [Exit.inBlock,Exit.then])
  refine bodyPost_ret (results_cell_row rfl _ _ (w.heap.size + 1) 47 _ (0,0) _ rfl (g.res.seven_set _ _ _ _ _ _ _) Tryz.underlying47 rfl (by kernel_rfl)) rfl ⟨rfl,?_⟩
  exact g.kp.seven_set (Nat.le_succ _) _ _ _ _ _ _ _

theorem immediate_take (op rd r1 r2 im od sz:Int) (s c:Nat) (w:World) (hs:s < 4294967296) (hc:Has w c 37 #[.int .u32 s]) :
    Calls Tryz.prog 127 #[.agg (I7 op rd r1 r2 im od sz),.func (.func 138) #[] #[.pointer (some ⟨c,0,none⟩)]] w fun e w' =>
      e = .returned (.agg (I7 op (tk s 7 5 0) (tk s 15 5 0) r2 (low (tk s 20 12 0) 12) od sz))∧Kp none w w':=by
  have f0:=FrT.start (I7 op rd r1 r2 im od sz) hc
  go_enter Tryz.func127,Tryz.ntmps127
  go_wp2_with fail
  refine (take_any _ s 7 5 0 c _ hs (by omega) (by omega) (by omega) (by omega) f0.mv).mono ?_
  rintro e w1 ⟨rfl,k1⟩
  have f1:=f0.call k1
  obtain ⟨b0,b1,b2,b3,b4,b5,b6⟩:=f1.box.seven
  have z:=f1.box.free
  go_wp2_with fail
  have f2:=f1.set 1 (.int .i64 (tk s 7 5 0))
  refine (take_any _ s 15 5 0 c _ hs (by omega) (by omega) (by omega) (by omega) f2.mv).mono ?_
  rintro e w2 ⟨rfl,k2⟩
  have f3:=f2.call k2
  clear b0 b1 b2 b3 b4 b5 b6 z
  obtain ⟨b0,b1,b2,b3,b4,b5,b6⟩:=f3.box.seven
  have z:=f3.box.free
  go_wp2_with fail
  have f4:=f3.set 2 (.int .i64 (tk s 15 5 0))
  refine (take_any _ s 20 12 0 c _ hs (by omega) (by omega) (by omega) (by omega) f4.mv).mono ?_
  rintro e w3 ⟨rfl,k3⟩
  have f5:=f4.call k3
  clear b0 b1 b2 b3 b4 b5 b6 z
  obtain ⟨b0,b1,b2,b3,b4,b5,b6⟩:=f5.box.seven
  have z:=f5.box.free
  obtain ⟨q0,q1,q2,q3,q4,q5,q6⟩:=f5.res.seven
  have y:=f5.res.free
  go_wp2_with fail
  refine (signed_any _ 12 _ (by omega) (by omega)).mono ?_
  rintro e w' ⟨rfl,rfl⟩
  go_wp2
  have g:=f5.set 4 (.int .i64 (low (tk s 20 12 0) 12))
  (try simp only [Exit.inBlock,Exit.then])
  refine bodyPost_ret (results_cell_row rfl _ _ (w.heap.size + 1) 47 _ (0,0) _ rfl (g.res.seven_set _ _ _ _ _ _ _) Tryz.underlying47 rfl (by kernel_rfl)) rfl ⟨rfl,?_⟩
  exact g.kp.seven_set (Nat.le_succ _) _ _ _ _ _ _ _

theorem registers_take (op rd r1 r2 im od sz:Int) (s c:Nat) (w:World) (hs:s < 4294967296) (hc:Has w c 37 #[.int .u32 s]) :
    Calls Tryz.prog 132 #[.agg (I7 op rd r1 r2 im od sz),.func (.func 138) #[] #[.pointer (some ⟨c,0,none⟩)]] w fun e w' =>
      e = .returned (.agg (I7 op (tk s 7 5 0) (tk s 15 5 0) (tk s 20 5 0) im od sz))∧Kp none w w':=by
  have f0:=FrT.start (I7 op rd r1 r2 im od sz) hc
  go_enter Tryz.func132,Tryz.ntmps132
  go_wp2_with fail
  refine (take_any _ s 7 5 0 c _ hs (by omega) (by omega) (by omega) (by omega) f0.mv).mono ?_
  rintro e w1 ⟨rfl,k1⟩
  have f1:=f0.call k1
  obtain ⟨b0,b1,b2,b3,b4,b5,b6⟩:=f1.box.seven
  have z:=f1.box.free
  go_wp2_with fail
  have f2:=f1.set 1 (.int .i64 (tk s 7 5 0))
  refine (take_any _ s 15 5 0 c _ hs (by omega) (by omega) (by omega) (by omega) f2.mv).mono ?_
  rintro e w2 ⟨rfl,k2⟩
  have f3:=f2.call k2
  clear b0 b1 b2 b3 b4 b5 b6 z
  obtain ⟨b0,b1,b2,b3,b4,b5,b6⟩:=f3.box.seven
  have z:=f3.box.free
  go_wp2_with fail
  have f4:=f3.set 2 (.int .i64 (tk s 15 5 0))
  refine (take_any _ s 20 5 0 c _ hs (by omega) (by omega) (by omega) (by omega) f4.mv).mono ?_
  rintro e w3 ⟨rfl,k3⟩
  have f5:=f4.call k3
  clear b0 b1 b2 b3 b4 b5 b6 z
  obtain ⟨b0,b1,b2,b3,b4,b5,b6⟩:=f5.box.seven
  have z:=f5.box.free
  obtain ⟨q0,q1,q2,q3,q4,q5,q6⟩:=f5.res.seven
  have y:=f5.res.free
  go_wp2
  have g:=f5.set 3 (.int .i64 (tk s 20 5 0))
  (try simp only [Exit.inBlock,Exit.then])
  refine bodyPost_ret (results_cell_row rfl _ _ (w.heap.size + 1) 47 _ (0,0) _ rfl (g.res.seven_set _ _ _ _ _ _ _) Tryz.underlying47 rfl (by kernel_rfl)) rfl ⟨rfl,?_⟩
  exact g.kp.seven_set (Nat.le_succ _) _ _ _ _ _ _ _

theorem jump_take (op rd r1 r2 im od sz:Int) (s c:Nat) (w:World) (hs:s < 4294967296) (hc:Has w c 37 #[.int .u32 s]) :
    Calls Tryz.prog 126 #[.agg (I7 op rd r1 r2 im od sz),.func (.func 138) #[] #[.pointer (some ⟨c,0,none⟩)]] w fun e w' =>
      e = .returned (.agg (I7 op (tk s 7 5 0) r1 r2 (low (bits .or .i64 (bits .or .i64 (bits .or .i64 (tk s 31 1 20) (tk s 12 8 12)) (tk s 20 1 11)) (tk s 21 10 1)) 21) od sz))∧Kp none w w':=by
  have f0:=FrT.start (I7 op rd r1 r2 im od sz) hc
  go_enter Tryz.func126,Tryz.ntmps126
  go_wp2_with fail
  refine (take_any _ s 7 5 0 c _ hs (by omega) (by omega) (by omega) (by omega) f0.mv).mono ?_
  rintro e w1 ⟨rfl,k1⟩
  have f1:=f0.call k1
  obtain ⟨b0,b1,b2,b3,b4,b5,b6⟩:=f1.box.seven
  have z:=f1.box.free
  go_wp2_with fail
  have f2:=f1.set 1 (.int .i64 (tk s 7 5 0))
  have f3:=f2.drew
  refine wp_region_hd 20 (fun w'=>w'.cell? ⟨w.heap.size,4,none⟩ = some (.int .i64 im)) (by kernel_rfl) (by decide) (f3.box.cell 4) (fun hHeld=>?_)
  refine wpHd_take (i:=0) (v:=?_) rfl (by kernel_rfl) (fun _ _ _ h=>h) (Or.inl ⟨by rfl,?hy⟩) hHeld ?_
  case hy=>(intro w hSw;(try dsimp only at hSw);go_split_ands;go_simp;try (with_reducible rfl))
  (try simp only [Act.put,List.setIfInBounds_toArray,List.set_cons_zero,List.set_cons_succ])
  refine wpHd_take (i:=1) (v:=?_) rfl (by kernel_rfl) (fun _ _ _ h=>h) (Or.inl ⟨by rfl,?hy⟩) hHeld ?_
  case hy=>(intro w hSw;(try dsimp only at hSw);go_split_ands;go_simp;try (with_reducible rfl))
  (try simp only [Act.put,List.setIfInBounds_toArray,List.set_cons_zero,List.set_cons_succ])
  refine wpHd_take (i:=2) (v:=?_) rfl (by kernel_rfl) (fun _ _ _ h=>h) (Or.inl ⟨by rfl,?hy⟩) hHeld ?_
  case hy=>(intro w hSw;(try dsimp only at hSw);go_split_ands;go_simp;try (with_reducible rfl))
  (try simp only [Act.put,List.setIfInBounds_toArray,List.set_cons_zero,List.set_cons_succ])
  refine wpHd_take (i:=4) (v:=?_) rfl (by kernel_rfl) (fun _ _ _ h=>h) (Or.inl ⟨by rfl,?hy⟩) hHeld ?_
  case hy=>(intro w hSw;(try dsimp only at hSw);go_split_ands;go_simp;try (with_reducible rfl))
  (try simp only [Act.put,List.setIfInBounds_toArray,List.set_cons_zero,List.set_cons_succ])
  refine wpHd_take (i:=5) (v:=?_) rfl (by kernel_rfl) (fun _ _ _ h=>h) (Or.inl ⟨by rfl,?hy⟩) hHeld ?_
  case hy=>(intro w hSw;(try dsimp only at hSw);go_split_ands;go_simp;try (with_reducible rfl))
  (try simp only [Act.put,List.setIfInBounds_toArray,List.set_cons_zero,List.set_cons_succ])
  refine wpHd_take (i:=6) (v:=?_) rfl (by kernel_rfl) (fun _ _ _ h=>h) (Or.inl ⟨by rfl,?hy⟩) hHeld ?_
  case hy=>(intro w hSw;(try dsimp only at hSw);go_split_ands;go_simp;try (with_reducible rfl))
  (try simp only [Act.put,List.setIfInBounds_toArray,List.set_cons_zero,List.set_cons_succ])
  refine wpHd_take (i:=9) (v:=?_) rfl (by kernel_rfl) (fun _ _ _ h=>h) (Or.inl ⟨by rfl,?hy⟩) hHeld ?_
  case hy=>(intro w hSw;(try dsimp only at hSw);go_split_ands;go_simp;try (with_reducible rfl))
  (try simp only [Act.put,List.setIfInBounds_toArray,List.set_cons_zero,List.set_cons_succ])
  refine wpHd_take (i:=10) (v:=?_) rfl (by kernel_rfl) (fun _ _ _ h=>h) (Or.inl ⟨by rfl,?hy⟩) hHeld ?_
  case hy=>(intro w hSw;(try dsimp only at hSw);go_split_ands;go_simp;try (with_reducible rfl))
  (try simp only [Act.put,List.setIfInBounds_toArray,List.set_cons_zero,List.set_cons_succ])
  refine wpHd_take (i:=11) (v:=?_) rfl (by kernel_rfl) (fun _ _ _ h=>h) (Or.inl ⟨by rfl,?hy⟩) hHeld ?_
  case hy=>(intro w hSw;(try dsimp only at hSw);go_split_ands;go_simp;try (with_reducible rfl))
  (try simp only [Act.put,List.setIfInBounds_toArray,List.set_cons_zero,List.set_cons_succ])
  refine wpHd_take (i:=14) (v:=?_) rfl (by kernel_rfl) (fun _ _ _ h=>h) (Or.inl ⟨by rfl,?hy⟩) hHeld ?_
  case hy=>(intro w hSw;(try dsimp only at hSw);go_split_ands;go_simp;try (with_reducible rfl))
  (try simp only [Act.put,List.setIfInBounds_toArray,List.set_cons_zero,List.set_cons_succ])
  refine wpHd_take (i:=15) (v:=?_) rfl (by kernel_rfl) (fun _ _ _ h=>h) (Or.inl ⟨by rfl,?hy⟩) hHeld ?_
  case hy=>(intro w hSw;(try dsimp only at hSw);go_split_ands;go_simp;try (with_reducible rfl))
  (try simp only [Act.put,List.setIfInBounds_toArray,List.set_cons_zero,List.set_cons_succ])
  refine wpHd_take (i:=16) (v:=?_) rfl (by kernel_rfl) (fun _ _ _ h=>h) (Or.inl ⟨by rfl,?hy⟩) hHeld ?_
  case hy=>(intro w hSw;(try dsimp only at hSw);go_split_ands;go_simp;try (with_reducible rfl))
  (try simp only [Act.put,List.setIfInBounds_toArray,List.set_cons_zero,List.set_cons_succ])
  refine wpHd_one (i:=3) rfl (by kernel_rfl) (fun K hK=>?_)
  go_simp
  refine (take_any _ s 31 1 20 c _ hs (by omega) (by omega) (by omega) (by omega) f3.mv).mono ?_
  rintro e w2 ⟨rfl,k2⟩
  have f4:=f3.call k2
  refine hK.out _ _ (f4.box.cell 4) (fun hHeld=>?_)
  clear hK K
  (try simp only [Act.put,List.setIfInBounds_toArray,List.set_cons_zero,List.set_cons_succ])
  refine wpHd_one (i:=7) rfl (by kernel_rfl) (fun K hK=>?_)
  go_simp
  refine (take_any _ s 12 8 12 c _ hs (by omega) (by omega) (by omega) (by omega) f4.mv).mono ?_
  rintro e w3 ⟨rfl,k3⟩
  have f5:=f4.call k3
  refine hK.out _ _ (f5.box.cell 4) (fun hHeld=>?_)
  clear hK K
  (try simp only [Act.put,List.setIfInBounds_toArray,List.set_cons_zero,List.set_cons_succ])
  refine wpHd_take (i:=8) (v:=?_) rfl (by kernel_rfl) (fun _ _ _ h=>h) (Or.inl ⟨by rfl,?hy⟩) hHeld ?_
  case hy=>(intro w hSw;(try dsimp only at hSw);go_split_ands;go_simp;try (with_reducible rfl))
  (try simp only [Act.put,List.setIfInBounds_toArray,List.set_cons_zero,List.set_cons_succ])
  refine wpHd_one (i:=12) rfl (by kernel_rfl) (fun K hK=>?_)
  go_simp
  refine (take_any _ s 20 1 11 c _ hs (by omega) (by omega) (by omega) (by omega) f5.mv).mono ?_
  rintro e w4 ⟨rfl,k4⟩
  have f6:=f5.call k4
  refine hK.out _ _ (f6.box.cell 4) (fun hHeld=>?_)
  clear hK K
  (try simp only [Act.put,List.setIfInBounds_toArray,List.set_cons_zero,List.set_cons_succ])
  refine wpHd_take (i:=13) (v:=?_) rfl (by kernel_rfl) (fun _ _ _ h=>h) (Or.inl ⟨by rfl,?hy⟩) hHeld ?_
  case hy=>(intro w hSw;(try dsimp only at hSw);go_split_ands;go_simp;try (with_reducible rfl))
  (try simp only [Act.put,List.setIfInBounds_toArray,List.set_cons_zero,List.set_cons_succ])
  refine wpHd_one (i:=17) rfl (by kernel_rfl) (fun K hK=>?_)
  go_simp
  refine (take_any _ s 21 10 1 c _ hs (by omega) (by omega) (by omega) (by omega) f6.mv).mono ?_
  rintro e w5 ⟨rfl,k5⟩
  have f7:=f6.call k5
  refine hK.out _ _ (f7.box.cell 4) (fun hHeld=>?_)
  clear hK K
  (try simp only [Act.put,List.setIfInBounds_toArray,List.set_cons_zero,List.set_cons_succ])
  refine wpHd_take (i:=18) (v:=?_) rfl (by kernel_rfl) (fun _ _ _ h=>h) (Or.inl ⟨by rfl,?hy⟩) hHeld ?_
  case hy=>(intro w hSw;(try dsimp only at hSw);go_split_ands;go_simp;try (with_reducible rfl))
  (try simp only [Act.put,List.setIfInBounds_toArray,List.set_cons_zero,List.set_cons_succ])
  refine wpHd_one (i:=19) rfl (by kernel_rfl) (fun K hK=>?_)
  go_simp
  refine (signed_any _ 21 _ (by omega) (by omega)).mono ?_
  rintro e w' ⟨rfl,rfl⟩
  refine hK.out _ _ (f7.box.cell 4) (fun hHeld=>?_)
  clear hK K
  (try simp only [Act.put,List.setIfInBounds_toArray,List.set_cons_zero,List.set_cons_succ])
  refine ⟨by kernel_rfl,?_⟩
  simp only [List.drop_succ_cons,List.drop_zero]
  clear b0 b1 b2 b3 b4 b5 b6 z
  obtain ⟨b0,b1,b2,b3,b4,b5,b6⟩:=f7.box.seven
  have z:=f7.box.free
  obtain ⟨q0,q1,q2,q3,q4,q5,q6⟩:=f7.res.seven
  have y:=f7.res.free
  go_wp2
  have g:=f7.set 4 (.int .i64 (low (bits .or .i64 (bits .or .i64 (bits .or .i64 (tk s 31 1 20) (tk s 12 8 12)) (tk s 20 1 11)) (tk s 21 10 1)) 21))
  (try simp only [Exit.inBlock,Exit.then])
  refine bodyPost_ret (results_cell_row rfl _ _ (w.heap.size + 1) 47 _ (0,0) _ rfl (g.res.seven_set _ _ _ _ _ _ _) Tryz.underlying47 rfl (by kernel_rfl)) rfl ⟨rfl,?_⟩
  exact g.kp.seven_set (Nat.le_succ _) _ _ _ _ _ _ _

theorem branch_take (op rd r1 r2 im od sz:Int) (s c:Nat) (w:World) (hs:s < 4294967296) (hc:Has w c 37 #[.int .u32 s]) :
    Calls Tryz.prog 128 #[.agg (I7 op rd r1 r2 im od sz),.func (.func 138) #[] #[.pointer (some ⟨c,0,none⟩)]] w fun e w' =>
      e = .returned (.agg (I7 op rd (tk s 15 5 0) (tk s 20 5 0) (low (bits .or .i64 (bits .or .i64 (bits .or .i64 (tk s 31 1 12) (tk s 7 1 11)) (tk s 25 6 5)) (tk s 8 4 1)) 13) od sz))∧Kp none w w':=by
  have f0:=FrT.start (I7 op rd r1 r2 im od sz) hc
  go_enter Tryz.func128,Tryz.ntmps128
  go_wp2_with fail
  refine (take_any _ s 15 5 0 c _ hs (by omega) (by omega) (by omega) (by omega) f0.mv).mono ?_
  rintro e w1 ⟨rfl,k1⟩
  have f1:=f0.call k1
  obtain ⟨b0,b1,b2,b3,b4,b5,b6⟩:=f1.box.seven
  have z:=f1.box.free
  go_wp2_with fail
  have f2:=f1.set 2 (.int .i64 (tk s 15 5 0))
  refine (take_any _ s 20 5 0 c _ hs (by omega) (by omega) (by omega) (by omega) f2.mv).mono ?_
  rintro e w2 ⟨rfl,k2⟩
  have f3:=f2.call k2
  clear b0 b1 b2 b3 b4 b5 b6 z
  obtain ⟨b0,b1,b2,b3,b4,b5,b6⟩:=f3.box.seven
  have z:=f3.box.free
  go_wp2_with fail
  have f4:=f3.set 3 (.int .i64 (tk s 20 5 0))
  have f5:=f4.drew
  refine wp_region_hd 20 (fun w'=>w'.cell? ⟨w.heap.size,4,none⟩ = some (.int .i64 im)) (by kernel_rfl) (by decide) (f5.box.cell 4) (fun hHeld=>?_)
  refine wpHd_take (i:=0) (v:=?_) rfl (by kernel_rfl) (fun _ _ _ h=>h) (Or.inl ⟨by rfl,?hy⟩) hHeld ?_
  case hy=>(intro w hSw;(try dsimp only at hSw);go_split_ands;go_simp;try (with_reducible rfl))
  (try simp only [Act.put,List.setIfInBounds_toArray,List.set_cons_zero,List.set_cons_succ])
  refine wpHd_take (i:=1) (v:=?_) rfl (by kernel_rfl) (fun _ _ _ h=>h) (Or.inl ⟨by rfl,?hy⟩) hHeld ?_
  case hy=>(intro w hSw;(try dsimp only at hSw);go_split_ands;go_simp;try (with_reducible rfl))
  (try simp only [Act.put,List.setIfInBounds_toArray,List.set_cons_zero,List.set_cons_succ])
  refine wpHd_take (i:=2) (v:=?_) rfl (by kernel_rfl) (fun _ _ _ h=>h) (Or.inl ⟨by rfl,?hy⟩) hHeld ?_
  case hy=>(intro w hSw;(try dsimp only at hSw);go_split_ands;go_simp;try (with_reducible rfl))
  (try simp only [Act.put,List.setIfInBounds_toArray,List.set_cons_zero,List.set_cons_succ])
  refine wpHd_take (i:=4) (v:=?_) rfl (by kernel_rfl) (fun _ _ _ h=>h) (Or.inl ⟨by rfl,?hy⟩) hHeld ?_
  case hy=>(intro w hSw;(try dsimp only at hSw);go_split_ands;go_simp;try (with_reducible rfl))
  (try simp only [Act.put,List.setIfInBounds_toArray,List.set_cons_zero,List.set_cons_succ])
  refine wpHd_take (i:=5) (v:=?_) rfl (by kernel_rfl) (fun _ _ _ h=>h) (Or.inl ⟨by rfl,?hy⟩) hHeld ?_
  case hy=>(intro w hSw;(try dsimp only at hSw);go_split_ands;go_simp;try (with_reducible rfl))
  (try simp only [Act.put,List.setIfInBounds_toArray,List.set_cons_zero,List.set_cons_succ])
  refine wpHd_take (i:=6) (v:=?_) rfl (by kernel_rfl) (fun _ _ _ h=>h) (Or.inl ⟨by rfl,?hy⟩) hHeld ?_
  case hy=>(intro w hSw;(try dsimp only at hSw);go_split_ands;go_simp;try (with_reducible rfl))
  (try simp only [Act.put,List.setIfInBounds_toArray,List.set_cons_zero,List.set_cons_succ])
  refine wpHd_take (i:=9) (v:=?_) rfl (by kernel_rfl) (fun _ _ _ h=>h) (Or.inl ⟨by rfl,?hy⟩) hHeld ?_
  case hy=>(intro w hSw;(try dsimp only at hSw);go_split_ands;go_simp;try (with_reducible rfl))
  (try simp only [Act.put,List.setIfInBounds_toArray,List.set_cons_zero,List.set_cons_succ])
  refine wpHd_take (i:=10) (v:=?_) rfl (by kernel_rfl) (fun _ _ _ h=>h) (Or.inl ⟨by rfl,?hy⟩) hHeld ?_
  case hy=>(intro w hSw;(try dsimp only at hSw);go_split_ands;go_simp;try (with_reducible rfl))
  (try simp only [Act.put,List.setIfInBounds_toArray,List.set_cons_zero,List.set_cons_succ])
  refine wpHd_take (i:=11) (v:=?_) rfl (by kernel_rfl) (fun _ _ _ h=>h) (Or.inl ⟨by rfl,?hy⟩) hHeld ?_
  case hy=>(intro w hSw;(try dsimp only at hSw);go_split_ands;go_simp;try (with_reducible rfl))
  (try simp only [Act.put,List.setIfInBounds_toArray,List.set_cons_zero,List.set_cons_succ])
  refine wpHd_take (i:=14) (v:=?_) rfl (by kernel_rfl) (fun _ _ _ h=>h) (Or.inl ⟨by rfl,?hy⟩) hHeld ?_
  case hy=>(intro w hSw;(try dsimp only at hSw);go_split_ands;go_simp;try (with_reducible rfl))
  (try simp only [Act.put,List.setIfInBounds_toArray,List.set_cons_zero,List.set_cons_succ])
  refine wpHd_take (i:=15) (v:=?_) rfl (by kernel_rfl) (fun _ _ _ h=>h) (Or.inl ⟨by rfl,?hy⟩) hHeld ?_
  case hy=>(intro w hSw;(try dsimp only at hSw);go_split_ands;go_simp;try (with_reducible rfl))
  (try simp only [Act.put,List.setIfInBounds_toArray,List.set_cons_zero,List.set_cons_succ])
  refine wpHd_take (i:=16) (v:=?_) rfl (by kernel_rfl) (fun _ _ _ h=>h) (Or.inl ⟨by rfl,?hy⟩) hHeld ?_
  case hy=>(intro w hSw;(try dsimp only at hSw);go_split_ands;go_simp;try (with_reducible rfl))
  (try simp only [Act.put,List.setIfInBounds_toArray,List.set_cons_zero,List.set_cons_succ])
  refine wpHd_one (i:=3) rfl (by kernel_rfl) (fun K hK=>?_)
  go_simp
  refine (take_any _ s 31 1 12 c _ hs (by omega) (by omega) (by omega) (by omega) f5.mv).mono ?_
  rintro e w3 ⟨rfl,k3⟩
  have f6:=f5.call k3
  refine hK.out _ _ (f6.box.cell 4) (fun hHeld=>?_)
  clear hK K
  (try simp only [Act.put,List.setIfInBounds_toArray,List.set_cons_zero,List.set_cons_succ])
  refine wpHd_one (i:=7) rfl (by kernel_rfl) (fun K hK=>?_)
  go_simp
  refine (take_any _ s 7 1 11 c _ hs (by omega) (by omega) (by omega) (by omega) f6.mv).mono ?_
  rintro e w4 ⟨rfl,k4⟩
  have f7:=f6.call k4
  refine hK.out _ _ (f7.box.cell 4) (fun hHeld=>?_)
  clear hK K
  (try simp only [Act.put,List.setIfInBounds_toArray,List.set_cons_zero,List.set_cons_succ])
  refine wpHd_take (i:=8) (v:=?_) rfl (by kernel_rfl) (fun _ _ _ h=>h) (Or.inl ⟨by rfl,?hy⟩) hHeld ?_
  case hy=>(intro w hSw;(try dsimp only at hSw);go_split_ands;go_simp;try (with_reducible rfl))
  (try simp only [Act.put,List.setIfInBounds_toArray,List.set_cons_zero,List.set_cons_succ])
  refine wpHd_one (i:=12) rfl (by kernel_rfl) (fun K hK=>?_)
  go_simp
  refine (take_any _ s 25 6 5 c _ hs (by omega) (by omega) (by omega) (by omega) f7.mv).mono ?_
  rintro e w5 ⟨rfl,k5⟩
  have f8:=f7.call k5
  refine hK.out _ _ (f8.box.cell 4) (fun hHeld=>?_)
  clear hK K
  (try simp only [Act.put,List.setIfInBounds_toArray,List.set_cons_zero,List.set_cons_succ])
  refine wpHd_take (i:=13) (v:=?_) rfl (by kernel_rfl) (fun _ _ _ h=>h) (Or.inl ⟨by rfl,?hy⟩) hHeld ?_
  case hy=>(intro w hSw;(try dsimp only at hSw);go_split_ands;go_simp;try (with_reducible rfl))
  (try simp only [Act.put,List.setIfInBounds_toArray,List.set_cons_zero,List.set_cons_succ])
  refine wpHd_one (i:=17) rfl (by kernel_rfl) (fun K hK=>?_)
  go_simp
  refine (take_any _ s 8 4 1 c _ hs (by omega) (by omega) (by omega) (by omega) f8.mv).mono ?_
  rintro e w6 ⟨rfl,k6⟩
  have f9:=f8.call k6
  refine hK.out _ _ (f9.box.cell 4) (fun hHeld=>?_)
  clear hK K
  (try simp only [Act.put,List.setIfInBounds_toArray,List.set_cons_zero,List.set_cons_succ])
  refine wpHd_take (i:=18) (v:=?_) rfl (by kernel_rfl) (fun _ _ _ h=>h) (Or.inl ⟨by rfl,?hy⟩) hHeld ?_
  case hy=>(intro w hSw;(try dsimp only at hSw);go_split_ands;go_simp;try (with_reducible rfl))
  (try simp only [Act.put,List.setIfInBounds_toArray,List.set_cons_zero,List.set_cons_succ])
  refine wpHd_one (i:=19) rfl (by kernel_rfl) (fun K hK=>?_)
  go_simp
  refine (signed_any _ 13 _ (by omega) (by omega)).mono ?_
  rintro e w' ⟨rfl,rfl⟩
  refine hK.out _ _ (f9.box.cell 4) (fun hHeld=>?_)
  clear hK K
  (try simp only [Act.put,List.setIfInBounds_toArray,List.set_cons_zero,List.set_cons_succ])
  refine ⟨by kernel_rfl,?_⟩
  simp only [List.drop_succ_cons,List.drop_zero]
  clear b0 b1 b2 b3 b4 b5 b6 z
  obtain ⟨b0,b1,b2,b3,b4,b5,b6⟩:=f9.box.seven
  have z:=f9.box.free
  obtain ⟨q0,q1,q2,q3,q4,q5,q6⟩:=f9.res.seven
  have y:=f9.res.free
  go_wp2
  have g:=f9.set 4 (.int .i64 (low (bits .or .i64 (bits .or .i64 (bits .or .i64 (tk s 31 1 12) (tk s 7 1 11)) (tk s 25 6 5)) (tk s 8 4 1)) 13))
  (try simp only [Exit.inBlock,Exit.then])
  refine bodyPost_ret (results_cell_row rfl _ _ (w.heap.size + 1) 47 _ (0,0) _ rfl (g.res.seven_set _ _ _ _ _ _ _) Tryz.underlying47 rfl (by kernel_rfl)) rfl ⟨rfl,?_⟩
  exact g.kp.seven_set (Nat.le_succ _) _ _ _ _ _ _ _

theorem store_take (op rd r1 r2 im od sz:Int) (s c:Nat) (w:World) (hs:s < 4294967296) (hc:Has w c 37 #[.int .u32 s]) :
    Calls Tryz.prog 129 #[.agg (I7 op rd r1 r2 im od sz),.func (.func 138) #[] #[.pointer (some ⟨c,0,none⟩)]] w fun e w' =>
      e = .returned (.agg (I7 op rd (tk s 15 5 0) (tk s 20 5 0) (low (bits .or .i64 (tk s 25 7 5) (tk s 7 5 0)) 12) od sz))∧Kp none w w':=by
  have f0:=FrT.start (I7 op rd r1 r2 im od sz) hc
  go_enter Tryz.func129,Tryz.ntmps129
  go_wp2_with fail
  refine (take_any _ s 15 5 0 c _ hs (by omega) (by omega) (by omega) (by omega) f0.mv).mono ?_
  rintro e w1 ⟨rfl,k1⟩
  have f1:=f0.call k1
  obtain ⟨b0,b1,b2,b3,b4,b5,b6⟩:=f1.box.seven
  have z:=f1.box.free
  go_wp2_with fail
  have f2:=f1.set 2 (.int .i64 (tk s 15 5 0))
  refine (take_any _ s 20 5 0 c _ hs (by omega) (by omega) (by omega) (by omega) f2.mv).mono ?_
  rintro e w2 ⟨rfl,k2⟩
  have f3:=f2.call k2
  clear b0 b1 b2 b3 b4 b5 b6 z
  obtain ⟨b0,b1,b2,b3,b4,b5,b6⟩:=f3.box.seven
  have z:=f3.box.free
  go_wp2_with fail
  have f4:=f3.set 3 (.int .i64 (tk s 20 5 0))
  have f5:=f4.drew
  refine wp_region_hd 10 (fun w'=>w'.cell? ⟨w.heap.size,4,none⟩ = some (.int .i64 im)) (by kernel_rfl) (by decide) (f5.box.cell 4) (fun hHeld=>?_)
  refine wpHd_take (i:=0) (v:=?_) rfl (by kernel_rfl) (fun _ _ _ h=>h) (Or.inl ⟨by rfl,?hy⟩) hHeld ?_
  case hy=>(intro w hSw;(try dsimp only at hSw);go_split_ands;go_simp;try (with_reducible rfl))
  (try simp only [Act.put,List.setIfInBounds_toArray,List.set_cons_zero,List.set_cons_succ])
  refine wpHd_take (i:=1) (v:=?_) rfl (by kernel_rfl) (fun _ _ _ h=>h) (Or.inl ⟨by rfl,?hy⟩) hHeld ?_
  case hy=>(intro w hSw;(try dsimp only at hSw);go_split_ands;go_simp;try (with_reducible rfl))
  (try simp only [Act.put,List.setIfInBounds_toArray,List.set_cons_zero,List.set_cons_succ])
  refine wpHd_take (i:=2) (v:=?_) rfl (by kernel_rfl) (fun _ _ _ h=>h) (Or.inl ⟨by rfl,?hy⟩) hHeld ?_
  case hy=>(intro w hSw;(try dsimp only at hSw);go_split_ands;go_simp;try (with_reducible rfl))
  (try simp only [Act.put,List.setIfInBounds_toArray,List.set_cons_zero,List.set_cons_succ])
  refine wpHd_take (i:=4) (v:=?_) rfl (by kernel_rfl) (fun _ _ _ h=>h) (Or.inl ⟨by rfl,?hy⟩) hHeld ?_
  case hy=>(intro w hSw;(try dsimp only at hSw);go_split_ands;go_simp;try (with_reducible rfl))
  (try simp only [Act.put,List.setIfInBounds_toArray,List.set_cons_zero,List.set_cons_succ])
  refine wpHd_take (i:=5) (v:=?_) rfl (by kernel_rfl) (fun _ _ _ h=>h) (Or.inl ⟨by rfl,?hy⟩) hHeld ?_
  case hy=>(intro w hSw;(try dsimp only at hSw);go_split_ands;go_simp;try (with_reducible rfl))
  (try simp only [Act.put,List.setIfInBounds_toArray,List.set_cons_zero,List.set_cons_succ])
  refine wpHd_take (i:=6) (v:=?_) rfl (by kernel_rfl) (fun _ _ _ h=>h) (Or.inl ⟨by rfl,?hy⟩) hHeld ?_
  case hy=>(intro w hSw;(try dsimp only at hSw);go_split_ands;go_simp;try (with_reducible rfl))
  (try simp only [Act.put,List.setIfInBounds_toArray,List.set_cons_zero,List.set_cons_succ])
  refine wpHd_one (i:=3) rfl (by kernel_rfl) (fun K hK=>?_)
  go_simp
  refine (take_any _ s 25 7 5 c _ hs (by omega) (by omega) (by omega) (by omega) f5.mv).mono ?_
  rintro e w3 ⟨rfl,k3⟩
  have f6:=f5.call k3
  refine hK.out _ _ (f6.box.cell 4) (fun hHeld=>?_)
  clear hK K
  (try simp only [Act.put,List.setIfInBounds_toArray,List.set_cons_zero,List.set_cons_succ])
  refine wpHd_one (i:=7) rfl (by kernel_rfl) (fun K hK=>?_)
  go_simp
  refine (take_any _ s 7 5 0 c _ hs (by omega) (by omega) (by omega) (by omega) f6.mv).mono ?_
  rintro e w4 ⟨rfl,k4⟩
  have f7:=f6.call k4
  refine hK.out _ _ (f7.box.cell 4) (fun hHeld=>?_)
  clear hK K
  (try simp only [Act.put,List.setIfInBounds_toArray,List.set_cons_zero,List.set_cons_succ])
  refine wpHd_take (i:=8) (v:=?_) rfl (by kernel_rfl) (fun _ _ _ h=>h) (Or.inl ⟨by rfl,?hy⟩) hHeld ?_
  case hy=>(intro w hSw;(try dsimp only at hSw);go_split_ands;go_simp;try (with_reducible rfl))
  (try simp only [Act.put,List.setIfInBounds_toArray,List.set_cons_zero,List.set_cons_succ])
  refine wpHd_one (i:=9) rfl (by kernel_rfl) (fun K hK=>?_)
  go_simp
  refine (signed_any _ 12 _ (by omega) (by omega)).mono ?_
  rintro e w' ⟨rfl,rfl⟩
  refine hK.out _ _ (f7.box.cell 4) (fun hHeld=>?_)
  clear hK K
  (try simp only [Act.put,List.setIfInBounds_toArray,List.set_cons_zero,List.set_cons_succ])
  refine ⟨by kernel_rfl,?_⟩
  simp only [List.drop_succ_cons,List.drop_zero]
  clear b0 b1 b2 b3 b4 b5 b6 z
  obtain ⟨b0,b1,b2,b3,b4,b5,b6⟩:=f7.box.seven
  have z:=f7.box.free
  obtain ⟨q0,q1,q2,q3,q4,q5,q6⟩:=f7.res.seven
  have y:=f7.res.free
  go_wp2
  have g:=f7.set 4 (.int .i64 (low (bits .or .i64 (tk s 25 7 5) (tk s 7 5 0)) 12))
  (try simp only [Exit.inBlock,Exit.then])
  refine bodyPost_ret (results_cell_row rfl _ _ (w.heap.size + 1) 47 _ (0,0) _ rfl (g.res.seven_set _ _ _ _ _ _ _) Tryz.underlying47 rfl (by kernel_rfl)) rfl ⟨rfl,?_⟩
  exact g.kp.seven_set (Nat.le_succ _) _ _ _ _ _ _ _

theorem shift_take (op rd r1 r2 im od sz:Int) (s c:Nat) (w:World) (hs:s < 4294967296) (hc:Has w c 37 #[.int .u32 s]) (q Q:Nat) (hq20:q ≤ 6) (hq:Has w Q 3 #[.int .i64 q]) :
    Calls Tryz.prog 164 #[.agg (I7 op rd r1 r2 im od sz),.func (.func 138) #[] #[.pointer (some ⟨c,0,none⟩)],.pointer (some ⟨Q,0,none⟩)] w fun e w' =>
      e = .returned (.agg (I7 op (tk s 7 5 0) (tk s 15 5 0) r2 (tk s 20 q 0) od sz))∧Kp none w w':=by
  have f0:=FrT.start (I7 op rd r1 r2 im od sz) hc
  go_enter Tryz.func164,Tryz.ntmps164
  go_wp2_with fail
  refine (take_any _ s 7 5 0 c _ hs (by omega) (by omega) (by omega) (by omega) f0.mv).mono ?_
  rintro e w1 ⟨rfl,k1⟩
  have f1:=f0.call k1
  obtain ⟨b0,b1,b2,b3,b4,b5,b6⟩:=f1.box.seven
  have z:=f1.box.free
  have qq:=(hq.kp f1.kp (by simp)).cell 0
  simp at qq
  go_wp2_with fail
  have f2:=f1.set 1 (.int .i64 (tk s 7 5 0))
  refine (take_any _ s 15 5 0 c _ hs (by omega) (by omega) (by omega) (by omega) f2.mv).mono ?_
  rintro e w2 ⟨rfl,k2⟩
  have f3:=f2.call k2
  clear b0 b1 b2 b3 b4 b5 b6 z qq
  obtain ⟨b0,b1,b2,b3,b4,b5,b6⟩:=f3.box.seven
  have z:=f3.box.free
  have qq:=(hq.kp f3.kp (by simp)).cell 0
  simp at qq
  go_wp2_with fail
  have f4:=f3.set 2 (.int .i64 (tk s 15 5 0))
  refine (take_any _ s 20 q 0 c _ hs (by omega) (by omega) (by omega) (by omega) f4.mv).mono ?_
  rintro e w3 ⟨rfl,k3⟩
  have f5:=f4.call k3
  clear b0 b1 b2 b3 b4 b5 b6 z qq
  obtain ⟨b0,b1,b2,b3,b4,b5,b6⟩:=f5.box.seven
  have z:=f5.box.free
  obtain ⟨q0,q1,q2,q3,q4,q5,q6⟩:=f5.res.seven
  have y:=f5.res.free
  have qq:=(hq.kp f5.kp (by simp)).cell 0
  simp at qq
  go_wp2
  have g:=f5.set 4 (.int .i64 (tk s 20 q 0))
  (try simp only [Exit.inBlock,Exit.then])
  refine bodyPost_ret (results_cell_row rfl _ _ (w.heap.size + 1) 47 _ (0,0) _ rfl (g.res.seven_set _ _ _ _ _ _ _) Tryz.underlying47 rfl (by kernel_rfl)) rfl ⟨rfl,?_⟩
  exact g.kp.seven_set (Nat.le_succ _) _ _ _ _ _ _ _

end Go.Proofs.YtbngjbmfkekdnaaGreatDoor.Td

namespace Go.Proofs.YtbngjbmfkekdnaaGreatDoor.Td
open Go.RowKit
end Go.Proofs.YtbngjbmfkekdnaaGreatDoor.Td

namespace Go.Proofs.YtbngjbmfkekdnaaGreatDoor.Td
open Go.RowKit
theorem bare_any (op rd r1 r2 im od sz:Int) (m:Value) (w:World) :
    Calls Tryz.prog 136 #[.agg (I7 op rd r1 r2 im od sz),m] w fun e w'=>e = .returned (.agg (I7 op rd r1 r2 im od sz))∧Kp none w w':=by
  go_enter Tryz.func136,Tryz.ntmps136
  go_wp2
  have g:=Has.new (w.alloc (.cells (I7 op rd r1 r2 im od sz) 47)) (I7 op rd r1 r2 im od sz) 47
  have e:(w.alloc (.cells (I7 op rd r1 r2 im od sz) 47)).heap.size = w.heap.size + 1:=by simp
  rw [e] at g
  (try simp only [Exit.inBlock,Exit.then])
  refine bodyPost_ret (results_cell_row rfl _ _ (w.heap.size + 1) 47 _ (0,0) _ rfl g Tryz.underlying47 rfl (by kernel_rfl)) rfl ⟨rfl,?_⟩
  exact (((Kp.refl _ _).alloc _ _).alloc _ _)

theorem atomic_take (op rd r1 r2 im od sz:Int) (s c:Nat) (w:World) (hs:s < 4294967296) (hc:Has w c 37 #[.int .u32 s]) :
    Calls Tryz.prog 135 #[.agg (I7 op rd r1 r2 im od sz),.func (.func 138) #[] #[.pointer (some ⟨c,0,none⟩)]] w fun e w' =>
      e = .returned (.agg (I7 op (tk s 7 5 0) (tk s 15 5 0) (tk s 20 5 0) im (tk s 25 2 0) sz))∧Kp none w w':=by
  have f0:=FrT.start (I7 op rd r1 r2 im od sz) hc
  go_enter Tryz.func135,Tryz.ntmps135
  go_wp2_with fail
  refine (registers_take op rd r1 r2 im od sz s c _ hs f0.mv).mono ?_
  rintro e w1 ⟨rfl,k1⟩
  have f1:=f0.call k1
  obtain ⟨b0,b1,b2,b3,b4,b5,b6⟩:=f1.box.seven
  have z:=f1.box.free
  go_wp2_with fail
  have g0:=(((((((f1.set 0 (.int .i64 op)).set 1 (.int .i64 (tk s 7 5 0))).set 2 (.int .i64 (tk s 15 5 0))).set 3 (.int .i64 (tk s 20 5 0))).set 4 (.int .i64 im)).set 5 (.int .i64 od)).set 6 (.int .i64 sz))
  have f2:FrT w c s (I7 op (tk s 7 5 0) (tk s 15 5 0) (tk s 20 5 0) im od sz) _:=g0
  refine (take_any _ s 25 2 0 c _ hs (by omega) (by omega) (by omega) (by omega) f2.mv).mono ?_
  rintro e w2 ⟨rfl,k2⟩
  have f3:=f2.call k2
  clear b0 b1 b2 b3 b4 b5 b6 z
  obtain ⟨b0,b1,b2,b3,b4,b5,b6⟩:=f3.box.seven
  have z:=f3.box.free
  obtain ⟨q0,q1,q2,q3,q4,q5,q6⟩:=f3.res.seven
  have y:=f3.res.free
  go_wp2
  have g:=f3.set 5 (.int .i64 (tk s 25 2 0))
  (try simp only [Exit.inBlock,Exit.then])
  refine bodyPost_ret (results_cell_row rfl _ _ (w.heap.size + 1) 47 _ (0,0) _ rfl (g.res.seven_set _ _ _ _ _ _ _) Tryz.underlying47 rfl (by kernel_rfl)) rfl ⟨rfl,?_⟩
  exact g.kp.seven_set (Nat.le_succ _) _ _ _ _ _ _ _

end Go.Proofs.YtbngjbmfkekdnaaGreatDoor.Td

namespace Go.Proofs.YtbngjbmfkekdnaaGreatDoor.Td
open Go.RowKit

def Tab (w:World) (g:Nat) (zs:List Int):Prop:=∀ i,i < zs.length → w.cell? ⟨g,i,none⟩ = some (.int .i64 (zs.getD i 0))
theorem Tab.kp {w w':World} {g:Nat} {zs:List Int} (h:Tab w g zs) (k:Kp none w w'):Tab w' g zs:=fun i hi=>by
  have h0:=h i hi
  have hlt:g < w.heap.size:=by
    rcases Nat.lt_or_ge g w.heap.size with hl | hl
    · exact hl
    · simp [World.cell?,Array.getElem?_eq_none hl] at h0
  rw [World.cell?_of_block (w:=w) (k.block g hlt (by simp))]
  exact h0
structure Tabs (w:World):Prop where
  t0:Tab w 1 [4,0,0,0,0,0,0,0]
  t1:Tab w 2 [5,6,0,0,7,8,9,10]
  t2:Tab w 3 [11,12,13,14,15,16,17,0]
  t3:Tab w 4 [18,19,20,21,0,0,0,0]
  t4:Tab w 5 [31,33,34,35,36,37,39,40]
  t5:Tab w 6 [32,0,0,0,0,38,0,0]
  t6:Tab w 7 [50,51,52,53,54,55,56,57]
  t7:Tab w 8 [45,47,0,0,0,48,0,0]
  t8:Tab w 9 [46,0,0,0,0,49,0,0]
  t9:Tab w 10 [58,0,0,0,59,60,61,62]
  t10:Tab w 11 [85,86,0,0,0,0,0,0]
  t11:Tab w 12 [22,0,23,24,25,0,26,27]
  t12:Tab w 13 [0,28,0,0,0,29,0,0]
  t13:Tab w 14 [0,0,0,0,0,30,0,0]
  t14:Tab w 15 [41,0,0,0,0,0,0,0]
  t15:Tab w 16 [0,42,0,0,0,43,0,0]
  t16:Tab w 17 [0,0,0,0,0,44,0,0]
  t17:Tab w 18 [66,65,63,64,67,0,0,0,69,0,0,0,68,0,0,0,70,0,0,0,71,0,0,0,72,0,0,0,73,0,0,0]
  t18:Tab w 19 [77,76,74,75,78,0,0,0,80,0,0,0,79,0,0,0,81,0,0,0,82,0,0,0,83,0,0,0,84,0,0,0]
theorem Tabs.kp {w w':World} (h:Tabs w) (k:Kp none w w'):Tabs w':=
  ⟨h.t0.kp k,h.t1.kp k,h.t2.kp k,h.t3.kp k,h.t4.kp k,h.t5.kp k,h.t6.kp k,h.t7.kp k,h.t8.kp k,h.t9.kp k,h.t10.kp k,h.t11.kp k,h.t12.kp k,h.t13.kp k,h.t14.kp k,h.t15.kp k,h.t16.kp k,h.t17.kp k,h.t18.kp k⟩
theorem Tabs.drew {w:World} (h:Tabs w):Tabs w.drew:=h.kp (Kp.refl _ _).drew
abbrev A8 (a0 a1 a2 a3 a4 a5 a6 a7:Int):Array Value:=#[.int .i64 a0,.int .i64 a1,.int .i64 a2,.int .i64 a3,.int .i64 a4,.int .i64 a5,.int .i64 a6,.int .i64 a7]

theorem byF7_none (f:Nat) (a0 a1 a2 a3 a4 a5 a6 a7 b0 b1 b2 b3 b4 b5 b6 b7 c0 c1 c2 c3 c4 c5 c6 c7:Int) (w:World) (hf:f = 0) :
    Calls Tryz.prog 131 #[.int .u32 f,.agg (A8 a0 a1 a2 a3 a4 a5 a6 a7),.agg (A8 b0 b1 b2 b3 b4 b5 b6 b7),.agg (A8 c0 c1 c2 c3 c4 c5 c6 c7)] w fun e w'=>e = .returned (.agg (A8 a0 a1 a2 a3 a4 a5 a6 a7))∧Kp none w w':=by
  subst hf
  go_enter Tryz.func131,Tryz.ntmps131
  go_wp2
  have g:=Has.new (((w.alloc (.cells (A8 a0 a1 a2 a3 a4 a5 a6 a7) 154)).alloc (.cells (A8 b0 b1 b2 b3 b4 b5 b6 b7) 154)).alloc (.cells (A8 c0 c1 c2 c3 c4 c5 c6 c7) 154)) (A8 a0 a1 a2 a3 a4 a5 a6 a7) 154
  have e:(((w.alloc (.cells (A8 a0 a1 a2 a3 a4 a5 a6 a7) 154)).alloc (.cells (A8 b0 b1 b2 b3 b4 b5 b6 b7) 154)).alloc (.cells (A8 c0 c1 c2 c3 c4 c5 c6 c7) 154)).heap.size = w.heap.size + 1 + 1 + 1:=by simp
  rw [e] at g
  (try simp only [Exit.inBlock,Exit.then])
  refine bodyPost_ret (results_cell_row rfl _ _ (w.heap.size + 1 + 1 + 1) 154 _ (0,0) _ rfl g Tryz.underlying154 rfl (by kernel_rfl)) rfl ⟨rfl,?_⟩
  exact ((((Kp.refl _ _).alloc _ _).alloc _ _).alloc _ _).alloc _ _

theorem byF7_other (f:Nat) (a0 a1 a2 a3 a4 a5 a6 a7 b0 b1 b2 b3 b4 b5 b6 b7 c0 c1 c2 c3 c4 c5 c6 c7:Int) (w:World) (hf:f = 32) :
    Calls Tryz.prog 131 #[.int .u32 f,.agg (A8 a0 a1 a2 a3 a4 a5 a6 a7),.agg (A8 b0 b1 b2 b3 b4 b5 b6 b7),.agg (A8 c0 c1 c2 c3 c4 c5 c6 c7)] w fun e w'=>e = .returned (.agg (A8 b0 b1 b2 b3 b4 b5 b6 b7))∧Kp none w w':=by
  subst hf
  go_enter Tryz.func131,Tryz.ntmps131
  go_wp2
  have g:=Has.new (((w.alloc (.cells (A8 a0 a1 a2 a3 a4 a5 a6 a7) 154)).alloc (.cells (A8 b0 b1 b2 b3 b4 b5 b6 b7) 154)).alloc (.cells (A8 c0 c1 c2 c3 c4 c5 c6 c7) 154)) (A8 b0 b1 b2 b3 b4 b5 b6 b7) 154
  have e:(((w.alloc (.cells (A8 a0 a1 a2 a3 a4 a5 a6 a7) 154)).alloc (.cells (A8 b0 b1 b2 b3 b4 b5 b6 b7) 154)).alloc (.cells (A8 c0 c1 c2 c3 c4 c5 c6 c7) 154)).heap.size = w.heap.size + 1 + 1 + 1:=by simp
  rw [e] at g
  (try simp only [Exit.inBlock,Exit.then])
  refine bodyPost_ret (results_cell_row rfl _ _ (w.heap.size + 1 + 1 + 1) 154 _ (0,0) _ rfl g Tryz.underlying154 rfl (by kernel_rfl)) rfl ⟨rfl,?_⟩
  exact ((((Kp.refl _ _).alloc _ _).alloc _ _).alloc _ _).alloc _ _

theorem byF7_product (f:Nat) (a0 a1 a2 a3 a4 a5 a6 a7 b0 b1 b2 b3 b4 b5 b6 b7 c0 c1 c2 c3 c4 c5 c6 c7:Int) (w:World) (hf:f = 1) :
    Calls Tryz.prog 131 #[.int .u32 f,.agg (A8 a0 a1 a2 a3 a4 a5 a6 a7),.agg (A8 b0 b1 b2 b3 b4 b5 b6 b7),.agg (A8 c0 c1 c2 c3 c4 c5 c6 c7)] w fun e w'=>e = .returned (.agg (A8 c0 c1 c2 c3 c4 c5 c6 c7))∧Kp none w w':=by
  subst hf
  go_enter Tryz.func131,Tryz.ntmps131
  go_wp2
  have g:=Has.new (((w.alloc (.cells (A8 a0 a1 a2 a3 a4 a5 a6 a7) 154)).alloc (.cells (A8 b0 b1 b2 b3 b4 b5 b6 b7) 154)).alloc (.cells (A8 c0 c1 c2 c3 c4 c5 c6 c7) 154)) (A8 c0 c1 c2 c3 c4 c5 c6 c7) 154
  have e:(((w.alloc (.cells (A8 a0 a1 a2 a3 a4 a5 a6 a7) 154)).alloc (.cells (A8 b0 b1 b2 b3 b4 b5 b6 b7) 154)).alloc (.cells (A8 c0 c1 c2 c3 c4 c5 c6 c7) 154)).heap.size = w.heap.size + 1 + 1 + 1:=by simp
  rw [e] at g
  (try simp only [Exit.inBlock,Exit.then])
  refine bodyPost_ret (results_cell_row rfl _ _ (w.heap.size + 1 + 1 + 1) 154 _ (0,0) _ rfl g Tryz.underlying154 rfl (by kernel_rfl)) rfl ⟨rfl,?_⟩
  exact ((((Kp.refl _ _).alloc _ _).alloc _ _).alloc _ _).alloc _ _

theorem byF7_else (f:Nat) (a0 a1 a2 a3 a4 a5 a6 a7 b0 b1 b2 b3 b4 b5 b6 b7 c0 c1 c2 c3 c4 c5 c6 c7:Int) (w:World) (h0:((f:Int) == 0) = false) (h1:((f:Int) == 32) = false) (h2:((f:Int) == 1) = false) :
    Calls Tryz.prog 131 #[.int .u32 f,.agg (A8 a0 a1 a2 a3 a4 a5 a6 a7),.agg (A8 b0 b1 b2 b3 b4 b5 b6 b7),.agg (A8 c0 c1 c2 c3 c4 c5 c6 c7)] w fun e w'=>e = .returned (.agg (A8 0 0 0 0 0 0 0 0))∧Kp none w w':=by
  go_enter Tryz.func131,Tryz.ntmps131
  go_wp2
  have g:=Has.new (((w.alloc (.cells (A8 a0 a1 a2 a3 a4 a5 a6 a7) 154)).alloc (.cells (A8 b0 b1 b2 b3 b4 b5 b6 b7) 154)).alloc (.cells (A8 c0 c1 c2 c3 c4 c5 c6 c7) 154)) (A8 0 0 0 0 0 0 0 0) 154
  have e:(((w.alloc (.cells (A8 a0 a1 a2 a3 a4 a5 a6 a7) 154)).alloc (.cells (A8 b0 b1 b2 b3 b4 b5 b6 b7) 154)).alloc (.cells (A8 c0 c1 c2 c3 c4 c5 c6 c7) 154)).heap.size = w.heap.size + 1 + 1 + 1:=by simp
  rw [e] at g
  (try simp only [Exit.inBlock,Exit.then])
  refine bodyPost_ret (results_cell_row rfl _ _ (w.heap.size + 1 + 1 + 1) 154 _ (0,0) _ rfl g Tryz.underlying154 rfl (by kernel_rfl)) rfl ⟨rfl,?_⟩
  exact ((((Kp.refl _ _).alloc _ _).alloc _ _).alloc _ _).alloc _ _
end Go.Proofs.YtbngjbmfkekdnaaGreatDoor.Td

namespace Go.Proofs.YtbngjbmfkekdnaaGreatDoor.Td
open Go.RowKit

def T17:List Int:=[66,65,63,64,67,0,0,0,69,0,0,0,68,0,0,0,70,0,0,0,71,0,0,0,72,0,0,0,73,0,0,0]
def T18:List Int:=[77,76,74,75,78,0,0,0,80,0,0,0,79,0,0,0,81,0,0,0,82,0,0,0,83,0,0,0,84,0,0,0]
def lrOf (o:Int) (p:Nat):Int:=if (o = 63 ∨ o = 74)∧p ≠ 0 then 0 else o
def opA (s f:Nat):Int:=lrOf (if f = 2 then T17.getD (pc s 27 5) 0 else if f = 3 then T18.getD (pc s 27 5) 0 else 0) (pc s 20 5)

theorem lookSystem_any (s:Nat) (w:World):Calls Tryz.prog 137 #[.int .u32 s] w fun e w'=>e = .returned (.int .i64 (if s = 115 then 87 else if s = 1048691 then 88 else 0))∧w = w':=by
  by_cases h1:s = 115
  · subst h1
    go_enter Tryz.func137,Tryz.ntmps137
    go_wp2
    go_ret
    exact ⟨rfl,rfl⟩
  · by_cases h2:s = 1048691
    · subst h2
      go_enter Tryz.func137,Tryz.ntmps137
      go_wp2
      go_ret
      exact ⟨rfl,rfl⟩
    · rw [if_neg h1,if_neg h2]
      have e1:((s:Int) == 115) = false:=by simp;omega
      have e2:((s:Int) == 1048691) = false:=by simp;omega
      go_enter Tryz.func137,Tryz.ntmps137
      go_wp2
      go_ret
      exact ⟨rfl,rfl⟩

theorem shift_any (m:Nat) (w:World):Calls Tryz.prog 157 #[.int .i64 m] w fun e w'=>e = .returned (.func (.func 164) #[] #[.pointer (some ⟨w.heap.size,0,none⟩)])∧Has w' w.heap.size 3 #[.int .i64 m]∧Kp none w w':=by
  have hmf:∀ (fn:Fn) (first cap:Array Value) (w:World),(Instr.makeFunc fn first cap).run Tryz.prog w = .ok (.func fn first cap) w:=fun _ _ _ _=>rfl
  go_enter Tryz.func157,Tryz.ntmps157
  go_wp2
  go_ret
  exact ⟨rfl,Has.new _ _ _,(Kp.refl _ _).alloc _ _⟩

theorem lookAtomic_w (s:Nat) (w:World) (hs:s < 4294967296) (hT:Tabs w):Calls Tryz.prog 134 #[.int .u32 s,.int .u32 2] w fun e w'=>e = .returned (.int .i64 (opA s 2))∧Kp none w w':=by
  have hf:=pc_lt s 27 5
  have hp:=pc_le s 20 5 hs
  have hc:w.cell? ⟨18,pc s 27 5,none⟩ = some (.int .i64 (T17.getD (pc s 27 5) 0)):=hT.t17 _ (by simpa using hf)
  have ho:opA s 2 = lrOf (T17.getD (pc s 27 5) 0) (pc s 20 5):=rfl
  rw [ho];clear ho hT
  have P1:=fun w=>piece_any s 27 5 w hs (by omega) (by omega)
  have P2:=fun w=>piece_any s 20 5 w hs (by omega) (by omega)
  generalize T17.getD (pc s 27 5) 0 = o at *
  generalize pc s 27 5 = f at *
  generalize pc s 20 5 = p at *
  have hf0:(0:Int) ≤ (f:Int):=by omega
  have hf1:(f:Int) < 32:=by omega
  have H1:=hid P1;have H2:=hid P2;clear P1 P2
  by_cases ho:o = 63 ∨ o = 74
  · by_cases hp0:p = 0
    · subst hp0
      have e1:lrOf o 0 = o:=by simp [lrOf]
      rw [e1];clear e1
      rcases ho with rfl | rfl
      all_goals
        go_enter Tryz.func134,Tryz.ntmps134
        go_wp2_with fail
        refine (H1.out _).mono ?_
        rintro e w1 ⟨rfl,q,rfl⟩
        go_wp2_with fail
        refine (H2.out _).mono ?_
        rintro e w1 ⟨rfl,q2,rfl⟩
        go_wp2
        go_ret
        exact ⟨rfl,(Kp.refl _ _).drewN _⟩
    · have e1:lrOf o p = 0:=by unfold lrOf;rw [if_pos ⟨ho,hp0⟩]
      have e2:((p:Int) != 0) = true:=by simp;omega
      rw [e1];clear e1
      rcases ho with rfl | rfl
      all_goals
        go_enter Tryz.func134,Tryz.ntmps134
        go_wp2_with fail
        refine (H1.out _).mono ?_
        rintro e w1 ⟨rfl,q,rfl⟩
        go_wp2_with fail
        refine (H2.out _).mono ?_
        rintro e w1 ⟨rfl,q2,rfl⟩
        go_wp2
        go_ret
        exact ⟨rfl,(Kp.refl _ _).drewN _⟩
  · have e1:lrOf o p = o:=by unfold lrOf;rw [if_neg (fun h=>ho h.1)]
    have e2:(o == 63) = false:=by simp;intro h;exact ho (.inl h)
    have e3:(o == 74) = false:=by simp;intro h;exact ho (.inr h)
    rw [e1];clear e1 ho
    go_enter Tryz.func134,Tryz.ntmps134
    go_wp2_with fail
    refine (H1.out _).mono ?_
    rintro e w1 ⟨rfl,q,rfl⟩
    go_wp2
    go_ret
    exact ⟨rfl,(Kp.refl _ _).drewN _⟩

theorem lookAtomic_d (s:Nat) (w:World) (hs:s < 4294967296) (hT:Tabs w):Calls Tryz.prog 134 #[.int .u32 s,.int .u32 3] w fun e w'=>e = .returned (.int .i64 (opA s 3))∧Kp none w w':=by
  have hf:=pc_lt s 27 5
  have hp:=pc_le s 20 5 hs
  have hc:w.cell? ⟨19,pc s 27 5,none⟩ = some (.int .i64 (T18.getD (pc s 27 5) 0)):=hT.t18 _ (by simpa using hf)
  have ho:opA s 3 = lrOf (T18.getD (pc s 27 5) 0) (pc s 20 5):=rfl
  rw [ho];clear ho hT
  have P1:=fun w=>piece_any s 27 5 w hs (by omega) (by omega)
  have P2:=fun w=>piece_any s 20 5 w hs (by omega) (by omega)
  generalize T18.getD (pc s 27 5) 0 = o at *
  generalize pc s 27 5 = f at *
  generalize pc s 20 5 = p at *
  have hf0:(0:Int) ≤ (f:Int):=by omega
  have hf1:(f:Int) < 32:=by omega
  have H1:=hid P1;have H2:=hid P2;clear P1 P2
  by_cases ho:o = 63 ∨ o = 74
  · by_cases hp0:p = 0
    · subst hp0
      have e1:lrOf o 0 = o:=by simp [lrOf]
      rw [e1];clear e1
      rcases ho with rfl | rfl
      all_goals
        go_enter Tryz.func134,Tryz.ntmps134
        go_wp2_with fail
        refine (H1.out _).mono ?_
        rintro e w1 ⟨rfl,q,rfl⟩
        go_wp2_with fail
        refine (H2.out _).mono ?_
        rintro e w1 ⟨rfl,q2,rfl⟩
        go_wp2
        go_ret
        exact ⟨rfl,(Kp.refl _ _).drewN _⟩
    · have e1:lrOf o p = 0:=by unfold lrOf;rw [if_pos ⟨ho,hp0⟩]
      have e2:((p:Int) != 0) = true:=by simp;omega
      rw [e1];clear e1
      rcases ho with rfl | rfl
      all_goals
        go_enter Tryz.func134,Tryz.ntmps134
        go_wp2_with fail
        refine (H1.out _).mono ?_
        rintro e w1 ⟨rfl,q,rfl⟩
        go_wp2_with fail
        refine (H2.out _).mono ?_
        rintro e w1 ⟨rfl,q2,rfl⟩
        go_wp2
        go_ret
        exact ⟨rfl,(Kp.refl _ _).drewN _⟩
  · have e1:lrOf o p = o:=by unfold lrOf;rw [if_neg (fun h=>ho h.1)]
    have e2:(o == 63) = false:=by simp;intro h;exact ho (.inl h)
    have e3:(o == 74) = false:=by simp;intro h;exact ho (.inr h)
    rw [e1];clear e1 ho
    go_enter Tryz.func134,Tryz.ntmps134
    go_wp2_with fail
    refine (H1.out _).mono ?_
    rintro e w1 ⟨rfl,q,rfl⟩
    go_wp2
    go_ret
    exact ⟨rfl,(Kp.refl _ _).drewN _⟩

theorem lookAtomic_no (s f:Nat) (w:World) (hs:s < 4294967296) (h2:((f:Int) == 2) = false) (h3:((f:Int) == 3) = false):Calls Tryz.prog 134 #[.int .u32 s,.int .u32 f] w fun e w'=>e = .returned (.int .i64 (opA s f))∧Kp none w w':=by
  have ho:opA s f = 0:=by
    have h2':f ≠ 2:=fun h=>by subst h;simp at h2
    have h3':f ≠ 3:=fun h=>by subst h;simp at h3
    simp [opA,h2',h3',lrOf]
  rw [ho];clear ho
  have P1:=fun w=>piece_any s 27 5 w hs (by omega) (by omega)
  generalize pc s 27 5 = g at *
  have H1:=hid P1;clear P1
  go_enter Tryz.func134,Tryz.ntmps134
  go_wp2_with fail
  refine (H1.out _).mono ?_
  rintro e w1 ⟨rfl,q,rfl⟩
  go_wp2
  go_ret
  exact ⟨rfl,(Kp.refl _ _).drewN _⟩

theorem lookAtomic_any (s f:Nat) (w:World) (hs:s < 4294967296) (hT:Tabs w):Calls Tryz.prog 134 #[.int .u32 s,.int .u32 f] w fun e w'=>e = .returned (.int .i64 (opA s f))∧Kp none w w':=by
  by_cases h2:f = 2
  · subst h2;exact lookAtomic_w s w hs hT
  · by_cases h3:f = 3
    · subst h3;exact lookAtomic_d s w hs hT
    · exact lookAtomic_no s f w hs (by simp;omega) (by simp;omega)

def T11:List Int:=[22,0,23,24,25,0,26,27]
def pick3 (g:Nat) (a b c:List Int) (f:Nat):Int:=if g = 0 then a.getD f 0 else if g = 32 then b.getD f 0 else if g = 1 then c.getD f 0 else 0
theorem lookImmediate_plain (f g:Nat) (w:World) (hT:Tabs w) (hf:f ∈ [0,2,3,4,6,7]):Calls Tryz.prog 130 #[.int .u32 f,.int .u32 g] w fun e w'=>e = .returned (.tuple #[.int .i64 (T11.getD f 0),.func (.func 127) #[] #[]])∧w = w':=by
  have hc:w.cell? ⟨12,f,none⟩ = some (.int .i64 (T11.getD f 0)):=hT.t11 f (by simp at hf;rcases hf with h | h | h | h | h | h <;> simp [h])
  simp only [List.mem_cons,List.not_mem_nil,or_false] at hf
  clear hT
  rcases hf with rfl | rfl | rfl | rfl | rfl | rfl
  all_goals
    simp [T11] at hc
    go_enter Tryz.func130,Tryz.ntmps130
    go_wp2
    go_ret2
    exact ⟨rfl,rfl⟩

end Go.Proofs.YtbngjbmfkekdnaaGreatDoor.Td
