/-
  New, Held, and what a store without places is asked; a page's stamp; a page that is held from now on.
  Write: bytes laid at a place, page by page.
-/
import Derived.Test.YtlhpodholnfppaaGreatDoorT4
import Derived.StillTailTactics
import Derived.Deep.Cut
import Derived.Shelf.SlMaps.Clone
import Derived.Lib.Hide
set_option linter.unusedVariables false
set_option linter.unusedSimpArgs false
set_option maxHeartbeats 16000000
open Go.Lib (hid)
namespace Go.Proofs.YtlhpodholnfppaaGreatDoor
open Go.RowKit
set_option maxRecDepth 100000

section
variable {P:Program} (w:World) {ops:Array Oper} {rest:List Oper} {o:Oper} {a:Act} {Q:Exit → Act → World → Prop}
theorem wpl_put_run {w1:World} (hg:o.guard = none) (m x v:Operand) (t:TypeId) (hop:o.op = Op.mapUpdate t m x v) (vm vx vv:Value) (hm:a.eval m = vm) (hx:a.eval x = vx) (hv:a.eval v = vv)
    (hrun:(Instr.mapUpdate t vm vx vv).run P w = .ok () w1) (hK:wpList P ops Q rest (a.put o.dst undef) w1):wpList P ops Q (o :: rest) a w:=by
  refine wpList_plain hg fun K' hK'=>?_
  unfold Oper.wp
  simp [execOp,hop,hm,hx,hv,hrun,Result.andThen]
  exact hK' _ _ hK
end
theorem zero53 (w:World):(zeroValue 173).run Tryz.prog w = .ok (.agg zeros) w:=by
  obtain ⟨i,hi,hz⟩:∃ i,Tryz.prog.info? 173 = some i∧i.zero = some (.agg zeros):=by
    have:=info53
    rcases h:Tryz.prog.info? 173 with _ | i
    · rw [h] at this;first | cases this | exact absurd (cells_ty this) (by decide)
    · rw [h] at this;simp at this;exact ⟨i,rfl,this.1⟩
  simp [zeroValue,typeInfo,hi,hz]
theorem SA.cells {Y Y':Rest} {S:Nat → Prop} {w w':World} {sb n m k:Nat} {f:Nat → Option Nat} {M st st':Nat → Int} {pm sm pm' sm':Value} {c l c' l':Int} (h:SA Y S w sb n f k M st pm sm c l)
    (ho:∀ x,x < w.heap.size → x ≠ sb → w'.heap[x]? = w.heap[x]?) (hb:w'.heap[sb]? = some (.cells #[Y'.rg,pm',sm',.int .u64 c',.int .u64 l',.int .i64 Y'.mo,.int .u64 Y'.ba,.int .u64 Y'.en] 103 (0,0))) (hl:0 ≤ l'∧l' ≤ (m:Int)) (ht:∀ p,p < 2 ^ 64 → st' p ≤ l')
    (hp:PMV S w' pm' m f k) (hs:SMV S w' sm' m c' st') (ha:∀ B,pm' = .map (some B) → sm' ≠ .map (some B)):SA Y' S w' sb m f k M st' pm' sm' c' l' where
  blk:=hb
  own:=h.own
  lw:=hl
  top:=ht
  pages:=hp
  stamps:=hs
  apart:=ha
  at_:=fun p b hb=>⟨(h.at_ p b hb).1,by
    have h2:=(h.at_ p b hb).2
    rw [ho b (lt_at h2) (fun e=>by have:=h.blk;rw [← e,h2] at this;first | cases this | exact absurd (cells_ty this) (by decide))];exact h2⟩
  inj:=h.inj
  zero:=h.zero
  lim:=h.lim
theorem SA.keptP {Y:Rest} {S:Nat → Prop} {w:World} {sb n k:Nat} {f:Nat → Option Nat} {M st:Nat → Int} {pm sm:Value} {c l:Int} (h:SA Y S w sb n f k M st pm sm c l) (i:Nat) (u:Value):PMV S (w.setCell ⟨sb,i,none⟩ u) pm n f k:=by
  refine h.pages.kept fun B hB=>?_
  obtain ⟨_,es,q,h2⟩:=h.pages.isMap hB
  exact Below.heap_setCell _ _ _ _ (fun e=>by have:=h.blk;rw [← show B = sb from e,h2] at this;first | cases this | exact absurd (cells_ty this) (by decide))
theorem SA.keptS {Y:Rest} {S:Nat → Prop} {w:World} {sb n k:Nat} {f:Nat → Option Nat} {M st:Nat → Int} {pm sm:Value} {c l:Int} (h:SA Y S w sb n f k M st pm sm c l) (i:Nat) (u:Value):SMV S (w.setCell ⟨sb,i,none⟩ u) sm n c st:=by
  refine h.stamps.kept fun B hB=>?_
  obtain ⟨_,es,q,h2⟩:=h.stamps.isMap hB
  exact Below.heap_setCell _ _ _ _ (fun e=>by have:=h.blk;rw [← show B = sb from e,h2] at this;first | cases this | exact absurd (cells_ty this) (by decide))
theorem setCell_others (w:World) (sb i:Nat) (u:Value):∀ x,x < w.heap.size → x ≠ sb → (w.setCell ⟨sb,i,none⟩ u).heap[x]? = w.heap[x]?:=fun x _ hx=>Below.heap_setCell _ _ _ _ hx
theorem SA.setLast {Y:Rest} {S:Nat → Prop} {w:World} {sb n k:Nat} {f:Nat → Option Nat} {M st:Nat → Int} {pm sm:Value} {c l:Int} (h:SA Y S w sb n f k M st pm sm c l) :
    SA Y S (w.setCell ⟨sb,4,none⟩ (.int .u64 (l + 1))) sb (n + 1) f k M st pm sm c (l + 1):=by
  have:=h.lw
  exact h.cells (setCell_others w sb 4 _) (heap_setCell_same w sb 4 _ 103 _ h.blk) (by omega) (fun p hp=>by have:=h.top p hp;omega) ((h.keptP 4 _).mono (by omega)) ((h.keptS 4 _).mono (by omega)) h.apart
theorem wrap_in (x:Int):0 ≤ IntKind.u64.wrap x∧IntKind.u64.wrap x ≤ 18446744073709551615:=by rw [IntKind.wrap_u64];omega

theorem eq40 (w:World) (p:Option Nat):(binOp .eql 99 (.map p) (.map none)).run Tryz.prog w = .ok (.bool p.isNone) w:=run_eql_map_nil_sl (P:=Tryz.prog) w 99 _ _ p Tryz.underlying99
theorem eq39 (w:World) (p:Option Nat):(binOp .eql 98 (.map p) (.map none)).run Tryz.prog w = .ok (.bool p.isNone) w:=run_eql_map_nil_sl (P:=Tryz.prog) w 98 _ _ p Tryz.underlying98
theorem SA.stampRun {Y:Rest} {S:Nat → Prop} {w:World} {sb n k:Nat} {f:Nat → Option Nat} {M st:Nat → Int} {pm:Value} {B:Nat} {c l:Int} (h:SA Y S w sb n f k M st pm (.map (some B)) c l) {num:Nat} (hnum:num < 2 ^ 64) (hn:n < 100000010) :
    ∃ w',(Instr.mapUpdate 99 (.map (some B)) (.int .u64 (num:Int)) (.int .u64 l)).run Tryz.prog w = .ok () w'∧SA Y S w' sb (n + 1) f k M (setSt st num l) pm (.map (some B)) c l∧Fr S w w':=by
  rcases h.stamps with h0 | ⟨B',D,h0,hSB,hown,g,hg1,hg2,hg3⟩
  · cases h0.1
  cases h0
  have hv:=h.lw
  have hvw:(Lit.int .u64 l).wf = true:=by
    show (decide ((0:Int) ≤ l) && decide (l ≤ 18446744073709551615)) = true
    simp;omega
  obtain ⟨w',hrun,ho,ht⟩:=hown.store law27 Tryz.underlying99 (by simp only [maxLen];omega) (key_of hnum) (plainElem_int Tryz.underlying29 hvw)
  have hg:=ht.grown
  have other:∀ x o,w.heap[x]? = some o → x ≠ B → w'.heap[x]? = some o:=fun x o hx hne=>by
    rw [hg.block x (lt_at hx) (fun e=>hne (by injection e))];exact hx
  obtain ⟨_,es,q,hmap⟩:=h.stamps.isMap rfl
  have hp:PMV S w' pm n f k:=h.pages.kept fun B1 hB1=>by
    obtain ⟨_,es1,q1,h2⟩:=h.pages.isMap hB1
    rw [other _ _ h2 (fun e=>by subst e;exact h.apart _ hB1 rfl),h2]
  refine ⟨w',hrun,⟨other _ _ h.blk (fun e=>by have:=h.blk;rw [e,hmap] at this;first | cases this | exact absurd (cells_ty this) (by decide)),h.own,by omega,fun p hp=>?_,hp.mono (by omega),.inr ⟨B,_,rfl,hSB,ho,fun p=>if p = num then some l else g p,fun p hp=>?_,fun p v hp hgv zd=>?_,fun p hp=>?_⟩,h.apart,fun p b hb=>⟨(h.at_ p b hb).1,other _ _ (h.at_ p b hb).2 (fun e=>by have:=(h.at_ p b hb).2;rw [e,hmap] at this;first | cases this | exact absurd (cells_ty this) (by decide))⟩,h.inj,h.zero,h.lim⟩,Fr.grown hg (fun x hx=>by cases hx;exact hSB)⟩
  · simp only [setSt]
    split
    · exact Int.le_refl _
    · exact h.top p hp
  · by_cases e:p = num
    · subst e;simp only [if_true,Option.isSome_some];exact Maps.has_put_same hown.isMap (isKeyLit_key _) _
    · simp only [if_neg e];rw [Maps.has_put_other (key_ne e)];exact hg1 p hp
  · by_cases e:p = num
    · subst e;simp only [if_true,Option.some.injEq] at hgv;subst hgv;exact Maps.atKey_put_same hown.isMap (isKeyLit_key _) _ _
    · simp only [if_neg e] at hgv;rw [Maps.atKey_put_other (key_ne e)];exact hg2 p v hp hgv zd
  · simp only [setSt]
    split
    · rfl
    · exact hg3 p hp
theorem setSt_rise {st:Nat → Int} {num:Nat} {l:Int} (h:∀ p,p < 2 ^ 64 → st p ≤ l):Rise st (setSt st num (l + 1)) (fun p=>p = num):=fun p hp=>by
  have:=h p hp
  simp only [setSt]
  split
  · exact ⟨by omega,fun _=>by omega⟩
  · rename_i e
    exact ⟨Int.le_refl _,fun e'=>absurd e' e⟩
theorem SA.drew {Y:Rest} {S:Nat → Prop} {w:World} {sb n k:Nat} {f:Nat → Option Nat} {M st:Nat → Int} {pm sm:Value} {c l:Int} (h:SA Y S w sb n f k M st pm sm c l):SA Y S w.drew sb n f k M st pm sm c l:=h.bl (Bl.refl w).drew
theorem Fr.drew {S:Nat → Prop} {a b:World} (h:Fr S a b):Fr S a b.drew:=⟨h.os,h.tape,h.output,h.size,h.block⟩
theorem SA.stampsMade {Y:Rest} {S:Nat → Prop} {w:World} {sb n k:Nat} {f:Nat → Option Nat} {M st:Nat → Int} {pm:Value} {c l:Int} (h:SA Y S w sb n f k M st pm (.map none) c l) (hS:S w.heap.size) :
    SA Y S ((w.alloc (.map #[] 0)).setCell ⟨sb,2,none⟩ (.map (some w.heap.size))) sb n f k M st pm (.map (some w.heap.size)) c l∧Fr S w ((w.alloc (.map #[] 0)).setCell ⟨sb,2,none⟩ (.map (some w.heap.size))):=by
  have hsb:=h.lt
  have h':=h.bl (Bl.new w (.map #[] 0))
  refine ⟨?_,(Fr.of_bl (Bl.new w (.map #[] 0))).trans (Fr.set h.own _)⟩
  have hno:∀ x,(w.alloc (.map #[] 0)).heap[x]? ≠ none → x ≠ sb → ((w.alloc (.map #[] 0)).setCell ⟨sb,2,none⟩ (.map (some w.heap.size))).heap[x]? = (w.alloc (.map #[] 0)).heap[x]?:=fun x _ hx=>Below.heap_setCell _ _ _ _ hx
  refine h'.cells (setCell_others _ sb 2 _) (heap_setCell_same _ sb 2 _ 103 _ h'.blk) h.lw h.top (h'.keptP 2 _) ?_ ?_
  · refine .inr ⟨w.heap.size,.map [],rfl,hS,?_,fun _=>none,fun _ _=>rfl,fun p v _ h=>(by cases h),fun p hp=>?_⟩
    · exact (ownsMap_of_block (World.ownsMap_made w Tryz.prog 29 (plainElem (H:=Nat) Tryz.prog 29)) (Below.heap_setCell _ _ _ _ (fun e=>by have:w.heap.size = sb:=e;omega))).mono (Nat.zero_le _)
    · rcases h.stamps with ⟨_,h0⟩ | ⟨B,D,h0,_⟩
      · exact h0 p hp
      · cases h0
  · intro B hB e
    cases e
    obtain ⟨_,es,q,h2⟩:=h.pages.isMap hB
    have:=lt_at h2
    omega

theorem stamp_not {Y:Rest} {S:Nat → Prop} {w:World} {sb n k:Nat} {f:Nat → Option Nat} {M st:Nat → Int} {pm:Value} {B:Nat} {c l:Int} (h:SA Y S w sb n f k M st pm (.map (some B)) c l) (num:Nat) (hnum:num < 2 ^ 64) (hn:n < 100000000) :
    Calls Tryz.prog 72 #[.pointer (some ⟨sb,1,none⟩),.int .u64 (num:Int)] w fun e w'=>e = .returned (.tuple #[])∧(∃ st',StoreAt Y S w' sb (n + 2) f k M st'∧Rise st st' (fun p=>p = num))∧Fr S w w':=by
  obtain ⟨c0,c1,c2,c3⟩:=h.cell
  have f1:=h.free 2
  have f3:=h.free 4
  have H:=hid h;clear h
  have hq:=fun W=>eq40 W (some B)
  (try unfold addr0)
  go_enter Tryz.func72,Tryz.ntmps72
  go_wp2
  have hlw:=H.out.lw
  have htop:=H.out.top
  have hwr:=IntWalk.u64_in (l + 1) (by omega)
  rw [hwr]
  have h1:=H.out.setLast
  clear hwr hlw
  have fr1:Fr S w (w.setCell ⟨sb,4,none⟩ (.int .u64 (l + 1))):=Fr.set H.out.own _
  clear c0 c1 c2 c3 f1 f3
  generalize w.setCell ⟨sb,4,none⟩ (.int .u64 (l + 1)) = W at *
  have hris:=setSt_rise (num:=num) htop
  have HR:=hid hris;clear hris htop
  generalize l + 1 = l1 at *
  obtain ⟨c0,c1,c2,c3⟩:=h1.cell
  have H1:=hid h1;clear h1
  have FR1:=hid fr1;clear fr1
  go_still_tail 9,(by kernel_rfl)
  change wpList _ _ _ _ _ W.drew
  obtain ⟨w2,hrun,h2,fr2⟩:=H1.out.drew.stampRun hnum (by omega)
  have H2:=hid h2;clear h2
  refine wpl_put_run _ rfl (.tmp 23) (.tmp 24) (.tmp 28) 99 rfl _ _ _ rfl rfl rfl hrun ?_
  clear c0 c1 c2 c3 hq hrun
  go_wp2
  go_end0
  exact ⟨rfl,⟨_,⟨_,_,_,_,H2.out⟩,HR.out⟩,FR1.out.drew.trans fr2⟩
theorem stamp_nil {Y:Rest} {S:Nat → Prop} {w:World} {sb n k:Nat} {f:Nat → Option Nat} {M st:Nat → Int} {pm:Value} {c l:Int} (h:SA Y S w sb n f k M st pm (.map none) c l) (num:Nat) (hnum:num < 2 ^ 64) (hn:n < 100000000) (hS:S w.heap.size) :
    Calls Tryz.prog 72 #[.pointer (some ⟨sb,1,none⟩),.int .u64 (num:Int)] w fun e w'=>e = .returned (.tuple #[])∧(∃ st',StoreAt Y S w' sb (n + 2) f k M st'∧Rise st st' (fun p=>p = num))∧Fr S w w':=by
  obtain ⟨c0,c1,c2,c3⟩:=h.cell
  have f1:=h.free 2
  have f3:=h.free 4
  have a1:∀ o,(w.alloc o).cell? ⟨sb,2,none⟩ = some (.map none):=fun o=>(h.bl (Bl.new w o)).cell.2.1
  have af1:∀ o,(w.alloc o).frozen? ⟨sb,2,none⟩ = false:=fun o=>(h.bl (Bl.new w o)).free 2
  have H:=hid h;clear h
  have hq:=fun W=>eq40 W none
  have hmm:=@run_makeMap Tryz.prog
  (try unfold addr0)
  go_enter Tryz.func72,Tryz.ntmps72
  go_upto_region 2 with (fail)
  obtain ⟨h0,fr0⟩:=H.out.stampsMade hS
  clear c0 c1 c2 c3 f1 f3 a1 af1 hq hmm
  generalize (w.alloc (.map #[] 0)).setCell ⟨sb,2,none⟩ (.map (some w.heap.size)) = W0 at *
  generalize w.heap.size = B at *
  obtain ⟨c0,c1,c2,c3⟩:=h0.cell
  have f3:=h0.free 4
  have H0:=hid h0;clear h0
  have FR0:=hid fr0;clear fr0
  go_wp2
  have hlw:=H0.out.lw
  have htop:=H0.out.top
  have hwr:=IntWalk.u64_in (l + 1) (by omega)
  rw [hwr]
  have h1:=H0.out.setLast
  clear hwr hlw
  have fr1:Fr S W0 (W0.setCell ⟨sb,4,none⟩ (.int .u64 (l + 1))):=Fr.set H0.out.own _
  clear c0 c1 c2 c3 f3
  generalize W0.setCell ⟨sb,4,none⟩ (.int .u64 (l + 1)) = W at *
  have hris:=setSt_rise (num:=num) htop
  have HR:=hid hris;clear hris htop
  generalize l + 1 = l1 at *
  obtain ⟨c0,c1,c2,c3⟩:=h1.cell
  have H1:=hid h1;clear h1
  have FR1:=hid fr1;clear fr1
  go_still_tail 9,(by kernel_rfl)
  change wpList _ _ _ _ _ W.drew
  obtain ⟨w2,hrun,h2,fr2⟩:=H1.out.drew.stampRun hnum (by omega)
  have H2:=hid h2;clear h2
  refine wpl_put_run _ rfl (.tmp 23) (.tmp 24) (.tmp 28) 99 rfl _ _ _ rfl rfl rfl hrun ?_
  clear c0 c1 c2 c3 hrun
  go_wp2
  go_end0
  exact ⟨rfl,⟨_,⟨_,_,_,_,H2.out⟩,HR.out⟩,(FR0.out.trans FR1.out.drew).trans fr2⟩
theorem stamp_any {Y:Rest} {S:Nat → Prop} {w:World} {sb n k:Nat} {f:Nat → Option Nat} {M st:Nat → Int} (h:StoreAt Y S w sb n f k M st) (num:Nat) (hnum:num < 2 ^ 64) (hn:n < 100000000) (hS:S w.heap.size) :
    Calls Tryz.prog 72 #[.pointer (some ⟨sb,1,none⟩),.int .u64 (num:Int)] w fun e w'=>e = .returned (.tuple #[])∧(∃ st',StoreAt Y S w' sb (n + 2) f k M st'∧Rise st st' (fun p=>p = num))∧Fr S w w':=by
  obtain ⟨pm,sm,c,l,h⟩:=h
  rcases h.stamps with ⟨rfl,_⟩ | ⟨B,D,rfl,_⟩
  · exact stamp_nil h num hnum hn hS
  · exact stamp_not h num hnum hn

theorem SA.pagesMade {Y:Rest} {S:Nat → Prop} {w:World} {sb n k:Nat} {f:Nat → Option Nat} {M st:Nat → Int} {sm:Value} {c l:Int} (h:SA Y S w sb n f k M st (.map none) sm c l) (hS:S w.heap.size) :
    SA Y S ((w.alloc (.map #[] 0)).setCell ⟨sb,1,none⟩ (.map (some w.heap.size))) sb n f k M st (.map (some w.heap.size)) sm c l∧Fr S w ((w.alloc (.map #[] 0)).setCell ⟨sb,1,none⟩ (.map (some w.heap.size))):=by
  have hsb:=h.lt
  have h':=h.bl (Bl.new w (.map #[] 0))
  refine ⟨?_,(Fr.of_bl (Bl.new w (.map #[] 0))).trans (Fr.set h.own _)⟩
  refine h'.cells (setCell_others _ sb 1 _) (heap_setCell_same _ sb 1 _ 103 _ h'.blk) h.lw h.top ?_ (h'.keptS 1 _) ?_
  · refine .inr ⟨w.heap.size,rfl,hS,?_⟩
    rcases h.pages with ⟨_,hf,rfl⟩ | ⟨B,h0,_⟩
    · obtain rfl:f = fun _=>none:=funext hf
      exact ((PM.made w).of_block (Below.heap_setCell _ _ _ _ (fun e=>by have:w.heap.size = sb:=e;omega))).mono (Nat.zero_le _)
    · cases h0
  · intro B hB e
    cases hB
    obtain ⟨_,es,q,h2⟩:=h.stamps.isMap e
    have:=lt_at h2
    omega
theorem SA.pageNew {Y:Rest} {S:Nat → Prop} {w:World} {sb n k:Nat} {f:Nat → Option Nat} {M st:Nat → Int} {sm:Value} {B:Nat} {c l:Int} (h:SA Y S w sb n f k M st (.map (some B)) sm c l) (hS:S w.heap.size) {num:Nat} (hnum:num < 67108864) (hf:f num = none) (hn:n < 100000000) :
    ∃ w',(Instr.mapUpdate 98 (.map (some B)) (.int .u64 (num:Int)) (.pointer (some ⟨w.heap.size,0,none⟩))).run Tryz.prog (w.alloc (.cells zeros 173)) = .ok () w'∧SA Y S w' sb (n + 1) (put1 f num (some w.heap.size)) (k + 1) M st (.map (some B)) sm c l∧Fr S w w':=by
  have h':=h.bl (Bl.new w (.cells zeros 173))
  rcases h'.pages with ⟨h0,_⟩ | ⟨B',h0,hSB,hpm⟩
  · cases h0
  cases h0
  obtain ⟨w',hrun,hp,ht⟩:=hpm.put (show num < 2 ^ 64 by omega) (by simp only [maxLen];omega) w.heap.size
  rw [hf] at hp
  have hg:=ht.grown
  obtain ⟨_,es,q,hmap⟩:=h'.pages.isMap rfl
  have other:∀ x o,(w.alloc (.cells zeros 173)).heap[x]? = some o → x ≠ B → w'.heap[x]? = some o:=fun x o hx hne=>by
    rw [hg.block x (lt_at hx) (fun e=>hne (by injection e))];exact hx
  have hcell:∀ (x:Nat) (cs:Array Value) (t:TypeId) (fr:Nat × Nat),(w.alloc (.cells zeros 173)).heap[x]? = some (.cells cs t fr) → w'.heap[x]? = some (.cells cs t fr):=fun x cs t fr hx =>
    other x _ hx (fun e=>by rw [e,hmap] at hx;cases hx)
  refine ⟨w',hrun,⟨hcell _ _ _ _ h'.blk,h.own,(by have:=h.lw;omega),h.top,.inr ⟨B,rfl,hSB,hp⟩,?_,h.apart,fun p b hb=>?_,fun p q b hp hq=>?_,fun p o hp ho=>?_,fun p b hb=>?_⟩,(Fr.of_bl (Bl.new w _)).trans (Fr.grown hg (fun x hx=>by cases hx;exact hSB))⟩
  · have hs:SMV S w' sm n c st:=h'.stamps.kept fun B1 hB1=>by
      obtain ⟨_,es1,q1,h2⟩:=h'.stamps.isMap hB1
      rw [other _ _ h2 (fun e=>by subst e;exact h.apart _ rfl hB1),h2]
    exact hs.mono (by omega)
  · by_cases e:p = num
    · subst e
      rw [put1_same] at hb;cases hb
      refine ⟨hS,?_⟩
      rw [pageOf_zero M p (fun o ho=>h.zero p o hf ho)]
      exact hcell _ _ _ _ (heap_alloc_new w _)
    · rw [put1_other _ _ _ e] at hb
      exact ⟨(h'.at_ p b hb).1,hcell _ _ _ _ (h'.at_ p b hb).2⟩
  · by_cases e1:p = num
    · by_cases e2:q = num
      · rw [e1,e2]
      · subst e1;rw [put1_same] at hp;rw [put1_other _ _ _ e2] at hq
        cases hp
        have:=lt_at (h.at_ q _ hq).2
        omega
    · by_cases e2:q = num
      · subst e2;rw [put1_same] at hq;rw [put1_other _ _ _ e1] at hp
        cases hq
        have:=lt_at (h.at_ p _ hp).2
        omega
      · rw [put1_other _ _ _ e1] at hp;rw [put1_other _ _ _ e2] at hq
        exact h.inj p q b hp hq
  · by_cases e:p = num
    · subst e;rw [put1_same] at hp;cases hp
    · rw [put1_other _ _ _ e] at hp;exact h.zero p o hp ho
  · by_cases e:p = num
    · omega
    · rw [put1_other _ _ _ e] at hb;exact h.lim p b hb
def hf (f:Nat → Option Nat) (num b:Nat):Nat → Option Nat:=if (f num).isSome then f else put1 f num (some b)
def hk (f:Nat → Option Nat) (num k:Nat):Nat:=if (f num).isSome then k else k + 1
def HoldPost (Y:Rest) (S:Nat → Prop) (w:World) (sb n:Nat) (f:Nat → Option Nat) (k:Nat) (M st:Nat → Int) (num:Nat) (e:Ending) (w':World):Prop:=
  ∃ b,e = .returned (addr0 b)∧StoreAt Y S w' sb (n + 1) (hf f num b) (hk f num k) M st∧hf f num b num = some b∧Fr S w w'
theorem hold_there {Y:Rest} {S:Nat → Prop} {w:World} {sb n k:Nat} {f:Nat → Option Nat} {M st:Nat → Int} {pm sm:Value} {c l:Int} (h:SA Y S w sb n f k M st pm sm c l) (num b:Nat) (hnum:num < 67108864) (hb:f num = some b) :
    Calls Tryz.prog 71 #[.pointer (some ⟨sb,1,none⟩),.int .u64 (num:Int)] w (HoldPost Y S w sb n f k M st num):=by
  have e1:hf f num b = f:=by simp [hf,hb]
  have e2:hk f num k = k:=by simp [hk,hb]
  obtain ⟨B,rfl⟩:∃ B,pm = .map (some B):=by
    rcases h.pages with ⟨_,h1,_⟩ | ⟨B,h0,_⟩
    · rw [h1 num] at hb;cases hb
    · exact ⟨B,h0⟩
  have hlook:=h.pages.look (show num < 2 ^ 64 by omega)
  rw [hb] at hlook
  simp only [ptrOf,Option.map_some] at hlook
  obtain ⟨c0,c1,c2,c3⟩:=h.cell
  have hq:=fun W=>eq39 W (some B)
  have H:=hid h;clear h
  have HB:=hid hb;clear hb
  have E1:=hid e1;clear e1
  have E2:=hid e2;clear e2
  (try unfold addr0)
  go_enter Tryz.func71,Tryz.ntmps71
  go_wp2
  go_ret
  exact ⟨b,rfl,by rw [E1.out,E2.out];exact ⟨_,_,_,_,H.out.mono (by omega)⟩,by rw [E1.out];exact HB.out,Fr.refl _ _⟩
theorem hold_new {Y:Rest} {S:Nat → Prop} {w:World} {sb n k:Nat} {f:Nat → Option Nat} {M st:Nat → Int} {sm:Value} {B:Nat} {c l:Int} (h:SA Y S w sb n f k M st (.map (some B)) sm c l) (num:Nat) (hnum:num < 67108864) (hb:f num = none) (hn:n < 100000000) (hS:S w.heap.size) :
    Calls Tryz.prog 71 #[.pointer (some ⟨sb,1,none⟩),.int .u64 (num:Int)] w (HoldPost Y S w sb n f k M st num):=by
  have e1:hf f num w.heap.size = put1 f num (some w.heap.size):=by simp [hf,hb]
  have e2:hk f num k = k + 1:=by simp [hk,hb]
  obtain ⟨w',hrun,h',fr'⟩:=h.pageNew hS hnum hb hn
  have hlook:=h.pages.look (show num < 2 ^ 64 by omega)
  rw [hb] at hlook
  simp only [ptrOf,Option.map_none] at hlook
  obtain ⟨c0,c1,c2,c3⟩:=h.cell
  have a0:∀ o,(w.alloc o).cell? ⟨sb,1,none⟩ = some (.map (some B)):=fun o=>(h.bl (Bl.new w o)).cell.1
  have hq:=fun W=>eq39 W (some B)
  have hpg:=zero53
  have H':=hid h';clear h'
  have H:=hid h;clear h
  have E1:=hid e1;clear e1
  have E2:=hid e2;clear e2
  have HB:=hid hb;clear hb
  (try unfold addr0)
  go_enter Tryz.func71,Tryz.ntmps71
  go_wp2
  go_ret
  exact ⟨w.heap.size,rfl,by rw [E1.out,E2.out];exact ⟨_,_,_,_,H'.out⟩,by rw [E1.out,put1_same],fr'⟩
theorem hold_nil {Y:Rest} {S:Nat → Prop} {w:World} {sb n k:Nat} {f:Nat → Option Nat} {M st:Nat → Int} {sm:Value} {c l:Int} (h:SA Y S w sb n f k M st (.map none) sm c l) (num:Nat) (hnum:num < 67108864) (hn:n < 100000000) (hS:∀ b,w.heap.size ≤ b → S b) :
    Calls Tryz.prog 71 #[.pointer (some ⟨sb,1,none⟩),.int .u64 (num:Int)] w (HoldPost Y S w sb n f k M st num):=by
  have hb:f num = none:=by
    rcases h.pages with ⟨_,h1,_⟩ | ⟨B,h0,_⟩
    · exact h1 num
    · cases h0
  obtain ⟨h0,fr0⟩:=h.pagesMade (hS _ (Nat.le_refl _))
  obtain ⟨c0,c1,c2,c3⟩:=h.cell
  have f0:=h.free 1
  have a0:∀ o,(w.alloc o).cell? ⟨sb,1,none⟩ = some (.map none):=fun o=>(h.bl (Bl.new w o)).cell.1
  have af0:∀ o,(w.alloc o).frozen? ⟨sb,1,none⟩ = false:=fun o=>(h.bl (Bl.new w o)).free 1
  have hq:=fun W=>eq39 W none
  have hmm:=@run_makeMap Tryz.prog
  have H:=hid h;clear h
  have HB:=hid hb;clear hb
  have H0:=hid h0;clear h0
  have FR0:=hid fr0;clear fr0
  (try unfold addr0)
  go_enter Tryz.func71,Tryz.ntmps71
  go_upto_region 3 with (fail)
  have hsz:w.heap.size ≤ ((w.alloc (.map #[] 0)).setCell ⟨sb,1,none⟩ (.map (some w.heap.size))).heap.size:=FR0.out.size
  clear c0 c1 c2 c3 f0 a0 af0 hq hmm
  generalize (w.alloc (.map #[] 0)).setCell ⟨sb,1,none⟩ (.map (some w.heap.size)) = W0 at *
  generalize w.heap.size = B at *
  have hS0:=hS _ hsz
  obtain ⟨w',hrun,h',fr'⟩:=H0.out.pageNew hS0 hnum HB.out hn
  have hlook:=H0.out.pages.look (show num < 2 ^ 64 by omega)
  rw [HB.out] at hlook
  simp only [ptrOf,Option.map_none] at hlook
  obtain ⟨c0,c1,c2,c3⟩:=H0.out.cell
  have a0:∀ o,(W0.alloc o).cell? ⟨sb,1,none⟩ = some (.map (some B)):=fun o=>(H0.out.bl (Bl.new W0 o)).cell.1
  have hpg:=zero53
  have H':=hid h';clear h'
  have e1:hf f num W0.heap.size = put1 f num (some W0.heap.size):=by simp [hf,HB.out]
  have e2:hk f num k = k + 1:=by simp [hk,HB.out]
  have E1:=hid e1;clear e1
  have E2:=hid e2;clear e2
  go_wp2
  go_ret
  exact ⟨W0.heap.size,rfl,by rw [E1.out,E2.out];exact ⟨_,_,_,_,H'.out⟩,by rw [E1.out,put1_same],FR0.out.trans fr'⟩
theorem hold_any {Y:Rest} {S:Nat → Prop} {w:World} {sb n k:Nat} {f:Nat → Option Nat} {M st:Nat → Int} (h:StoreAt Y S w sb n f k M st) (num:Nat) (hnum:num < 67108864) (hn:n < 100000000) (hS:∀ b,w.heap.size ≤ b → S b) :
    Calls Tryz.prog 71 #[.pointer (some ⟨sb,1,none⟩),.int .u64 (num:Int)] w (HoldPost Y S w sb n f k M st num):=by
  obtain ⟨pm,sm,c,l,h⟩:=h
  rcases hb:f num with _ | b
  · rcases h.pages with ⟨rfl,_⟩ | ⟨B,rfl,_⟩
    · exact hold_nil h num hnum hn hS
    · exact hold_new h num hnum hb hn (hS _ (Nat.le_refl _))
  · exact hold_there h num b hnum hb
end Go.Proofs.YtlhpodholnfppaaGreatDoor

namespace Go.Proofs.YtlhpodholnfppaaGreatDoor
open Go.RowKit
set_option maxRecDepth 100000

def cnt (f:Nat → Option Nat) (a:Nat):Nat → Nat
  | 0=>0
  | m + 1=>cnt f a m + (if (f (a + m)).isSome then 0 else 1)
structure Held (f f':Nat → Option Nat) (k k' a m:Nat):Prop where
  some_:∀ p,(f' p).isSome = ((f p).isSome || decide (a ≤ p∧p < a + m))
  count:k' = k + cnt f a m
theorem Held.none_ (f:Nat → Option Nat) (k a:Nat):Held f f k k a 0:=⟨fun p=>by rw [decide_eq_false (by omega)];simp,rfl⟩
theorem Held.next {f g:Nat → Option Nat} {k k1 a j:Nat} (h:Held f g k k1 a j) (b:Nat):Held f (hf g (a + j) b) k (hk g (a + j) k1) a (j + 1):=by
  have hs:(g (a + j)).isSome = (f (a + j)).isSome:=by rw [h.some_];rw [decide_eq_false (by omega)];simp
  refine ⟨fun p=>?_,?_⟩
  · unfold hf
    by_cases e:p = a + j
    · subst e
      rw [decide_eq_true (by omega)]
      rcases hc:(g (a + j)).isSome with _ | _
      · simp [put1_same]
      · simp [hc]
    · have:decide (a ≤ p∧p < a + (j + 1)) = decide (a ≤ p∧p < a + j):=by
        by_cases h1:a ≤ p∧p < a + j
        · rw [decide_eq_true h1,decide_eq_true (by omega)]
        · rw [decide_eq_false h1,decide_eq_false (by omega)]
      rw [this,← h.some_]
      split
      · rfl
      · rw [put1_other _ _ _ e]
  · unfold hk
    simp only [cnt]
    rw [hs,h.count]
    split <;> omega

theorem SA.copyRun {Y:Rest} {S:Nat → Prop} {w:World} {sb n k:Nat} {f:Nat → Option Nat} {M st:Nat → Int} {pm sm:Value} {c l:Int} (h:SA Y S w sb n f k M st pm sm c l) {num b off:Nat} (hb:f num = some b) (hoff:off < 4096)
    (A:Option Addr) (sLen sCap:Nat) (zs:List Int) (hr:Rd w A zs) (hl:zs.length = sLen) (h0:0 < sLen) (ty:TypeId) :
    ∃ (w':World) (dn:Nat),dn = min sLen (4096 - off)∧(Builtin.copy_ #[22,22] ty #[.slice (some ⟨b,off,none⟩) (4096 - off) (4096 - off),.slice A sLen sCap]).run Tryz.prog w = .ok (.int .i64 (dn:Int)) w' ∧
      SA Y S w' sb n f k (lay M (num * 4096 + off) (zs.take dn)) st pm sm c l∧Fr S w w':=by
  obtain ⟨ad,rfl,hc⟩:=hr (by omega)
  have hz:(zs.take (min sLen (4096 - off))).length = min sLen (4096 - off):=by rw [List.length_take,hl];omega
  have hbb:=(h.at_ num b hb).2
  have hrun:=run_copy_row (P:=Tryz.prog) w 22 22 ty 5 b off (4096 - off) (4096 - off) ad sLen sCap _ 173 (asBytes (zs.take (min sLen (4096 - off)))) Tryz.underlying22 sizeByte hbb (by rw [asBytes_length,hz]) (fun j v hj=>by
    obtain ⟨h1,rfl⟩:=asBytes_get _ _ _ hj
    rw [hz] at h1
    rw [hc j (by omega),List.getD_eq_getElem?_getD,List.getD_eq_getElem?_getD,List.getElem?_take_of_lt h1]) (by rw [asBytes_length,hz,List.size_toArray,asBytes_length,pageOf_length];omega) (bytes_one _)
  rw [asBytes_length,hz] at hrun
  refine ⟨_,_,rfl,hrun,h.write hb (by rw [hz];omega) ?_ ?_,?_⟩
  · exact ⟨rfl,rfl,rfl,by simp [World.setRow],fun x _ hne=>setRow_other w b x _ (fun e=>hne (by rw [e]))⟩
  · rw [setRow_heap w b _ _ 173 _ hbb]
    simp only [splice,asBytes,List.map_append,List.map_take,List.map_drop,hz,List.append_assoc]
  · exact ⟨rfl,rfl,rfl,by simp [World.setRow],fun x _ hne=>setRow_other w b x _ (fun e=>hne (by rw [e];exact (h.at_ num b hb).1))⟩
theorem slice53 (b off:Nat) (h:off < 4096) (w:World):(Instr.sliceAt 173 (.pointer (some ⟨b,0,none⟩)) (some (.int .u64 (off:Int))) none none).run Tryz.prog w = .ok (.slice (some ⟨b,off,none⟩) (4096 - off) (4096 - off)) w:=by
  obtain ⟨i0,hi0,hz0,hz1,hz2⟩:=info_parts infoByte
  have h1:(0:Int) ≤ (off:Int)∧(off:Int) ≤ ((4096:Nat):Int):=by omega
  have h2:¬ 4096 = off:=by omega
  have hadd:(⟨b,0,none⟩:Addr).add off = ⟨b,off,none⟩:=by unfold Addr.add;split <;> simp_all
  simp [Instr.sliceAt,run_underlying Tryz.underlying173,Instr.sureAddr,Instr.sliceBounds,Instr.sliceBound,asIntOf,sizeOf,typeInfo,hi0,hz1,h1,h2,hadd,Result.andThen]
  rw [if_pos (by omega)]
  simp [h2,hadd]
def lenV:Value → Nat | .slice _ n _=>n | _=>0
def pagesOf (addr r:Nat):Nat:=if r = 0 then 0 else (addr + r - 1) / 4096 + 1 - addr / 4096
def WritePost (Y:Rest) (S:Nat → Prop) (w:World) (sb n:Nat) (f:Nat → Option Nat) (k:Nat) (M st:Nat → Int) (addr:Nat) (ys:List Int) (e:Ending) (w':World):Prop:=
  e = .returned (.tuple #[])∧∃ f' k' st',StoreAt Y S w' sb (n + 3 * pagesOf addr ys.length) f' k' (lay M addr ys) st'∧Fr S w w'∧Held f f' k k' (addr / 4096) (pagesOf addr ys.length)∧Rise st st' (fun p=>addr / 4096 ≤ p∧p < addr / 4096 + pagesOf addr ys.length)
theorem Rd.fr {S:Nat → Prop} {w w':World} {A:Option Addr} {xs:List Int} (h:Rd w A xs) (hf:Fr S w w') (hA:0 < xs.length → ∀ ad,A = some ad → ¬ S ad.block):Rd w' A xs:=by
  intro h0
  obtain ⟨ad,rfl,hc⟩:=h h0
  refine ⟨ad,rfl,fun i hi=>?_⟩
  have h1:=hc i hi
  rw [World.cell?_of_block (w:=w) (hf.block _ (block_lt_of_cell h1) (by rw [add_block];exact hA h0 ad rfl))]
  exact h1
theorem Rd.take {w:World} {A:Option Addr} {xs:List Int} (h:Rd w A xs) (k:Nat):Rd w A (xs.take k):=by
  intro h0
  rw [List.length_take] at h0
  obtain ⟨ad,rfl,hc⟩:=h (by omega)
  refine ⟨ad,rfl,fun i hi=>?_⟩
  rw [List.length_take] at hi
  rw [hc i (by omega),List.getD_eq_getElem?_getD,List.getD_eq_getElem?_getD,List.getElem?_take_of_lt (by omega)]
structure WR (Y:Rest) (S:Nat → Prop) (w:World) (sb n:Nat) (f:Nat → Option Nat) (k:Nat) (M st:Nat → Int) (addr:Nat) (ys:List Int) (j t:Nat) (wr:World) (A:Option Addr) (cap:Nat):Prop where
  le:t ≤ ys.length
  cap_:ys.length - t ≤ cap
  rd:Rd wr A (ys.drop t)
  out:t < ys.length → ∀ ad,A = some ad → ¬ S ad.block
  at_:∃ f' k' st',StoreAt Y S wr sb (n + 3 * j) f' k' (lay M addr (ys.take t)) st'∧Held f f' k k' (addr / 4096) j∧Rise st st' (fun p=>addr / 4096 ≤ p∧p < addr / 4096 + j)
  fr:Fr S w wr
  page:t < ys.length → (addr + t) / 4096 = addr / 4096 + j
  done:(t = 0∧j = 0) ∨ (0 < t∧(addr + t - 1) / 4096 + 1 = addr / 4096 + j)
theorem WR.step {Y:Rest} {S:Nat → Prop} {w:World} {sb n k:Nat} {f:Nat → Option Nat} {M st:Nat → Int} {addr:Nat} {ys:List Int} {j t:Nat} {wr:World} {B:Option Addr} {cp:Nat} (h:WR Y S w sb n f k M st addr ys j t wr B cp) (hlt:t < ys.length)
    {f1:Nat → Option Nat} {k1:Nat} {st1 st2:Nat → Int} (hris:Rise st st1 (fun p=>addr / 4096 ≤ p∧p < addr / 4096 + j)) (hheld:Held f f1 k k1 (addr / 4096) j) {num off dn b:Nat} (hnum:num = (addr + t) / 4096) (hoff:off = (addr + t) % 4096) (hdn:dn = min (ys.length - t) (4096 - off)) {w3:World}
    (hst:StoreAt Y S w3 sb (n + 3 * j + 1 + 2) (hf f1 num b) (hk f1 num k1) (lay (lay M addr (ys.take t)) (num * 4096 + off) ((ys.drop t).take dn)) st2) (hris2:Rise st1 st2 (fun p=>p = num)) (fr:Fr S wr w3) :
    WR Y S w sb n f k M st addr ys (j + 1) (t + dn) w3 (if cp = dn then B else B.map (·.add dn)) (cp - dn):=by
  have hpage:=h.page hlt
  have hcap:=h.cap_
  have hle:=h.le
  have hd0:0 < dn:=by omega
  have hd1:dn ≤ ys.length - t:=by omega
  refine ⟨by omega,by omega,?_,?_,⟨hf f1 num b,hk f1 num k1,st2,?_,?_,?_⟩,h.fr.trans fr,fun hx=>?_,.inr ⟨by omega,?_⟩⟩
  · have h1:=(h.rd.fr fr (fun h0=>h.out hlt)).drop dn cp (by rw [List.length_drop];omega) (by rw [List.length_drop];omega)
    rw [List.drop_drop] at h1
    exact h1
  · intro _ ad had
    split at had
    · exact h.out hlt ad had
    · rcases B with _ | a0
      · cases had
      · simp only [Option.map_some,Option.some.injEq] at had
        subst had
        rw [add_block]
        exact h.out hlt a0 rfl
  · have e1:lay (lay M addr (ys.take t)) (num * 4096 + off) ((ys.drop t).take dn) = lay M addr (ys.take (t + dn)):=by
      have e2:num * 4096 + off = addr + (ys.take t).length:=by rw [List.length_take];omega
      rw [e2,lay_lay,List.take_add]
    rw [e1] at hst
    exact hst.mono (by omega)
  · have e3:num = addr / 4096 + j:=by omega
    rw [e3]
    exact hheld.next b
  · exact (hris.trans hris2).mono fun p hp=>by
      by_cases e:p = num
      · exact .inr e
      · exact .inl (by omega)
  · omega
  · omega
theorem write_any {Y:Rest} {S:Nat → Prop} {w:World} {sb n k:Nat} {f:Nat → Option Nat} {M st:Nat → Int} (h:StoreAt Y S w sb n f k M st) (addr:Nat) (A:Option Addr) (len cap:Nat) (xs:List Int) (hr:Rd w A xs) (hl:xs.length = len) (hlc:len ≤ cap)
    (hA:0 < len → ∀ ad,A = some ad → ¬ S ad.block) (ha:addr < 2 ^ 64) (hlen:len ≤ 4194304) (hn:n < 90000000) (hS:∀ b,w.heap.size ≤ b → S b) :
    Calls Tryz.prog 48 #[.pointer (some ⟨sb,1,none⟩),.int .u64 (addr:Int),.slice A len cap] w (WritePost Y S w sb n f k M st addr (xs.take (room addr len))):=by
  have cb:=below_any addr len w (by omega)
  have hroom:room addr len ≤ len:=Nat.min_le_left _ _
  have hrin:room addr len ≤ 274877906944 - addr:=Nat.min_le_right _ _
  have hy:(xs.take (room addr len)).length = room addr len:=by rw [List.length_take];omega
  have hry:=hr.take (room addr len)
  generalize room addr len = R at *
  generalize xs.take R = ys at *
  have hx0:(0:Int) ≤ (addr:Int):=by omega
  have hx1:(addr:Int) ≤ 18446744073709551615:=by omega
  have hlI:(len:Int) ≤ 4194304:=by omega
  have hRl:(R:Int) ≤ (len:Int):=by omega
  have hRc:(R:Int) ≤ (cap:Int):=by omega
  have HA:=hid ha;clear ha
  have HRI:=hid hrin;clear hrin
  have HLN:=hid hlen;clear hlen
  have HH:=hid h;clear h
  have CB:=hid cb;clear cb
  have HY:=hid hy;clear hy
  have HRY:=hid hry;clear hry
  have HL:=hid hl;clear hl
  have HR:=hid hr;clear hr
  have HS:=hid hS;clear hS
  have HAA:=hid hA;clear hA
  have HN:=hid hn;clear hn
  (try unfold addr0)
  obtain ⟨x,hx⟩:∃ x:Int,x = (addr:Int):=⟨_,rfl⟩
  rw [← hx] at hx0 hx1 CB ⊢
  have HX:=hid hx;clear hx
  go_enter Tryz.func48,Tryz.ntmps48
  go_wp2_with fail
  refine CB.out.mono ?_
  rintro e w' ⟨rfl,rfl⟩
  go_wp2_with fail
  clear hlI
  go_loopw [1,2,6,7] (fun v1 v2 _ _ wr=>∃ (j t cp:Nat) (B:Option Addr),v1 = .int .u64 ((addr + t:Nat):Int)∧v2 = .slice B (R - t) cp∧WR Y S w sb n f k M st addr ys j t wr B cp) (fun _ v2 _ _ _=>lenV v2)
  case atStart =>
    refine ⟨0,0,cap,A,?_,rfl,?_⟩
    · rw [HX.out];rfl
    · exact ⟨Nat.zero_le _,by rw [HY.out];omega,HRY.out,(fun h0=>HAA.out (by rw [HY.out] at h0;omega)),⟨f,k,st,by simpa [lay_nil] using HH.out,Held.none_ f k _,(Rise.refl st).mono fun p hp=>by omega⟩,Fr.refl _ _,fun _=>by simp,.inl ⟨rfl,rfl⟩⟩
  case round =>
    obtain ⟨j,t,cp,B,rfl,rfl,hw⟩:=hrel
    clear hx0 hx1 CB HX
    by_cases hlt:t < R
    · have hrl:0 < R - t:=by omega
      have hrlI:(0:Int) < ((R - t:Nat):Int):=by omega
      have hpage:=hw.page (by rw [HY.out];exact hlt)
      obtain ⟨num,hnum⟩:∃ num,num = (addr + t) / 4096:=⟨_,rfl⟩
      obtain ⟨off,hoff⟩:∃ off,off = (addr + t) % 4096:=⟨_,rfl⟩
      obtain ⟨x,hx⟩:∃ x:Int,x = ((addr + t:Nat):Int):=⟨_,rfl⟩
      have hxn:x / 4096 = (num:Int):=by omega
      have hxo:x % 4096 = (off:Int):=by omega
      have hx0:0 ≤ x:=by omega
      have hx1:x ≤ 274877906944:=by have:=HRI.out;omega
      have ho:(off:Int) < 4096:=by omega
      rw [← hx]
      have HX:=hid hx;clear hx
      have HNUM:=hid hnum;clear hnum
      have HOFF:=hid hoff;clear hoff
      have HP:=hid hpage;clear hpage
      obtain ⟨f1,k1,st1,hst,hheld,hris⟩:=hw.at_
      have HW:=hid hw;clear hw
      have HST:=hid hst;clear hst
      have HHELD:=hid hheld;clear hheld
      have HRIS:=hid hris;clear hris
      go_wp2_with fail
      have hj:j ≤ 1100:=by
        have h1:=HW.out.done
        have h2:=HLN.out
        have h3:=hroom
        rcases h1 with ⟨_,h1⟩ | ⟨_,h1⟩ <;> omega
      have hNlim:num < 67108864:=by
        have h1:=HRI.out;have h2:=HNUM.out;omega
      have hSr:∀ b,wr.heap.size ≤ b → S b:=fun b hb=>HS.out b (Nat.le_trans HW.out.fr.size hb)
      have hN:=HN.out
      refine (hold_any HST.out num hNlim (by omega) hSr).mono ?_
      rintro e w1 ⟨b,rfl,hst1,hb1,fr1⟩
      obtain ⟨pm,sm,c,l,hsa⟩:=hst1
      have rd1:=HW.out.rd.fr fr1 (fun _=>HW.out.out (by rw [HY.out];exact hlt))
      have hzl:(ys.drop t).length = R - t:=by rw [List.length_drop,HY.out]
      have hoffN:off < 4096:=by omega
      have hSr1:=hSr
      clear hSr hN hNlim
      have HSA:=hid hsa;clear hsa
      have HB1:=hid hb1;clear hb1
      have RD1:=hid rd1;clear rd1
      have HZ:=hid hzl;clear hzl
      have FR1:=hid fr1;clear fr1
      have HJ:=hid hj;clear hj
      have HSR:=hid hSr1;clear hSr1
      have hsl:=slice53 b off hoffN
      obtain ⟨w2,dn,hdn,hcp,hsa2,fr2⟩:=HSA.out.copyRun HB1.out hoffN B (R - t) cp _ RD1.out HZ.out hrl 3
      have HDN:=hid hdn;clear hdn
      have HSA2:=hid hsa2;clear hsa2
      have FR2:=hid fr2;clear fr2
      have hd1:dn ≤ R - t:=by rw [HDN.out];omega
      have hdI:(dn:Int) ≤ ((R - t:Nat):Int):=by omega
      have hdc:(dn:Int) ≤ (cp:Int):=by have:=HW.out.cap_;rw [HY.out] at this;omega
      (try unfold addr0)
      go_wp2_with fail
      have hN:=HN.out
      have hJ:=HJ.out
      have hs2:S w2.heap.size:=HSR.out _ (Nat.le_trans FR1.out.size FR2.out.size)
      refine (stamp_any ⟨_,_,_,_,HSA2.out⟩ num (by have:=HNUM.out;have:=HRI.out;omega) (by omega) hs2).mono ?_
      rintro e w3 ⟨rfl,⟨st3,hst3,hris3⟩,fr3⟩
      have hstep:=HW.out.step (by rw [HY.out];exact hlt) HRIS.out HHELD.out HNUM.out HOFF.out (by rw [HY.out];exact HDN.out) hst3 hris3 ((FR1.out.trans FR2.out).trans fr3)
      have HSTEP:=hid hstep;clear hstep hst3 hris3 fr3 hN hJ hs2 hcp hsl
      have hdx:x + (dn:Int) ≤ 274877906944:=by have:=HX.out;have:=HRI.out;omega
      go_wp2_with fail
      refine ⟨⟨j + 1,t + dn,cp - dn,_,?_,?_,HSTEP.out⟩,?_⟩
      · rw [HX.out];congr 1;omega
      · congr 1;omega
      · simp only [lenV]
        have h1:=HDN.out
        omega
    · have hw':=hw
      have ht:t = R:=by have:=hw.le;rw [HY.out] at this;omega
      have HW:=hid hw;clear hw hw'
      have HT:=hid ht
      have h0:R - t = 0:=by omega
      rw [h0]
      clear ht hlt h0
      have CNT:=hid hroom
      go_wp2_with fail
      go_end0
      refine ⟨rfl,?_⟩
      obtain ⟨f',k',st',hst,hheld,hris⟩:=HW.out.at_
      have hj:pagesOf addr ys.length = j:=by
        have h1:=HW.out.done
        rw [HT.out] at h1
        unfold pagesOf
        rw [HY.out]
        split
        · omega
        · rcases h1 with h1 | h1 <;> omega
      have hty:ys.take t = ys:=List.take_of_length_le (by rw [HY.out,HT.out];exact Nat.le_refl _)
      rw [hj]
      rw [hty] at hst
      exact ⟨f',k',st',hst,HW.out.fr,hheld,hris⟩
end Go.Proofs.YtlhpodholnfppaaGreatDoor
