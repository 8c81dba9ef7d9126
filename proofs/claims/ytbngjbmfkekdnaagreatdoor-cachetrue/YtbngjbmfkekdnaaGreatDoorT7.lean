/-
  Stamps of a span; a page that is wiped whole.
  Clear: nothing, some pages, all pages; what is asked of a store that is none.
  Clear of whole pages: few of them, one by one.
  Contracts of the functions that lay words as bytes and read them back, of the program and of the reference.
  Contracts of the functions that lay words behind bytes, of the program and of the reference.
  A space in memory: its block, its list of regions, its store; what the list's calls and the store's calls leave of it.
-/
import Derived.Test.YtbngjbmfkekdnaaGreatDoorT5
import Derived.Test.YtbngjbmfkekdnaaGreatDoorRows
import Derived.Test.YtbngjbmfkekdnaaGreatDoorT0
import Derived.WalkKit
import Derived.WalkSpells
import Derived.WalkLawsBesides
import Derived.Lib.Hide
import Derived.Test.YtbngjbmfkekdnaaGreatDoorT1
import Derived.Deep.QuietTactic
import Derived.BigQuiet
import Derived.Test.YtbngjbmfkekdnaaGreatDoorT3
import Derived.Test.YtbngjbmfkekdnaaGreatDoorT6
set_option linter.unusedVariables false
set_option linter.unusedSimpArgs false
set_option maxHeartbeats 16000000
open Go.Lib (hid)
namespace Go.Proofs.YtbngjbmfkekdnaaGreatDoor
open Go.RowKit
set_option maxRecDepth 100000
theorem SA.setCommon {Y:Rest} {S:Nat → Prop} {w:World} {sb n k:Nat} {f:Nat → Option Nat} {M st:Nat → Int} {pm sm:Value} {c l:Int} (h:SA Y S w sb n f k M st pm sm c l) :
    ∃ w',(∀ ty,(Builtin.clear_ #[61] ty #[sm]).run Tryz.prog (w.setCell ⟨sb,3,none⟩ (.int .u64 l)) = .ok (.tuple #[]) w')∧SA Y S w' sb n f k M (fun _=>l) pm sm l l∧Fr S w w'∧(w.setCell ⟨sb,3,none⟩ (.int .u64 l)).cell? ⟨sb,2,none⟩ = some sm:=by
  have hb1:=heap_setCell_same w sb 3 _ 65 (.int .u64 l) h.blk
  have hfr:Fr S w (w.setCell ⟨sb,3,none⟩ (.int .u64 l)):=Fr.set h.own _
  have hcl:(w.setCell ⟨sb,3,none⟩ (.int .u64 l)).cell? ⟨sb,2,none⟩ = some sm:=by rw [cell_of_row _ _ _ _ _ _ hb1];rfl
  rcases h.stamps with ⟨rfl,_⟩ | ⟨B,D,rfl,hSB,hown,_⟩
  · refine ⟨_,fun ty=>by simp [Builtin.clear_,run_underlying Tryz.underlying61,Result.andThen],?_,hfr,hcl⟩
    exact h.cells (setCell_others w sb 3 _) hb1 h.lw (fun _ _=>Int.le_refl _) (h.keptP 3 _) (.inl ⟨rfl,fun _ _=>rfl⟩) h.apart
  · obtain ⟨es,q,hb,_⟩:=ownsMap_of_block hown (w':=w.setCell ⟨sb,3,none⟩ (.int .u64 l)) (Below.heap_setCell _ _ _ _ (fun e=>by
      obtain ⟨es,q,h2,_⟩:=hown
      have:=h.blk;rw [← show B = sb from e,h2] at this;first | cases this | exact absurd (cells_ty this) (by decide)))
    have hp:=h.keptP 3 (.int .u64 l)
    have hat:∀ p b,f p = some b → S b∧(w.setCell ⟨sb,3,none⟩ (.int .u64 l)).heap[b]? = some (.cells (asBytes (pageOf M p)).toArray 138 (0,0)):=fun p b hpb=>⟨(h.at_ p b hpb).1,by
      rw [Below.heap_setCell _ _ _ _ (fun e=>by have:=h.blk;have h2:=(h.at_ p b hpb).2;rw [← show b = sb from e,h2] at this;first | cases this | exact absurd (cells_ty this) (by decide))]
      exact (h.at_ p b hpb).2⟩
    generalize w.setCell ⟨sb,3,none⟩ (.int .u64 l) = W at *
    have hrun:∀ ty,(Builtin.clear_ #[61] ty #[.map (some B)]).run Tryz.prog W = .ok (.tuple #[]) (ChangeMaps.setBlock W B (.map #[] q)):=fun ty=>by
      simp [Builtin.clear_,run_underlying Tryz.underlying61,MapKept.run_getObj_map hb,MapKept.run_setObj_map _ hb,Result.andThen,ChangeMaps.setBlock]
    have other:∀ x,x ≠ B → (ChangeMaps.setBlock W B (.map #[] q)).heap[x]? = W.heap[x]?:=fun x hx=>ChangeMaps.heap_setBlock_other hb _ hx
    have hcell:∀ (x:Nat) (cs:Array Value) (t:TypeId) (fr:Nat × Nat),W.heap[x]? = some (.cells cs t fr) → (ChangeMaps.setBlock W B (.map #[] q)).heap[x]? = some (.cells cs t fr):=fun x cs t fr hx=>by
      rw [other x (fun e=>by rw [e,hb] at hx;cases hx)];exact hx
    refine ⟨_,hrun,⟨hcell _ _ _ _ hb1,h.own,h.lw,fun _ _=>Int.le_refl _,hp.kept fun B1 hB1=>other B1 (fun e=>by subst e;exact h.apart _ hB1 rfl),.inr ⟨B,.map [],rfl,hSB,⟨#[],q,ChangeMaps.heap_setBlock_same hb _,⟨by simp,MapKept.stamped_empty q,by simp⟩,Nat.zero_le _,rfl⟩,fun _=>none,fun _ _=>rfl,fun p v _ h=>(by cases h),fun _ _=>rfl⟩,h.apart,fun p b hp=>⟨(hat p b hp).1,hcell _ _ _ _ (hat p b hp).2⟩,h.inj,h.zero,h.lim⟩,?_,hcl⟩
    exact hfr.trans ⟨rfl,rfl,rfl,by simp [ChangeMaps.setBlock],fun x _ hn=>other x (fun e=>hn (e ▸ hSB))⟩
def box48 (a b:Int):Obj:=.cells #[.int .u64 a,.int .u64 b] 113
def less (S:Nat → Prop) (x:Nat):Nat → Prop:=fun b=>S b∧b ≠ x
theorem StoreAt.less {Y:Rest} {S:Nat → Prop} {w:World} {sb n k:Nat} {f:Nat → Option Nat} {M st:Nat → Int} (h:StoreAt Y S w sb n f k M st) (o:Obj):StoreAt Y (less S w.heap.size) (w.alloc o) sb n f k M st:=by
  have h1:StoreAt Y (YtbngjbmfkekdnaaGreatDoor.less S w.heap.size) w sb n f k M st:=h.among fun b hb hS=>⟨hS,by omega⟩
  exact h1.bl (Bl.new w o)
theorem Fr.unless {S:Nat → Prop} {w:World} {x:Nat} {o:Obj} {w':World} (h:Fr (less S x) (w.alloc o) w'):Fr S w w':=(Fr.of_bl (Bl.new w o)).trans (h.mono fun _ _ e=>e.1)
theorem stampAll_wide {Y:Rest} {S:Nat → Prop} {w:World} {sb n k:Nat} {f:Nat → Option Nat} {M st:Nat → Int} (h:StoreAt Y S w sb n f k M st) (a b:Int) (ha:0 ≤ a) (hab:a < b) (hc:b ≤ 274877906944) (hw:4096 ≤ (b - 1) / 4096 - a / 4096) (hn:n < 90000000) :
    Calls Tryz.prog 73 #[.pointer (some ⟨sb,1,none⟩),span a b] w fun e w'=>e = .returned (.tuple #[])∧(∃ st',StoreAt Y S w' sb (n + 1) f k M st'∧Rise st st' (fun _=>True))∧Fr S w w':=by
  have cw:=fun W=>wide_i a b W ha hab hc
  rw [decide_eq_true hw] at cw
  have h1:=h.bl (Bl.new w (box48 a b))
  have HH1:=hid h1;clear h1 h
  have CW:=hid cw;clear cw
  have hb1:Bl w (w.alloc (box48 a b)):=Bl.new _ _
  have HB1:=hid hb1;clear hb1
  clear hw
  (try unfold addr0 at *);(try unfold span at *)
  go_enter Tryz.func73,Tryz.ntmps73
  go_wp2_with fail
  refine (CW.out _).mono ?_
  rintro e w1 ⟨rfl,bl1⟩
  (try unfold box48 at *)
  have h2:=HH1.out.bl bl1
  have bl2:=HB1.out.trans bl1
  clear bl1
  generalize w.alloc (.cells #[.int .u64 a,.int .u64 b] 113) = W at *
  obtain ⟨pm,sm,c,l,h2⟩:=h2
  obtain ⟨c0,c1,c2,c3⟩:=h2.cell
  have f3:=h2.free 4
  have H2:=hid h2;clear h2
  have BL2:=hid bl2;clear bl2
  go_upto_region 3 with (fail)
  have hlw:=H2.out.lw
  have htop:=H2.out.top
  rw [IntWalk.u64_in (l + 1) (by omega)]
  have h3:=H2.out.setLast
  have fr3:Fr S w1 (w1.setCell ⟨sb,4,none⟩ (.int .u64 (l + 1))):=Fr.set H2.out.own _
  clear c0 c1 c2 c3 f3 hlw
  generalize w1.setCell ⟨sb,4,none⟩ (.int .u64 (l + 1)) = W3 at *
  have hris:Rise st (fun _=>l + 1) (fun _=>True):=fun p hp=>by have:=htop p hp;exact ⟨by show st p ≤ l + 1;omega,fun _=>by show st p < l + 1;omega⟩
  have HR:=hid hris;clear hris htop
  generalize l + 1 = l3 at *
  obtain ⟨c0,c1,c2,c3⟩:=h3.cell
  have f2:=h3.free 3
  obtain ⟨w5,hrun,h5,fr5,c6⟩:=h3.setCommon
  have H5:=hid h5;clear h5 h3
  have FR3:=hid fr3;clear fr3
  go_upto_region 4 with (fail)
  clear c0 c1 c2 c3 f2
  generalize W3.setCell ⟨sb,3,none⟩ (.int .u64 l3) = W4 at *
  go_wp2_with fail
  (try simp only [Exit.inBlock,Exit.then]);refine bodyPost_ret (results_none rfl _ _ _) rfl ?_
  exact ⟨rfl,⟨_,⟨_,_,_,_,H5.out⟩,HR.out⟩,((Fr.of_bl BL2.out).trans FR3.out).trans fr5⟩
theorem box_at {S:Nat → Prop} {w w':World} {a b:Int} (h:Fr (less S w.heap.size) (w.alloc (box48 a b)) w'):w'.heap[w.heap.size]? = some (.cells #[.int .u64 a,.int .u64 b] 113 (0,0)):=
  h.at_ (heap_alloc_new w _) (fun e=>e.2 rfl)
theorem two_cells {w:World} {g:Nat} {x y:Value} {t:TypeId} (h:w.heap[g]? = some (.cells #[x,y] t (0,0))):w.cell? ⟨g,0,none⟩ = some x∧w.cell? ⟨g,1,none⟩ = some y:=by
  refine ⟨?_,?_⟩ <;> simp [World.cell?,h]
theorem less_new {S:Nat → Prop} {w w':World} (hS:∀ b,w.heap.size ≤ b → S b) {o:Obj} (h:(w.alloc o).heap.size ≤ w'.heap.size):∀ b,w'.heap.size ≤ b → less S w.heap.size b:=fun b hb=>by
  have:(w.alloc o).heap.size = w.heap.size + 1:=by simp
  exact ⟨hS b (by omega),by omega⟩
theorem stampAll_narrow {Y:Rest} {S:Nat → Prop} {w:World} {sb n k:Nat} {f:Nat → Option Nat} {M st:Nat → Int} (h:StoreAt Y S w sb n f k M st) (a b:Nat) (hab:a < b) (hc:b ≤ 274877906944) (hw:(b - 1) / 4096 - a / 4096 < 4096) (hn:n < 90000000) (hS:∀ b,w.heap.size ≤ b → S b) :
    Calls Tryz.prog 73 #[.pointer (some ⟨sb,1,none⟩),span (a:Int) (b:Int)] w fun e w'=>e = .returned (.tuple #[])∧(∃ st',StoreAt Y S w' sb (n + 8192) f k M st'∧Rise st st' (fun p=>a / 4096 ≤ p∧p ≤ (b - 1) / 4096))∧Fr S w w':=by
  have cw:=fun W=>wide_i (a:Int) (b:Int) W (by omega) (by omega) (by omega)
  rw [decide_eq_false (by omega)] at cw
  have cf:=fun W=>first_i (a:Int) (b:Int) W (by omega) (by omega)
  have cl:=fun W=>last_i (a:Int) (b:Int) W (by omega) (by omega)
  obtain ⟨q0,hq0⟩:∃ q0,q0 = a / 4096:=⟨_,rfl⟩
  obtain ⟨q1,hq1⟩:∃ q1,q1 = (b - 1) / 4096:=⟨_,rfl⟩
  have e0:(a:Int) / 4096 = (q0:Int):=by omega
  have e1:((b:Int) - 1) / 4096 = (q1:Int):=by omega
  rw [e0] at cf
  rw [e1] at cl
  have hq01:q0 ≤ q1:=by omega
  have hq2:q1 < 67108864:=by omega
  have hq3:q1 < q0 + 4096:=by omega
  rw [← hq0,← hq1]
  clear e0 e1 hq0 hq1 hw
  have h1:=h.less (box48 a b)
  have HH1:=hid h1;clear h1 h
  have CW:=hid cw;clear cw
  have CF:=hid cf;clear cf
  have CL:=hid cl;clear cl
  have HS:=hid hS;clear hS
  generalize (a:Int) = A at *
  generalize (b:Int) = B at *
  have fr1:Fr (less S w.heap.size) (w.alloc (box48 A B)) (w.alloc (box48 A B)):=Fr.refl _ _
  have FR1:=hid fr1;clear fr1
  clear hab hc
  (try unfold addr0 at *);(try unfold span at *)
  go_enter Tryz.func73,Tryz.ntmps73
  go_wp2_with fail
  refine (CW.out _).mono ?_
  rintro e w1 ⟨rfl,bl1⟩
  have fr2:=FR1.out.trans (Fr.of_bl bl1)
  have h2:=HH1.out.bl bl1
  obtain ⟨c0,c1⟩:=two_cells (box_at fr2)
  have FR2:=hid fr2;clear fr2 FR1 bl1
  have H2:=hid h2;clear h2 HH1
  go_wp2_with fail
  refine (CF.out _).mono ?_
  rintro e w2 ⟨rfl,bl2⟩
  have fr3:=FR2.out.trans (Fr.of_bl bl2)
  have h3:=H2.out.bl bl2
  clear c0 c1
  have FR3:=hid fr3;clear fr3 FR2 bl2
  have H3:=hid h3;clear h3 H2
  go_wp2_with fail
  go_loopw [4] (fun v wr=>∃ j:Nat,v = .int .u64 ((q0 + j:Nat):Int)∧q0 + j ≤ q1 + 1∧(∃ st',StoreAt Y (less S w.heap.size) wr sb (n + 2 * j) f k M st'∧Rise st st' (fun p=>q0 ≤ p∧p < q0 + j))∧Fr (less S w.heap.size) (w.alloc (box48 A B)) wr) (fun v _=>q1 + 1 - (intOf v).toNat)
  case atStart=>exact ⟨0,rfl,by omega,⟨st,H3.out,(Rise.refl st).mono fun p hp=>by omega⟩,FR3.out⟩
  case round =>
    obtain ⟨j,rfl,hj,⟨st1,hst,hris⟩,hfr⟩:=hrel
    have HRIS:=hid hris;clear hris
    clear H3 FR3
    obtain ⟨c0,c1⟩:=two_cells (box_at hfr)
    have HST:=hid hst;clear hst
    have HFR:=hid hfr;clear hfr
    go_wp2_with fail
    refine (CL.out _).mono ?_
    rintro e w4 ⟨rfl,bl4⟩
    have fr4:=HFR.out.trans (Fr.of_bl bl4)
    have h4:=HST.out.bl bl4
    have FR4:=hid fr4;clear fr4
    have H4:=hid h4;clear h4 bl4 c0 c1
    by_cases hlt:q0 + j ≤ q1
    · have hltI:((q0 + j:Nat):Int) ≤ (q1:Int):=by omega
      obtain ⟨x,hx⟩:∃ x,x = q0 + j:=⟨_,rfl⟩
      rw [← hx] at hltI ⊢
      have hxb:(x:Int) ≤ 67108864:=by omega
      have HX:=hid hx;clear hx
      go_wp2_with fail
      refine (stamp_any H4.out x (by omega) (by omega) (less_new HS.out FR4.out.size _ (Nat.le_refl _))).mono ?_
      rintro e w5 ⟨rfl,⟨st5,h5,hris5⟩,fr5⟩
      have HRIS5:=hid hris5;clear hris5
      have H5:=hid h5;clear h5
      have FR5:=hid fr5;clear fr5
      go_wp2_with fail
      refine ⟨⟨j + 1,by congr 1;have:=HX.out;omega,by have:=HX.out;omega,⟨st5,H5.out,(HRIS.out.trans HRIS5.out).mono fun p hp=>by
        have:=HX.out
        by_cases e:p = x
        · exact .inr e
        · exact .inl (by omega)⟩,FR4.out.trans FR5.out⟩,?_⟩
      simp only [intOf]
      have:=HX.out
      omega
    · have hgt:(q1:Int) < ((q0 + j:Nat):Int):=by omega
      have hjj:j ≤ 4096:=by omega
      clear hlt
      go_wp2_with fail
      go_end0
      exact ⟨rfl,⟨st1,(H4.out.among fun _ _ e=>e.1).mono (by omega),HRIS.out.mono fun p hp=>by omega⟩,FR4.out.unless⟩

def wiped (M:Nat → Int) (a b:Nat):Nat → Int:=fun x=>if a ≤ x∧x < b then 0 else M x
theorem SA.del {Y:Rest} {S:Nat → Prop} {w w':World} {sb n k:Nat} {f:Nat → Option Nat} {M st:Nat → Int} {sm:Value} {B:Nat} {c l:Int} (h:SA Y S w sb n f k M st (.map (some B)) sm c l) {num:Nat} (hnum:num < 2 ^ 64) {ty:TypeId}
    (hd:(Builtin.delete_ #[60,29] ty #[.map (some B),.int .u64 (num:Int)]).run Tryz.prog w = .ok (.tuple #[]) w') :
    ∃ k',SA Y S w' sb n (put1 f num none) k' (wiped M (num * 4096) (num * 4096 + 4096)) st (.map (some B)) sm c l∧k' + (if (f num).isSome then 1 else 0) = k∧Fr S w w':=by
  rcases h.pages with ⟨h0,_⟩ | ⟨B',h0,hSB,hpm⟩
  · cases h0
  cases h0
  obtain ⟨⟨k',hp,hk⟩,ht⟩:=hpm.del_of hnum hd
  have hg:=ht.grown
  obtain ⟨_,es,q,hmap⟩:=h.pages.isMap rfl
  have other:∀ x o,w.heap[x]? = some o → x ≠ B → w'.heap[x]? = some o:=fun x o hx hne=>by
    rw [hg.block x (lt_at hx) (fun e=>hne (by injection e))];exact hx
  have hcell:∀ (x:Nat) (cs:Array Value) (t:TypeId) (fr:Nat × Nat),w.heap[x]? = some (.cells cs t fr) → w'.heap[x]? = some (.cells cs t fr):=fun x cs t fr hx =>
    other x _ hx (fun e=>by rw [e,hmap] at hx;cases hx)
  refine ⟨k',⟨hcell _ _ _ _ h.blk,h.own,h.lw,h.top,.inr ⟨B,rfl,hSB,hp⟩,?_,h.apart,fun p b hb=>?_,fun p q b hp hq=>?_,fun p o hp ho=>?_,fun p b hb=>?_⟩,hk,Fr.grown hg (fun x hx=>by cases hx;exact hSB)⟩
  · exact h.stamps.kept fun B1 hB1=>by
      obtain ⟨_,es1,q1,h2⟩:=h.stamps.isMap hB1
      rw [other _ _ h2 (fun e=>by subst e;exact h.apart _ rfl hB1),h2]
  · by_cases e:p = num
    · subst e;rw [put1_same] at hb;cases hb
    · rw [put1_other _ _ _ e] at hb
      refine ⟨(h.at_ p b hb).1,?_⟩
      rw [pageOf_other M _ p (fun o ho=>by simp only [wiped];rw [if_neg (by omega)])]
      exact hcell _ _ _ _ (h.at_ p b hb).2
  · by_cases e1:p = num
    · subst e1;rw [put1_same] at hp;cases hp
    · by_cases e2:q = num
      · subst e2;rw [put1_same] at hq;cases hq
      · rw [put1_other _ _ _ e1] at hp;rw [put1_other _ _ _ e2] at hq
        exact h.inj p q b hp hq
  · simp only [wiped]
    by_cases e:p = num
    · subst e;rw [if_pos (by omega)]
    · rw [if_neg (by omega)]
      rw [put1_other _ _ _ e] at hp;exact h.zero p o hp ho
  · by_cases e:p = num
    · subst e;rw [put1_same] at hb;cases hb
    · rw [put1_other _ _ _ e] at hb;exact h.lim p b hb
theorem wipe_none {Y:Rest} {S:Nat → Prop} {w:World} {sb n k:Nat} {f:Nat → Option Nat} {M st:Nat → Int} {pm sm:Value} {c l:Int} (h:SA Y S w sb n f k M st pm sm c l) (num:Nat) (hnum:num < 67108864) (A B:Int) (hA:0 ≤ A) (hA1:A ≤ (num:Int) * 4096) (hB1:(num:Int) * 4096 + 4096 ≤ B) (hB:B ≤ 274877906944) (hf:f num = none) :
    Calls Tryz.prog 77 #[.pointer (some ⟨sb,1,none⟩),.int .u64 (num:Int),span A B] w fun e w'=>e = .returned (.tuple #[])∧Bl w w':=by
  have h1:=h.bl (Bl.new w (box48 A B))
  have hlook:=h1.pages.look (show num < 2 ^ 64 by omega)
  rw [hf] at hlook
  simp only [ptrOf,Option.map_none] at hlook
  obtain ⟨c0,c1,c2,c3⟩:=h1.cell
  obtain ⟨d0,d1⟩:=two_cells (heap_alloc_new w (box48 A B))
  have hz:(0:Int) ≤ (num:Int):=by omega
  have hz1:(num:Int) ≤ 67108864:=by omega
  generalize (num:Int) = x at *
  have hmx:∀ W,(Builtin.max_ #[29,29] 29 #[.int .u64 A,.int .u64 (x * 4096)]).run Tryz.prog W = .ok (.int .u64 (x * 4096)) W:=fun W=>by
    rw [max_run];congr 2;split <;> omega
  have hmi:∀ W,(Builtin.min_ #[29,29] 29 #[.int .u64 B,.int .u64 (x * 4096 + 4096)]).run Tryz.prog W = .ok (.int .u64 (x * 4096 + 4096)) W:=fun W=>by
    rw [min_run];congr 2;split <;> omega
  clear h1 h
  (try unfold addr0 at *);(try unfold span at *);(try unfold box48 at *)
  go_enter Tryz.func77,Tryz.ntmps77
  go_wp2_with fail
  (try simp only [Exit.inBlock,Exit.then]);refine bodyPost_ret (results_none rfl _ _ _) rfl ?_
  exact ⟨rfl,(Bl.new _ _).alloc _⟩
theorem wipe_some {Y:Rest} {S:Nat → Prop} {w:World} {sb n k:Nat} {f:Nat → Option Nat} {M st:Nat → Int} {pb:Nat} {sm:Value} {c l:Int} (h:SA Y S w sb n f k M st (.map (some pb)) sm c l) (num b:Nat) (hnum:num < 67108864) (A B:Int) (hA:0 ≤ A) (hA1:A ≤ (num:Int) * 4096) (hB1:(num:Int) * 4096 + 4096 ≤ B) (hB:B ≤ 274877906944) (hf:f num = some b) :
    Calls Tryz.prog 77 #[.pointer (some ⟨sb,1,none⟩),.int .u64 (num:Int),span A B] w fun e w'=>e = .returned (.tuple #[])∧∃ w1,Bl w w1∧(Builtin.delete_ #[60,29] 0 #[.map (some pb),.int .u64 (num:Int)]).run Tryz.prog w1 = .ok (.tuple #[]) w':=by
  have h1:=h.bl (Bl.new w (box48 A B))
  have hlook:=h1.pages.look (show num < 2 ^ 64 by omega)
  rw [hf] at hlook
  simp only [ptrOf,Option.map_some] at hlook
  obtain ⟨c0,c1,c2,c3⟩:=h1.cell
  obtain ⟨d0,d1⟩:=two_cells (heap_alloc_new w (box48 A B))
  have hz:(0:Int) ≤ (num:Int):=by omega
  have hz1:(num:Int) ≤ 67108864:=by omega
  have H:=hid h;clear h1 h
  obtain ⟨x,hx⟩:∃ x:Int,x = (num:Int):=⟨_,rfl⟩
  rw [← hx] at hA1 hB1 hlook hz hz1 ⊢
  have HX:=hid hx;clear hx
  have hmx:∀ W,(Builtin.max_ #[29,29] 29 #[.int .u64 A,.int .u64 (x * 4096)]).run Tryz.prog W = .ok (.int .u64 (x * 4096)) W:=fun W=>by
    rw [max_run];congr 2;split <;> omega
  have hmi:∀ W,(Builtin.min_ #[29,29] 29 #[.int .u64 B,.int .u64 (x * 4096 + 4096)]).run Tryz.prog W = .ok (.int .u64 (x * 4096 + 4096)) W:=fun W=>by
    rw [min_run];congr 2;split <;> omega
  have ce:=fun W=>empty_any (x * 4096) (x * 4096 + 4096) W
  rw [decide_eq_false (by omega)] at ce
  have CE:=hid ce;clear ce
  (try unfold addr0 at *);(try unfold span at *);(try unfold box48 at *)
  go_enter Tryz.func77,Tryz.ntmps77
  go_wp2_with fail
  refine (CE.out _).mono ?_
  rintro e w3 ⟨rfl,bl3⟩
  have blw:=((Bl.new w (.cells #[.int .u64 A,.int .u64 B] 113)).alloc (.cells #[.int .u64 (x * 4096),.int .u64 (x * 4096 + 4096)] 113)).trans bl3
  have hp:=bl3.at_ (heap_alloc_new (w.alloc (.cells #[.int .u64 A,.int .u64 B] 113)) (.cells #[.int .u64 (x * 4096),.int .u64 (x * 4096 + 4096)] 113))
  rw [show (w.alloc (.cells #[.int .u64 A,.int .u64 B] 113)).heap.size = w.heap.size + 1 by simp] at hp
  have h3:=H.out.bl blw
  clear c0 c1 c2 c3 d0 d1 hlook hmx hmi bl3
  obtain ⟨d0,d1⟩:=two_cells hp
  obtain ⟨c0,c1,c2,c3⟩:=h3.cell
  obtain ⟨B',hB',_,hpm⟩:∃ B',Value.map (some pb) = .map (some B')∧S B'∧PM w3 B' n f k:=by
    rcases h3.pages with ⟨h0,_⟩ | h0
    · cases h0
    · exact h0
  cases hB'
  obtain ⟨w4,hdel⟩:=hpm.del_run (show num < 2 ^ 64 by omega) 0
  have HDEL:=hid hdel
  rw [← HX.out] at hdel
  have BLW:=hid blw
  clear blw hp h3 hpm
  go_wp2_with fail
  (try simp only [Exit.inBlock,Exit.then]);refine bodyPost_ret (results_none rfl _ _ _) rfl ?_
  refine ⟨rfl,w3,BLW.out,?_⟩
  rw [HX.out]
  exact HDEL.out
end Go.Proofs.YtbngjbmfkekdnaaGreatDoor

namespace Go.Proofs.YtbngjbmfkekdnaaGreatDoor
open Go.RowKit
set_option maxRecDepth 100000
theorem wipe_any {Y:Rest} {S:Nat → Prop} {w:World} {sb n k:Nat} {f:Nat → Option Nat} {M st:Nat → Int} (h:StoreAt Y S w sb n f k M st) (num:Nat) (hnum:num < 67108864) (A B:Int) (hA:0 ≤ A) (hA1:A ≤ (num:Int) * 4096) (hB1:(num:Int) * 4096 + 4096 ≤ B) (hB:B ≤ 274877906944) :
    Calls Tryz.prog 77 #[.pointer (some ⟨sb,1,none⟩),.int .u64 (num:Int),span A B] w fun e w'=>e = .returned (.tuple #[])∧(∃ k',StoreAt Y S w' sb n (put1 f num none) k' (wiped M (num * 4096) (num * 4096 + 4096)) st∧k' + (if (f num).isSome then 1 else 0) = k)∧Fr S w w':=by
  obtain ⟨pm,sm,c,l,h⟩:=h
  rcases hf:f num with _ | b
  · refine (wipe_none h num hnum A B hA hA1 hB1 hB hf).mono ?_
    rintro e w' ⟨rfl,bl⟩
    have e1:put1 f num none = f:=by
      funext p;by_cases e:p = num
      · subst e;rw [put1_same,hf]
      · rw [put1_other _ _ _ e]
    have e2:wiped M (num * 4096) (num * 4096 + 4096) = M:=by
      funext x;simp only [wiped]
      split
      · have:=h.zero num (x - num * 4096) hf (by omega)
        rw [show num * 4096 + (x - num * 4096) = x by omega] at this
        exact this.symm
      · rfl
    rw [e1,e2]
    exact ⟨rfl,⟨k,⟨_,_,_,_,h.bl bl⟩,by simp⟩,Fr.of_bl bl⟩
  · obtain ⟨pb,rfl⟩:∃ B,pm = .map (some B):=by
      rcases h.pages with ⟨_,h1,_⟩ | ⟨B,h0,_⟩
      · rw [h1 num] at hf;cases hf
      · exact ⟨B,h0⟩
    refine (wipe_some h num b hnum A B hA hA1 hB1 hB hf).mono ?_
    rintro e w' ⟨rfl,w1,bl,hd⟩
    obtain ⟨k',h1,h2,h3⟩:=(h.bl bl).del (show num < 2 ^ 64 by omega) hd
    rw [hf] at h2
    exact ⟨rfl,⟨k',⟨_,_,_,_,h1⟩,h2⟩,(Fr.of_bl bl).trans h3⟩
def hcnt (f:Nat → Option Nat) (a:Nat):Nat → Nat
  | 0=>0
  | m + 1=>hcnt f a m + (if (f (a + m)).isSome then 1 else 0)
def cut (f:Nat → Option Nat) (a m:Nat):Nat → Option Nat:=fun p=>if a ≤ p∧p < a + m then none else f p
theorem cut_step (f:Nat → Option Nat) (a m:Nat):put1 (cut f a m) (a + m) none = cut f a (m + 1):=by
  funext p
  by_cases e:p = a + m
  · subst e;rw [put1_same];simp only [cut];rw [if_pos (by omega)]
  · rw [put1_other _ _ _ e];simp only [cut]
    by_cases h:a ≤ p∧p < a + m
    · rw [if_pos h,if_pos (by omega)]
    · rw [if_neg h,if_neg (by omega)]
theorem wiped_step (M:Nat → Int) (a m:Nat):wiped (wiped M (a * 4096) ((a + m) * 4096)) ((a + m) * 4096) ((a + m) * 4096 + 4096) = wiped M (a * 4096) ((a + (m + 1)) * 4096):=by
  funext x
  simp only [wiped]
  by_cases h1:(a + m) * 4096 ≤ x∧x < (a + m) * 4096 + 4096
  · rw [if_pos h1,if_pos (by omega)]
  · rw [if_neg h1]
    by_cases h2:a * 4096 ≤ x∧x < (a + m) * 4096
    · rw [if_pos h2,if_pos (by omega)]
    · rw [if_neg h2,if_neg (by omega)]
end Go.Proofs.YtbngjbmfkekdnaaGreatDoor

namespace Go.Proofs.YtbngjbmfkekdnaaGreatDoor
open Go.RowKit
set_option maxRecDepth 100000
theorem clear_narrow {Y:Rest} {S:Nat → Prop} {w:World} {sb n k:Nat} {f:Nat → Option Nat} {M st:Nat → Int} (h:StoreAt Y S w sb n f k M st) (q0 q1:Nat) (h01:q0 ≤ q1) (hq1:q1 < 67108864) (hq:q1 < q0 + 4096) (hn:n < 80000000) (hS:∀ b,w.heap.size ≤ b → S b) :
    Calls Tryz.prog 43 #[.pointer (some ⟨sb,1,none⟩),.int .u64 ((q0 * 4096:Nat):Int),.int .u64 (((q1 + 1) * 4096:Nat):Int)] w fun e w'=>e = .returned (.tuple #[])∧(∃ k' st',StoreAt Y S w' sb (n + 8192) (cut f q0 (q1 + 1 - q0)) k' (wiped M (q0 * 4096) ((q1 + 1) * 4096)) st'∧k' + hcnt f q0 (q1 + 1 - q0) = k∧Rise st st' (fun p=>q0 ≤ p∧p ≤ q1))∧Fr S w w':=by
  obtain ⟨a,ha⟩:∃ a,a = q0 * 4096:=⟨_,rfl⟩
  obtain ⟨b,hb⟩:∃ b,b = (q1 + 1) * 4096:=⟨_,rfl⟩
  have cw:=fun W=>pwithin_in (a:Int) (b:Int) W (by omega)
  have ce:=fun W=>empty_any (a:Int) (b:Int) W
  rw [decide_eq_false (by omega)] at ce
  have cs:=fun (W:World) (hW:StoreAt Y (less S W.heap.size) (W.alloc (box48 a b)) sb n f k M st)=>hW
  have cwi:=fun W=>wide_i (a:Int) (b:Int) W (by omega) (by omega) (by omega)
  rw [decide_eq_false (by omega)] at cwi
  have cf:=fun W=>first_i (a:Int) (b:Int) W (by omega) (by omega)
  have cl:=fun W=>last_i (a:Int) (b:Int) W (by omega) (by omega)
  have e0:(a:Int) / 4096 = (q0:Int):=by omega
  have e1:((b:Int) - 1) / 4096 = (q1:Int):=by omega
  rw [e0] at cf
  rw [e1] at cl
  clear cs e0 e1
  have cst:=fun (W:World) (S':Nat → Prop) (hW:StoreAt Y S' W sb n f k M st) (hS':∀ b,W.heap.size ≤ b → S' b)=>stampAll_narrow hW a b (by omega) (by omega) (by omega) (by omega) hS'
  have cwp:=fun (W:World) (S':Nat → Prop) (k':Nat) (f':Nat → Option Nat) (M' st':Nat → Int) (hW:StoreAt Y S' W sb (n + 8192) f' k' M' st') (num:Nat) (h0:q0 ≤ num) (h1:num ≤ q1)=>wipe_any hW num (by omega) (a:Int) (b:Int) (by omega) (by omega) (by omega) (by omega)
  rw [← ha,← hb]
  have HA:=hid ha;clear ha
  have HB:=hid hb;clear hb
  have HH:=hid h;clear h
  have HS:=hid hS;clear hS
  have CW:=hid cw;clear cw
  have CE:=hid ce;clear ce
  have CWI:=hid cwi;clear cwi
  have CF:=hid cf;clear cf
  have CL:=hid cl;clear cl
  have CST:=hid cst;clear cst
  have CWP:=hid cwp;clear cwp
  generalize (a:Int) = A at *
  generalize (b:Int) = B at *
  (try unfold addr0 at *);(try unfold span at *)
  go_enter Tryz.func43,Tryz.ntmps43
  go_wp2_with fail
  refine (CW.out _).mono ?_
  rintro e w1 ⟨rfl,bl1⟩
  have h1:StoreAt Y (less S w1.heap.size) (w1.alloc (box48 A B)) sb n f k M st:=(HH.out.bl bl1).less _
  have hS1:∀ b,w1.heap.size ≤ b → S b:=fun b hb=>HS.out b (Nat.le_trans bl1.size hb)
  have fr1:Fr (less S w1.heap.size) (w1.alloc (box48 A B)) (w1.alloc (box48 A B)):=Fr.refl _ _
  have FR1:=hid fr1;clear fr1
  have H1:=hid h1;clear h1
  have HS1:=hid hS1;clear hS1
  have BL1:=hid bl1;clear bl1
  go_wp2_with fail
  refine (CE.out _).mono ?_
  rintro e w2 ⟨rfl,bl2⟩
  have fr2:=FR1.out.trans (Fr.of_bl bl2)
  have h2:=H1.out.bl bl2
  obtain ⟨c0,c1⟩:=two_cells (box_at fr2)
  have FR2:=hid fr2;clear fr2 FR1 bl2
  have H2:=hid h2;clear h2 H1
  go_wp2_with fail
  refine (CST.out _ _ H2.out (less_new HS1.out FR2.out.size)).mono ?_
  rintro e w3 ⟨rfl,⟨st',h3,hris⟩,fr3⟩
  have HRIS:=hid hris;clear hris
  have fr3':=FR2.out.trans fr3
  clear c0 c1
  obtain ⟨c0,c1⟩:=two_cells (box_at fr3')
  have FR3:=hid fr3';clear fr3' fr3 FR2
  have H3:=hid h3;clear h3 H2
  go_wp2_with fail
  refine (CWI.out _).mono ?_
  rintro e w4 ⟨rfl,bl4⟩
  have fr4:=FR3.out.trans (Fr.of_bl bl4)
  have h4:=H3.out.bl bl4
  clear c0 c1
  obtain ⟨c0,c1⟩:=two_cells (box_at fr4)
  have FR4:=hid fr4;clear fr4 FR3 bl4
  have H4:=hid h4;clear h4 H3
  go_wp2_with fail
  refine (CF.out _).mono ?_
  rintro e w5 ⟨rfl,bl5⟩
  have fr5:=FR4.out.trans (Fr.of_bl bl5)
  have h5:=H4.out.bl bl5
  clear c0 c1
  have FR5:=hid fr5;clear fr5 FR4 bl5
  have H5:=hid h5;clear h5 H4
  go_wp2_with fail
  go_loopw [8] (fun v wr=>∃ j k':Nat,v = .int .u64 ((q0 + j:Nat):Int)∧q0 + j ≤ q1 + 1∧StoreAt Y (less S w1.heap.size) wr sb (n + 8192) (cut f q0 j) k' (wiped M (q0 * 4096) ((q0 + j) * 4096)) st'∧k' + hcnt f q0 j = k∧Fr (less S w1.heap.size) (w1.alloc (box48 A B)) wr) (fun v _=>q1 + 1 - (intOf v).toNat)
  case atStart =>
    refine ⟨0,k,rfl,by omega,?_,rfl,FR5.out⟩
    have e1:cut f q0 0 = f:=by funext p;simp only [cut];rw [if_neg (by omega)]
    have e2:wiped M (q0 * 4096) ((q0 + 0) * 4096) = M:=by funext x;simp only [wiped];rw [if_neg (by omega)]
    rw [e1,e2];exact H5.out
  case round =>
    obtain ⟨j,k',rfl,hj,hst,hk,hfr⟩:=hrel
    clear H5 FR5
    obtain ⟨c0,c1⟩:=two_cells (box_at hfr)
    have HST:=hid hst;clear hst
    have HFR:=hid hfr;clear hfr
    have HK:=hid hk;clear hk
    go_wp2_with fail
    refine (CL.out _).mono ?_
    rintro e w6 ⟨rfl,bl6⟩
    have fr6:=HFR.out.trans (Fr.of_bl bl6)
    have h6:=HST.out.bl bl6
    clear c0 c1
    obtain ⟨c0,c1⟩:=two_cells (box_at fr6)
    have FR6:=hid fr6;clear fr6
    have H6:=hid h6;clear h6 bl6
    by_cases hlt:q0 + j ≤ q1
    · have hltI:((q0 + j:Nat):Int) ≤ (q1:Int):=by omega
      obtain ⟨x,hx⟩:∃ x,x = q0 + j:=⟨_,rfl⟩
      rw [← hx] at hltI ⊢
      have hxb:(x:Int) ≤ 67108864:=by omega
      have HX:=hid hx;clear hx
      go_wp2_with fail
      refine (CWP.out _ _ _ _ _ _ H6.out x (by have:=HX.out;omega) (by have:=HX.out;omega)).mono ?_
      rintro e w7 ⟨rfl,⟨k7,h7,hk7⟩,fr7⟩
      have H7:=hid h7;clear h7
      have FR7:=hid fr7;clear fr7
      have HK7:=hid hk7;clear hk7
      clear c0 c1
      go_wp2_with fail
      have hx:=HX.out
      refine ⟨⟨j + 1,k7,by congr 1;omega,by omega,?_,?_,FR6.out.trans FR7.out⟩,?_⟩
      · have h7:=H7.out
        rw [hx,cut_step,wiped_step] at h7
        exact h7
      · have h8:=HK7.out
        have h9:=HK.out
        rw [hx] at h8
        have e1:cut f q0 j (q0 + j) = f (q0 + j):=by simp only [cut];rw [if_neg (by omega)]
        rw [e1] at h8
        simp only [hcnt]
        omega
      · simp only [intOf]
        omega
    · have hgt:(q1:Int) < ((q0 + j:Nat):Int):=by omega
      have hjj:j = q1 + 1 - q0:=by omega
      have HJ:=hid hjj
      clear hlt hjj c0 c1
      go_wp2_with fail
      go_end0
      have hjj:=HJ.out
      refine ⟨rfl,⟨k',st',?_,by rw [← hjj];exact HK.out,HRIS.out.mono fun p hp=>by have:=HA.out;have:=HB.out;omega⟩,(Fr.of_bl BL1.out).trans FR6.out.unless⟩
      have h6:=H6.out.among (T:=S) (fun _ _ e=>e.1)
      rw [hjj] at h6
      rw [show q0 + (q1 + 1 - q0) = q1 + 1 by omega] at h6
      rw [HA.out,HB.out]
      exact h6
end Go.Proofs.YtbngjbmfkekdnaaGreatDoor

namespace Go.Proofs.YtbngjbmfkekdnaaGreatDoor
open Go.RowKit
theorem count_any (n:Int) (w:World):Calls Tryz.prog 64 #[.int .i64 n] w fun e w'=>e = .returned (.bool (decide (1 ≤ n∧n ≤ 8)))∧w = w':=by
  by_cases h:1 ≤ n
  · have e:decide (1 ≤ n∧n ≤ 8) = decide (n ≤ 8):=by simp [h]
    rw [e];clear e
    go_enter Tryz.func64,Tryz.ntmps64
    go_wp2
    go_ret
    exact ⟨rfl,rfl⟩
  · have e:decide (1 ≤ n∧n ≤ 8) = false:=by simp [h]
    rw [e];clear e
    go_enter Tryz.func64,Tryz.ntmps64
    go_wp2
    go_ret
    exact ⟨rfl,rfl⟩

def getS (xs:List Int):Nat → Int
  | 0=>0
  | k + 1=>getS xs k + xs.getD k 0 * 2 ^ (8 * k)
theorem getS_bd (xs:List Int) (hb:∀ k,0 ≤ xs.getD k 0∧xs.getD k 0 ≤ 255) (k:Nat):0 ≤ getS xs k∧getS xs k < 2 ^ (8 * k):=by
  induction k with
  | zero=>simp [getS]
  | succ k ih =>
    have hp:=pow_pos' (8 * k)
    have hx:=hb k
    have e:(2:Int) ^ (8 * (k + 1)) = 256 * 2 ^ (8 * k):=by rw [show 8 * (k + 1) = 8 + 8 * k by omega,Int.pow_add];rfl
    have h1:=Int.mul_nonneg hx.1 (Int.le_of_lt hp)
    have h2:=Int.mul_le_mul_of_nonneg_right hx.2 (Int.le_of_lt hp)
    unfold getS
    rw [e]
    omega
theorem pow_le56 (k:Nat) (h:k ≤ 56):(2:Int) ^ k ≤ 72057594037927936:=by
  have:=(low_mono (k + 1) 57 (by omega) (by omega)).1
  simpa using this
theorem byte_up (x:Int) (k:Nat) (hk:k < 8) (hx:0 ≤ x∧x ≤ 255):IntKind.u64.wrap (x * 2 ^ (8 * k)) = x * 2 ^ (8 * k):=by
  have hp:=pow_pos' (8 * k)
  have hq:=pow_le56 (8 * k) (by omega)
  have h1:=Int.mul_nonneg hx.1 (Int.le_of_lt hp)
  have h2:=Int.mul_le_mul_of_nonneg_right hx.2 (Int.le_of_lt hp)
  exact IntWalk.u64_in _ (by omega)
theorem or_byte (xs:List Int) (hb:∀ k,0 ≤ xs.getD k 0∧xs.getD k 0 ≤ 255) (k:Nat) (hk:k < 8) :
    bits .or .u64 (getS xs k) (IntKind.u64.wrap (xs.getD k 0 * 2 ^ (8 * k))) = getS xs (k + 1):=by
  obtain ⟨h0,h1⟩:=getS_bd xs hb k
  have hx:=hb k
  rw [byte_up _ k hk hx]
  show _ = getS xs k + xs.getD k 0 * 2 ^ (8 * k)
  have hp:=pow_pos' (8 * k)
  have hq:=pow_le56 (8 * k) (by omega)
  have h3:=Int.mul_nonneg hx.1 (Int.le_of_lt hp)
  have h4:=Int.mul_le_mul_of_nonneg_right hx.2 (Int.le_of_lt hp)
  generalize getS xs k = g at *
  generalize xs.getD k 0 = x at *
  obtain ⟨G,rfl⟩:=Int.eq_ofNat_of_zero_le h0
  obtain ⟨X,rfl⟩:=Int.eq_ofNat_of_zero_le hx.1
  have e2:(2:Int) ^ (8 * k) = ((2 ^ (8 * k):Nat):Int):=by simp
  rw [e2,← Int.natCast_mul] at h3 h4 ⊢
  rw [e2] at h1 hq
  rw [u64_or_nat G (X * 2 ^ (8 * k)) (by omega) (by omega),Nat.or_comm,nat_join (8 * k) (X * 2 ^ (8 * k)) G (Nat.mul_mod_left _ _) (by omega),Nat.add_comm,Int.natCast_add]

theorem get_in (A:Option Addr) (len cap:Nat) (xs:List Int) (n:Nat) (w:World) (hr:Rd w A xs) (hl:xs.length = len) (hm:len ≤ 100000) (h1:1 ≤ n) (h8:n ≤ 8)
   (hb:∀ k,0 ≤ xs.getD k 0∧xs.getD k 0 ≤ 255) :
    Calls Tryz.prog 117 #[.slice A len cap,.int .i64 n] w fun e w'=>e = .returned (.int .u64 (getS xs (min n len)))∧w = w':=by
  have HR:=hid hr;clear hr
  have HL:=hid hl;clear hl
  have HB:=hid hb;clear hb
  have e1:decide (1 ≤ (n:Int)∧(n:Int) ≤ 8) = true:=by simp;omega
  have E1:=hid e1;clear e1
  by_cases hc:len < n
  · rw [Nat.min_eq_right (by omega)]
    go_enter Tryz.func117,Tryz.ntmps117
    go_wp2_with fail
    refine (count_any _ _).mono ?_
    rintro e w' ⟨rfl,rfl⟩
    rw [E1.out]
    go_wp2
    go_loop [5,14] (fun x i=>∃ k:Nat,k ≤ len∧i = .int .i64 k∧x = .int .u64 (getS xs k)) (fun _ i=>len - (intOf i).toNat)
    case atStart=>exact ⟨0,by omega,rfl,rfl⟩
    case round =>
      obtain ⟨k,hk,rfl,rfl⟩:=hrel
      by_cases hlt:k < len
      · obtain ⟨b,off,hA,hcell⟩:=HR.out.at_ k (by rw [HL.out];omega)
        subst hA
        have hx:=HB.out k
        have ho:=hid (or_byte xs HB.out k (by omega))
        generalize xs.getD k 0 = x at *
        have hin:(k:Int) < (len:Int):=by omega
        go_wp2
        go_round
        case rel=>exact ⟨k + 1,by omega,by go_num,by rw [← ho.out]⟩
        case measure=>simp [intOf];omega
      · obtain rfl:k = len:=by omega
        go_wp2
        go_ret
        exact ⟨rfl,rfl⟩
  · rw [Nat.min_eq_left (by omega)]
    go_enter Tryz.func117,Tryz.ntmps117
    go_wp2_with fail
    refine (count_any _ _).mono ?_
    rintro e w' ⟨rfl,rfl⟩
    rw [E1.out]
    go_wp2
    go_loop [5,14] (fun x i=>∃ k:Nat,k ≤ n∧i = .int .i64 k∧x = .int .u64 (getS xs k)) (fun _ i=>n - (intOf i).toNat)
    case atStart=>exact ⟨0,by omega,rfl,rfl⟩
    case round =>
      obtain ⟨k,hk,rfl,rfl⟩:=hrel
      by_cases hlt:k < n
      · obtain ⟨b,off,hA,hcell⟩:=HR.out.at_ k (by rw [HL.out];omega)
        subst hA
        have hx:=HB.out k
        have ho:=hid (or_byte xs HB.out k (by omega))
        generalize xs.getD k 0 = x at *
        have hin:(k:Int) < (len:Int):=by omega
        go_wp2
        go_round
        case rel=>exact ⟨k + 1,by omega,by go_num,by rw [← ho.out]⟩
        case measure=>simp [intOf];omega
      · obtain rfl:k = n:=by omega
        go_wp2
        go_ret
        exact ⟨rfl,rfl⟩

theorem add_byte (xs:List Int) (hb:∀ k,0 ≤ xs.getD k 0∧xs.getD k 0 ≤ 255) (k:Nat) (hk:k < 8) :
    IntKind.u64.wrap (getS xs k + IntKind.u64.wrap (xs.getD k 0 * 2 ^ (8 * k))) = getS xs (k + 1):=by
  rw [byte_up _ k hk (hb k)]
  have h:=getS_bd xs hb (k + 1)
  have hp:(2:Int) ^ (8 * (k + 1)) ≤ 18446744073709551616:=by
    have:=(low_mono (8 * (k + 1) + 1) 65 (by omega) (by omega)).1
    simpa using this
  exact IntWalk.u64_in _ (by show 0 ≤ getS xs (k + 1)∧getS xs (k + 1) ≤ _;omega)

theorem refGet_in (A:Option Addr) (len cap:Nat) (xs:List Int) (n:Nat) (w:World) (hr:Rd w A xs) (hl:xs.length = len) (hm:len ≤ 100000) (h1:1 ≤ n) (h8:n ≤ 8)
   (hb:∀ k,0 ≤ xs.getD k 0∧xs.getD k 0 ≤ 255) :
    Calls Tryz.prog 83 #[.slice A len cap,.int .i64 n] w fun e w'=>e = .returned (.int .u64 (getS xs (min n len)))∧w = w':=by
  have HR:=hid hr;clear hr
  have HL:=hid hl;clear hl
  have HB:=hid hb;clear hb
  obtain ⟨M,hMe⟩:∃ M,M = min n len:=⟨_,rfl⟩
  rw [← hMe]
  have hM1:M ≤ n:=by omega
  have hM2:M ≤ len:=by omega
  have hM3:M = n ∨ M = len:=by omega
  have HM:=hid hM3;clear hM3 hMe
  go_enter Tryz.func83,Tryz.ntmps83
  go_wp2
  go_loop [5,6] (fun x i=>∃ k:Nat,k ≤ M∧i = .int .i64 k∧x = .int .u64 (getS xs k)) (fun _ i=>M - (intOf i).toNat)
  case atStart=>exact ⟨0,by omega,rfl,rfl⟩
  case round =>
    obtain ⟨k,hk,rfl,rfl⟩:=hrel
    by_cases hlt:k < M
    · obtain ⟨b,off,hA,hcell⟩:=HR.out.at_ k (by rw [HL.out];omega)
      subst hA
      have hx:=HB.out k
      have ho:=hid (add_byte xs HB.out k (by omega))
      generalize xs.getD k 0 = x at *
      have hin:(k:Int) < (len:Int):=by omega
      have hin2:(k:Int) < (n:Int):=by omega
      go_wp2
      go_round
      case rel=>exact ⟨k + 1,by omega,by go_num,by rw [← ho.out]⟩
      case measure=>simp [intOf];omega
    · obtain rfl:k = M:=by omega
      by_cases hkn:k < n
      · have hkl:k = len:=by have:=HM.out;omega
        have hin:¬ (k:Int) < (len:Int):=by omega
        clear hkl
        go_wp2
        go_ret
        exact ⟨rfl,rfl⟩
      · go_wp2
        go_ret
        exact ⟨rfl,rfl⟩
end Go.Proofs.YtbngjbmfkekdnaaGreatDoor

namespace Go.Proofs.YtbngjbmfkekdnaaGreatDoor
open Go.RowKit
set_option maxRecDepth 100000
def putB (x:Int) (k:Nat):List Int:=(List.range k).map fun i=>x / 2 ^ (8 * i) % 256
theorem putB_length (x:Int) (k:Nat):(putB x k).length = k:=by simp [putB]
theorem putB_succ (x:Int) (k:Nat):putB x (k + 1) = putB x k ++ [x / 2 ^ (8 * k) % 256]:=by simp [putB,List.range_succ]
theorem own_empty (w:World):(w.alloc (.cells #[] 5)).ownsRow w.heap.size 5 1 (.slice (some ⟨w.heap.size,0,none⟩) 0 0) 0 (asBytes []):=
  World.ownsRow_lit w #[] 0 (Nat.le_refl _) (by simp [maxLen]) (by simp)
theorem Rd.alloc {w:World} {A:Option Addr} {xs:List Int} (h:Rd w A xs) (o:Obj):Rd (w.alloc o) A xs:=h.below ((Below.refl _ _).alloc (Nat.le_refl _) o)
theorem own_block_ge {w:World} {base e n:Nat} {v:Value} {xs:List Value} (h:w.ownsRow base e 1 v n xs):∀ k,v.ownBlock = some k → base ≤ k:=fun k hk=>(h.lt k hk).1
theorem one_cell (w:World) (y:Int):Rd (w.alloc (.cells #[.int .u8 y] 5)) (some ⟨w.heap.size,0,none⟩) [y]:=by
  intro _
  refine ⟨_,rfl,fun i hi=>?_⟩
  obtain rfl:i = 0:=by simpa using hi
  simp [Addr.add]

theorem refPut_in (A:Option Addr) (len cap:Nat) (xs:List Int) (x:Int) (n:Nat) (w:World) (hr:Rd w A xs) (hl:xs.length = len) (hc:A = none → cap = 0) (hm:len ≤ 5100) (h1:1 ≤ n) (h8:n ≤ 8) :
    Calls Tryz.prog 38 #[.slice A len cap,.int .u64 x,.int .i64 n] w fun e w'=>∃ B c,e = .returned (.slice B (len + n) c)∧Rd w' B (xs ++ putB x n)∧Below w.heap.size w w':=by
  obtain ⟨i0,hi0,hz0,hz1,hz2⟩:=info_parts infoByte
  have HR:=hid hr;clear hr
  have HL:=hid hl;clear hl
  have HC:=hid hc;clear hc
  have J0:=hid hi0;clear hi0
  have J1:=hid hz0;clear hz0
  have J2:=hid hz1;clear hz1
  have J3:=hid hz2;clear hz2
  go_enter Tryz.func38,Tryz.ntmps38
  go_wp2_with (at_builtin;refine wpl_append rfl (.tmp 9) (.tmp 10) 22 rfl w.heap.size 5 i0 Tryz.underlying22 J0.out J1.out J2.out J3.out _ 0 [] rfl (own_empty w) A len cap xs rfl (HR.out.alloc _) HL.out HC.out (by omega) (by simp) ?_;intro v1 w1 hown1 hg1;have HO1:=hid hown1;clear hown1)
  have hbel:Below w.heap.size w w1:=((Below.refl _ _).alloc (Nat.le_refl _) _).grown hg1 (by simp) (own_block_ge (own_empty w))
  clear hg1
  go_loopw [7,8] (fun v i wr=>∃ k:Nat,k ≤ n∧i = .int .i64 k∧wr.ownsRow w.heap.size 5 1 v (len + k) (asBytes (xs ++ putB x k))∧Below w.heap.size w wr) (fun _ i _=>n - (intOf i).toNat)
  case atStart=>exact ⟨0,by omega,rfl,by simpa [putB] using HO1.out,hbel⟩
  case round =>
    obtain ⟨k,hk,rfl,hown,hbr⟩:=hrel
    clear hbel HO1
    have HO:=hid hown;clear hown
    by_cases hlt:k < n
    · go_wp2_with (at_builtin;refine wpl_append rfl (.tmp 24) (.tmp 31) 22 rfl w.heap.size 5 i0 Tryz.underlying22 J0.out J1.out J2.out J3.out _ (len + k) (xs ++ putB x k) rfl (HO.out.alloc _) (some ⟨wr.heap.size,0,none⟩) 1 1 [x / 2 ^ (8 * k) % 256] rfl (one_cell wr _) rfl (fun h=>by cases h) (by omega) (by have:=hbr.size;simp;omega) ?_;intro v2 w2 hown2 hg2)
      have hsz:=hbr.size
      have hb2:Below w.heap.size w w2:=(hbr.alloc hsz _).grown hg2 (by simp;omega) (own_block_ge HO.out)
      go_roundw
      case rel=>exact ⟨k + 1,by omega,by go_num,by rw [putB_succ,← List.append_assoc];exact hown2,hb2⟩
      case measure=>simp [intOf];omega
    · obtain rfl:k = n:=by omega
      go_wp2
      go_ret
      obtain ⟨B,c,rfl,hrd,_,_⟩:=Rd.of_own HO.out
      exact ⟨B,c,rfl,hrd,hbr⟩

theorem run_made (len c:Nat) (i:TypeInfo) (hi:Tryz.prog.info? 5 = some i) (hz:i.zero = some (.int .u8 0)) (hs:i.size = 1) (hb:i.bytes = 1) (hlc:len ≤ c) (hc:c ≤ 1000000) (w:World) :
    (Instr.makeSlice 22 (.int .i64 (len:Int)) (.int .i64 (c:Int))).run Tryz.prog w = .ok (.slice (some ⟨w.heap.size,0,none⟩) len c) (w.alloc (.cells (madeCells #[.int .u8 0] c) 5)):=by
  have h:=run_make (P:=Tryz.prog) w 22 5 i (.int .u8 0) Tryz.underlying22 hi hz .i64 .i64 len c (by omega) (by omega) (by rw [hb];omega) (by omega)
  simpa [hs,Value.cells] using h
theorem put_in (A:Option Addr) (len cap:Nat) (xs:List Int) (x:Int) (n:Nat) (w:World) (hr:Rd w A xs) (hl:xs.length = len) (hm:len ≤ 5100) (h1:1 ≤ n) (h8:n ≤ 8) :
    Calls Tryz.prog 36 #[.slice A len cap,.int .u64 x,.int .i64 n] w fun e w'=>∃ B c,e = .returned (.slice B (len + n) c)∧Rd w' B (xs ++ putB x n)∧Below w.heap.size w w'∧len + n ≤ c∧∀ ad,B = some ad → w.heap.size ≤ ad.block:=by
  obtain ⟨i0,hi0,hz0,hz1,hz2⟩:=info_parts infoByte
  have hmk:=fun W=>run_made len (len + n) i0 hi0 hz0 hz1 hz2 (by omega) (by omega) W
  have HR:=hid hr;clear hr
  have HL:=hid hl;clear hl
  have J0:=hid hi0;clear hi0
  have J1:=hid hz0;clear hz0
  have J2:=hid hz1;clear hz1
  have J3:=hid hz2;clear hz2
  have e1:decide (1 ≤ (n:Int)∧(n:Int) ≤ 8) = true:=by simp;omega
  have E1:=hid e1;clear e1
  have ec:((len + n:Nat):Int) = (len:Int) + (n:Int):=by omega
  rw [ec] at hmk;clear ec
  obtain ⟨w2,hcp,hown,hgr⟩:=run_copied (P:=Tryz.prog) (w.alloc (.cells (madeCells #[.int .u8 0] (len + n)) 5)) 22 5 3 Tryz.underlying22 sizeByte w.heap.size w.heap.size len (len + n) _ (heap_alloc_new w _) (size_madeCells _ _) (by omega) (by simp only [maxLen];omega) (Nat.le_refl _) A cap xs (HR.out.alloc _) HL.out
  have hbel:Below w.heap.size w w2:=((Below.refl _ _).alloc (Nat.le_refl _) _).grown hgr (by simp) (fun k hk=>by injection hk with hk;omega)
  clear hgr
  have HO1:=hid hown;clear hown
  have HBL:=hid hbel;clear hbel
  go_enter Tryz.func36,Tryz.ntmps36
  go_wp2_with fail
  refine (count_any _ _).mono ?_
  rintro e w' ⟨rfl,rfl⟩
  rw [E1.out]
  go_wp2_with fail
  clear hcp hmk
  go_loopw [7,23] (fun v i wr=>∃ k:Nat,k ≤ n∧i = .int .i64 k∧wr.ownsRow w.heap.size 5 1 v (len + k) (asBytes (xs ++ putB x k))∧Below w.heap.size w wr) (fun _ i _=>n - (intOf i).toNat)
  case atStart=>exact ⟨0,by omega,rfl,by simpa [putB] using HO1.out,HBL.out⟩
  case round =>
    obtain ⟨k,hk,rfl,hown,hbr⟩:=hrel
    clear HBL HO1
    have HO:=hid hown;clear hown
    by_cases hlt:k < n
    · go_wp2_with (at_builtin;refine wpl_append rfl (.tmp 26) (.tmp 32) 22 rfl w.heap.size 5 i0 Tryz.underlying22 J0.out J1.out J2.out J3.out _ (len + k) (xs ++ putB x k) rfl (HO.out.alloc _) (some ⟨wr.heap.size,0,none⟩) 1 1 [x / 2 ^ (8 * k) % 256] rfl (one_cell wr _) rfl (fun h=>by cases h) (by omega) (by have:=hbr.size;simp;omega) ?_;intro v2 w3 hown2 hg2)
      have hsz:=hbr.size
      have hb2:Below w.heap.size w w3:=(hbr.alloc hsz _).grown hg2 (by simp;omega) (own_block_ge HO.out)
      go_roundw
      case rel=>exact ⟨k + 1,by omega,by go_num,by rw [putB_succ,← List.append_assoc];exact hown2,hb2⟩
      case measure=>simp [intOf];omega
    · obtain rfl:k = n:=by omega
      go_wp2
      go_ret
      obtain ⟨B,c,rfl,hrd,_,_,hcc⟩:=Rd.of_own HO.out
      exact ⟨B,c,rfl,hrd,hbr,hcc,fun ad hB=>own_block_ge HO.out ad.block (by rw [hB];rfl)⟩

theorem putB_get (x:Int) (n k:Nat) (h:k < n):(putB x n).getD k 0 = x / 2 ^ (8 * k) % 256:=by
  simp [putB,List.getElem?_range h]
theorem putB_bd (x:Int) (n k:Nat):0 ≤ (putB x n).getD k 0∧(putB x n).getD k 0 ≤ 255:=by
  by_cases h:k < n
  · rw [putB_get x n k h];omega
  · rw [List.getD_eq_getElem?_getD,List.getElem?_eq_none (by rw [putB_length];omega)];simp
end Go.Proofs.YtbngjbmfkekdnaaGreatDoor

namespace Go.Proofs.YtbngjbmfkekdnaaGreatDoor
open Go.RowKit
set_option maxRecDepth 100000
def off (T:Nat → Prop) (v:Value):Nat → Prop:=fun b=>T b∧v.ownBlock ≠ some b
def spX (pm sm:Value) (c l mo ba en:Int):Ctx:=⟨[pm,sm,.int .u64 c,.int .u64 l,.int .i64 mo,.int .u64 ba,.int .u64 en],65,by decide⟩
structure MS (T:Nat → Prop) (w:World) (sb n:Nat) (L:List Rg) (M st:Nat → Int) (mo ba en:Int):Prop where
  ex:∃ rg f k,StoreAt ⟨rg,mo,ba,en⟩ (off T rg) w sb n f k M st∧Row w 0 rg L∧∀ g,rg.ownBlock = some g → T g
  rs:Rs L
  few:L.length ≤ 256
  by_:∀ x,0 ≤ M x∧M x ≤ 255
  mo_:0 ≤ mo∧mo ≤ 4096
  heap:0 ≤ ba∧ba ≤ 274877906944∧0 ≤ en∧en ≤ 274877906944
section
variable {T:Nat → Prop} {w w':World} {sb n:Nat} {L:List Rg} {M st:Nat → Int} {mo ba en:Int}
theorem MS.bl (h:MS T w sb n L M st mo ba en) (k:Bl w w'):MS T w' sb n L M st mo ba en:=by
  obtain ⟨rg,f,k0,h1,h2,h3⟩:=h.ex
  exact ⟨⟨rg,f,k0,h1.bl k,h2.bl k,h3⟩,h.rs,h.few,h.by_,h.mo_,h.heap⟩
theorem MS.so (h:MS T w sb n L M st mo ba en):So 0 274877906944 L:=h.rs.nm.so
theorem MS.own (h:MS T w sb n L M st mo ba en):T sb:=by
  obtain ⟨rg,f,k0,⟨pm,sm,c,l,h1⟩,h2,h3⟩:=h.ex
  exact h1.own.1
theorem MS.lt (h:MS T w sb n L M st mo ba en):sb < w.heap.size:=by
  obtain ⟨rg,f,k0,⟨pm,sm,c,l,h1⟩,h2,h3⟩:=h.ex
  exact h1.lt
theorem MS.mono (h:MS T w sb n L M st mo ba en) {m:Nat} (hn:n ≤ m):MS T w sb m L M st mo ba en:=by
  obtain ⟨rg,f,k0,h1,h2,h3⟩:=h.ex
  exact ⟨⟨rg,f,k0,h1.mono hn,h2,h3⟩,h.rs,h.few,h.by_,h.mo_,h.heap⟩
theorem MS.kept (h:MS T w sb n L M st mo ba en) {U:Nat → Prop} (hf:Fr U w w') (hd:∀ b,T b → ¬ U b):MS T w' sb n L M st mo ba en:=by
  obtain ⟨rg,f,k0,h1,h2,h3⟩:=h.ex
  exact ⟨⟨rg,f,k0,h1.kept hf (fun b e=>hd b e.1),h2.kept (fun g hg=>hf.block g (h2.lt g hg).2 (hd g (h3 g hg))),h3⟩,h.rs,h.few,h.by_,h.mo_,h.heap⟩
theorem MS.among (h:MS T w sb n L M st mo ba en) {U:Nat → Prop} (hs:∀ b,b < w.heap.size → T b → U b):MS U w sb n L M st mo ba en:=by
  obtain ⟨rg,f,k0,h1,h2,h3⟩:=h.ex
  exact ⟨⟨rg,f,k0,h1.among fun b hb e=>⟨hs b hb e.1,e.2⟩,h2,fun g hg=>hs g (h2.lt g hg).2 (h3 g hg)⟩,h.rs,h.few,h.by_,h.mo_,h.heap⟩
theorem MS.list (h:MS T w sb n L M st mo ba en):∃ X,ListAt X w sb L:=by
  obtain ⟨rg,f,k0,⟨pm,sm,c,l,h1⟩,h2,h3⟩:=h.ex
  exact ⟨spX pm sm c l mo ba en,rg,h1.blk,h2⟩
theorem MS.cells (h:MS T w sb n L M st mo ba en):w.cell? ⟨sb,5,none⟩ = some (.int .i64 mo)∧w.cell? ⟨sb,6,none⟩ = some (.int .u64 ba)∧w.cell? ⟨sb,7,none⟩ = some (.int .u64 en):=by
  obtain ⟨rg,f,k0,⟨pm,sm,c,l,h1⟩,h2,h3⟩:=h.ex
  have:=h1.blk
  refine ⟨?_,?_,?_⟩ <;> simp [World.cell?,this]
theorem MS.cell0 (h:MS T w sb n L M st mo ba en):∃ v,w.cell? ⟨sb,0,none⟩ = some v:=by
  obtain ⟨rg,f,k0,⟨pm,sm,c,l,h1⟩,h2,h3⟩:=h.ex
  have:=h1.blk
  exact ⟨rg,by simp [World.cell?,this]⟩
theorem MS.free (h:MS T w sb n L M st mo ba en) (i:Nat):w.frozen? ⟨sb,i,none⟩ = false:=by
  obtain ⟨rg,f,k0,⟨pm,sm,c,l,h1⟩,h2,h3⟩:=h.ex
  exact h1.free i
theorem off_new {T:Nat → Prop} {w:World} {rg:Value} {L:List Rg} {base:Nat} (hr:Row w base rg L) (hT:∀ b,w.heap.size ≤ b → T b):∀ b,w.heap.size ≤ b → off T rg b:=fun b hb=>⟨hT b hb,fun e=>by have:=(hr.lt b e).2;omega⟩
theorem SA.list {T:Nat → Prop} {w w':World} {sb n k:Nat} {f:Nat → Option Nat} {M st:Nat → Int} {pm sm:Value} {c l:Int} {rg v:Value} {mo ba en:Int} {L':List Rg} (h:SA ⟨rg,mo,ba,en⟩ (off T rg) w sb n f k M st pm sm c l) (hr:Row w' w.heap.size v L')
    (hb:w'.heap[sb]? = some (.cells #[v,pm,sm,.int .u64 c,.int .u64 l,.int .i64 mo,.int .u64 ba,.int .u64 en] 65 (0,0))) (hf:Fr (only sb) w w'):SA ⟨v,mo,ba,en⟩ (off T v) w' sb n f k M st pm sm c l:=by
  have h1:SA ⟨rg,mo,ba,en⟩ (off T v) w sb n f k M st pm sm c l:=h.among fun b hb hS=>⟨hS.1,fun e=>by have:=(hr.lt b e).1;omega⟩
  refine SA.cells (Y':=⟨v,mo,ba,en⟩) h1 (fun x hx hne=>hf.block x hx (fun e=>hne e)) hb h.lw h.top (h1.pages.kept fun B hB=>?_) (h1.stamps.kept fun B hB=>?_) h.apart
  · obtain ⟨_,es,q,h2⟩:=h1.pages.isMap hB
    rw [hf.at_ h2 (fun e=>by have:=h.blk;rw [← show B = sb from e,h2] at this;cases this),h2]
  · obtain ⟨_,es,q,h2⟩:=h1.stamps.isMap hB
    rw [hf.at_ h2 (fun e=>by have:=h.blk;rw [← show B = sb from e,h2] at this;cases this),h2]
theorem Fr.only_of {T:Nat → Prop} {w w':World} {sb:Nat} (h:Fr (only sb) w w') (hT:T sb):Fr T w w':=h.mono fun k _ e=>by rw [show k = sb from e];exact hT
theorem MS.laid (h:MS T w sb n L M st mo ba en) {X:Ctx} (hX:ListAt X w sb L) {L':List Rg} (hl:ListFrom X w.heap.size w' sb L') (hf:Fr (only sb) w w') (hrs:Rs L') (hfew:L'.length ≤ 256) (hT:∀ b,w.heap.size ≤ b → T b):MS T w' sb n L' M st mo ba en:=by
  obtain ⟨rg,f,k0,⟨pm,sm,c,l,h1⟩,h2,h3⟩:=h.ex
  obtain ⟨v0,b0,_⟩:=hX
  obtain ⟨v,b1,r1⟩:=hl
  rw [h1.blk] at b0
  injection b0 with b0
  injection b0 with b0 bt
  have e0:[rg,pm,sm,.int .u64 c,.int .u64 l,.int .i64 mo,.int .u64 ba,.int .u64 en] = v0 :: X.rest:=by simpa using congrArg Array.toList b0
  injection e0 with _ e0
  rw [← e0,← bt] at b1
  refine ⟨⟨v,f,k0,⟨pm,sm,c,l,h1.list r1 b1 hf⟩,r1.base_ (b2:=0) (fun g _=>Nat.zero_le g),fun g hg=>hT g (r1.lt g hg).1⟩,hrs,hfew,h.by_,h.mo_,h.heap⟩
theorem MS.stored (h:MS T w sb n L M st mo ba en) {rg:Value} (hr:Row w 0 rg L) (hg:∀ g,rg.ownBlock = some g → T g) {f:Nat → Option Nat} {k m:Nat} {M' st':Nat → Int} (hs:StoreAt ⟨rg,mo,ba,en⟩ (off T rg) w' sb m f k M' st') (hf:Fr (off T rg) w w') (hb:∀ x,0 ≤ M' x∧M' x ≤ 255):MS T w' sb m L M' st' mo ba en:=
  ⟨⟨rg,f,k,hs,hr.kept (fun g hg=>hf.block g (hr.lt g hg).2 (fun e=>e.2 hg)),hg⟩,h.rs,h.few,hb,h.mo_,h.heap⟩
theorem Fr.off_of {T:Nat → Prop} {v:Value} {w w':World} (h:Fr (off T v) w w'):Fr T w w':=h.mono fun _ _ e=>e.1
end
def gap (T:Nat → Prop) (lo hi:Nat):Nat → Prop:=fun b=>T b∧¬ (lo ≤ b∧b < hi)
theorem MS.gap {T:Nat → Prop} {w w':World} {sb n:Nat} {L:List Rg} {M st:Nat → Int} {mo ba en:Int} (h:MS T w sb n L M st mo ba en) (k:Bl w w') (lo hi:Nat) (hlo:w.heap.size ≤ lo):MS (gap T lo hi) w' sb n L M st mo ba en:=
  (h.among (U:=YtbngjbmfkekdnaaGreatDoor.gap T lo hi) fun b hb e=>⟨e,fun e2=>by omega⟩).bl k
theorem MS.ungap {T:Nat → Prop} {w:World} {sb n:Nat} {L:List Rg} {M st:Nat → Int} {mo ba en:Int} {lo hi:Nat} (h:MS (YtbngjbmfkekdnaaGreatDoor.gap T lo hi) w sb n L M st mo ba en):MS T w sb n L M st mo ba en:=h.among fun b _ e=>e.1
theorem gap_new {T:Nat → Prop} {w w':World} (hT:∀ b,w.heap.size ≤ b → T b) (lo:Nat) (k:w.heap.size ≤ w'.heap.size):∀ b,w'.heap.size ≤ b → gap T lo w'.heap.size b:=fun b hb=>⟨hT b (by omega),fun e=>by omega⟩
theorem Fr.ungap {T:Nat → Prop} {w w':World} {lo hi:Nat} (h:Fr (gap T lo hi) w w'):Fr T w w':=h.mono fun _ _ e=>e.1
theorem mnew_any (T:Nat → Prop) (m:Int) (w:World) (hT:T w.heap.size) (h0:0 ≤ m) (h1:m ≤ 4096):Calls Tryz.prog 6 #[.int .i64 m] w fun e w'=>e = .returned (addr0 w.heap.size)∧MS T w' w.heap.size 0 [] (fun _=>0) (fun _=>0) m 0 0∧Bl w w'∧w'.heap.size = w.heap.size + 1:=by
  have mx:∀ ts t W,(Builtin.max_ ts t #[.int .i64 m,.int .i64 0]).run Tryz.prog W = .ok (.int .i64 m) W:=fun ts t W=>by
    rw [max_run];congr 2;split <;> omega
  unfold addr0
  go_enter Tryz.func6,Tryz.ntmps6
  go_wp2
  go_ret
  refine ⟨rfl,⟨⟨.slice none 0 0,fun _=>none,0,⟨.map none,.map none,0,0,?_⟩,RowG.nil,fun g hg=>by cases hg⟩,Rs.nil,by simp,fun _=>by omega,⟨h0,h1⟩,by omega⟩,Bl.new _ _,by simp⟩
  exact ⟨heap_alloc_new w _,⟨hT,fun e=>by cases e⟩,by omega,fun _ _=>Int.le_refl _,.inl ⟨rfl,fun _=>rfl,rfl⟩,.inl ⟨rfl,fun _ _=>rfl⟩,fun B h=>(by cases h),fun p b h=>(by cases h),fun p q b h=>(by cases h),fun _ _ _ _=>rfl,fun p b h=>(by cases h)⟩
theorem misProt_yes (p:Int) (w:World) (h0:0 ≤ p) (h1:p ≤ 7):Calls Tryz.prog 25 #[.int .i64 p] w fun x w'=>x = .returned (.bool true)∧w = w':=by
  go_enter Tryz.func25,Tryz.ntmps25
  go_wp2
  go_ret
  exact ⟨rfl,rfl⟩
def upW (n:Int):Int:=IntKind.u64.wrap (n + 4095) / 4096 * 4096
theorem upW_in {n:Int} (h0:0 ≤ n) (h1:n ≤ 274877906944):upW n = (n + 4095) / 4096 * 4096:=by unfold upW;rw [IntWalk.u64_in _ (by omega)]
theorem mup_any (n:Int) (w:World):Calls Tryz.prog 26 #[.int .u64 n] w fun e w'=>e = .returned (.int .u64 (upW n))∧w = w':=by
  go_enter Tryz.func26,Tryz.ntmps26
  go_wp2
  go_ret
  have hw:=wrap_in (n + 4095)
  refine ⟨?_,rfl⟩
  show Ending.returned (.int .u64 (IntKind.u64.wrap (IntKind.u64.wrap (n + 4095) - (IntKind.u64.wrap (n + 4095)).tmod 4096))) = _
  unfold upW
  congr 2
  rw [Int.tmod_eq_emod_of_nonneg hw.1,IntWalk.u64_in _ (by omega)]
  omega
end Go.Proofs.YtbngjbmfkekdnaaGreatDoor
