/-
  Part of the proof.
-/
import Derived.Test.YtlhpodholnfppaaGreatDoorZ1
import Derived.Lib.SliceRun
import Derived.Laws.ResultCell
import Derived.Deep.Cut
import Derived.IntWalk
import Derived.StillTailTactics
import Derived.Shelf.SlMaps.Clone
set_option linter.unusedVariables false
set_option linter.unusedSimpArgs false
set_option maxHeartbeats 16000000
set_option maxRecDepth 100000
set_option linter.defProp false
open Go.Lib (hid)
namespace Go.Proofs.YtlhpodholnfppaaGreatDoor
open Go.Proofs.Tryz
open Go.RowKit
theorem flat_set (A:List Rg) (q:Rg) (x:Int):(flat rgC (A++[q])).set (A.length*3+1) (.int .u64 x)=flat rgC (A++[⟨q.s,x,q.p⟩]):=by
 rw [zCB,zCB];have hl:=zAv zDk A;rw [List.set_append,if_neg (by omega),hl,show A.length*3+1 - A.length*3=1 by omega]
 rfl
variable {b bM base cap g n:Nat} {w w':World}
theorem zIY {A:List Rg} {q:Rg} (h:Row w base (.slice (some ⟨g,0,none⟩) n cap) (A++[q])) (x:Int):
  Row (w.setCell ⟨g,A.length*3+1,none⟩ (.int .u64 x)) base (.slice (some ⟨g,0,none⟩) n cap) (A++[⟨q.s,x,q.p⟩]):=by
 have hn:n=(A++[q]).length:=by
  obtain ⟨_,_,_,h1,_⟩:=h.form (by simp);injection h1
 subst hn;refine ⟨?_,fun e=>by simp at e⟩;have h1:=h.1.stored (A.length*3+1) (.int .u64 x);rw [flat_set] at h1
 simpa using h1.1
def JoinPost (base:Nat) (w:World) (L:List Rg) (e:Ending) (w':World):Prop:=∃ v,e=.returned v∧Row w' base v L∧Below base w w'
theorem join_take (L M:List Rg) (k:Nat) (r:Rg) (hk:M[k]?=some r):join L (M.take (k+1))=zAO (join L (M.take k)) r:=by
 rw [List.take_add_one,hk];simp [join,List.foldl_append]
theorem joinOne_len (L:List Rg) (r:Rg):(zAO L r).length≤L.length+1:=by
 rcases last_cases L with rfl|⟨A,q,rfl⟩
 ·simp [zBx]
 ·by_cases hc:q.e=r.s∧q.p=r.p
  ·rw [zBw A q r hc.1 hc.2];simp
  ·rw [zBc A q r hc];simp
theorem zCO (L M:List Rg):(join L M).length≤L.length+M.length:=by
 induction M generalizing L with
 | nil=>simp [join]
 | cons r M ih =>
  have:=ih (zAO L r)
  have:=joinOne_len L r
  show (join (zAO L r) M).length≤_;simp only [List.length_cons];omega
structure JR (w:World) (base:Nat) (L M:List Rg) (bM:Nat) (vM:Value) (k:Nat) (v0:Value) (wr:World):Prop where
 row:Row wr base v0 (join L (M.take k))
 more:Row wr bM vM M
 apart:∀ g,vM.ownBlock=some g→v0.ownBlock≠some g
 below:Below base w wr
variable {L L':List Rg} {vM:Value}
theorem zDQ {vL:Value} {M:List Rg} (hL:Row w base vL L) (hM:Row w bM vM M) (hne:∀ g,vM.ownBlock=some g→vL.ownBlock≠some g) (hbase:base≤w.heap.size) (hl1:L.length≤10000) (hl2:M.length≤10000):
  Calls prog 146 #[vL,vM] w (JoinPost base w (join L M)):=by
 obtain ⟨A,cap,rfl⟩:=hM.shape;have h0:JR w base L M bM (.slice A M.length cap) 0 vL w:=⟨hL,hM,hne,Below.refl _ _⟩;have H0:=hid h0;clear h0 hL hM hne;have hlI:(M.length:Int)≤10000:=by omega
 obtain ⟨n,hn⟩:∃ n,n=M.length:=⟨_,rfl⟩;rw [← hn] at hlI H0 ⊢;have HN:=hid hn;clear hn;have HL1:=hid hl1;clear hl1;have HL2:=hid hl2;clear hl2;have HBASE:=hid hbase;clear hbase;go_enter func146,ntmps146;go_wp2_with fail
 go_loopw [0,6,7,10] (fun v0 _ _ i wr=>∃ k:Nat,k≤n∧i=.int .i64 k∧JR w base L M bM (.slice A n cap) k v0 wr) (fun _ _ _ i _=>n - (intOf i).toNat)
 case atStart=>exact ⟨0,by omega,rfl,H0.out⟩
 case round =>
  obtain ⟨k,hk,rfl,hj⟩:=hrel;clear H0;have HJ:=hid hj;clear hj;by_cases hlt:k<n
  ·have hltL:k<M.length:=by have:=HN.out;omega
   obtain ⟨r,hr⟩:∃ r,M[k]?=some r:=⟨M[k],List.getElem?_eq_getElem hltL⟩;have hne:M≠[]:=by intro e;rw [e] at hltL;simp at hltL
   obtain ⟨g,cap',cur,hA,_,hnc,hg,_⟩:=HJ.out.more.form hne;have hA':A=some ⟨g,0,none⟩:=by injection hA
   subst hA';obtain ⟨c0,c1,c2⟩:=zBt HJ.out.more k r hr;clear hA hnc hg hne hltL;have hstep:=join_take L M k r hr;have HRK:=hid hr;clear hr;have hkI:(k:Int)<(n:Int):=by omega
   rename_i v0 _ _ _
   obtain ⟨J,hJ⟩:∃ J,J=join L (M.take k):=⟨_,rfl⟩;have hrow:=HJ.out.row;rw [← hJ] at hrow hstep;have hjl:J.length≤20000:=by
    have h1:=zCO L (M.take k);have h2:=HL1.out;have h3:=HL2.out;rw [← hJ,List.length_take] at h1;omega
   have HS:=hid hstep;clear hstep;have HJE:=hid hJ;clear hJ;have HJL:=hid hjl;clear hjl;rcases last_cases J with rfl|⟨B,q,rfl⟩
   ·obtain rfl:=hrow.2 rfl;have HAP:=hid HJ.out.apart;have hW:∀ j,(wr.alloc (.cells #[.int .u64 r.s,.int .u64 r.e,.int .i64 r.p] 112)).cell? ⟨wr.heap.size,j,none⟩=(#[.int .u64 r.s,.int .u64 r.e,.int .i64 r.p]:Array Value)[j]?:=fun j=>cell_of_row _ _ j _ 112 (0,0) (heap_alloc_new wr _)
    have b0:(wr.alloc (.cells #[.int .u64 r.s,.int .u64 r.e,.int .i64 r.p] 112)).cell? ⟨wr.heap.size,0,none⟩=some (.int .u64 r.s):=hW 0;have b1:(wr.alloc (.cells #[.int .u64 r.s,.int .u64 r.e,.int .i64 r.p] 112)).cell? ⟨wr.heap.size,1,none⟩=some (.int .u64 r.e):=hW 1;have b2:(wr.alloc (.cells #[.int .u64 r.s,.int .u64 r.e,.int .i64 r.p] 112)).cell? ⟨wr.heap.size,2,none⟩=some (.int .i64 r.p):=hW 2;have hrow2:=hrow.bl (Bl.new wr (.cells #[.int .u64 r.s,.int .u64 r.e,.int .i64 r.p] 112));have hmore2:=HJ.out.more.bl (Bl.new wr (.cells #[.int .u64 r.s,.int .u64 r.e,.int .i64 r.p] 112));have hbb:base≤wr.heap.size:=Nat.le_trans HBASE.out HJ.out.below.size;have hbel2:=HJ.out.below.alloc hbb (.cells #[.int .u64 r.s,.int .u64 r.e,.int .i64 r.p] 112);have hbw:base≤(wr.alloc (.cells #[.int .u64 r.s,.int .u64 r.e,.int .i64 r.p] 112)).heap.size:=by simp;omega
    clear hW hbb hrow;have HROW2:=hid hrow2;clear hrow2;have HMORE2:=hid hmore2;clear hmore2;have HBEL2:=hid hbel2;clear hbel2;have HBW:=hid hbw;clear hbw;go_wp2_with fail;generalize wr.alloc (.cells #[.int .u64 r.s,.int .u64 r.e,.int .i64 r.p] 112)=W at *;go_quiet (fail)
    have hrowD:Row ((W.drewN nq).alloc (.cells #[.int .u64 r.s,.int .u64 r.e,.int .i64 r.p] 112)) base (.slice none 0 0) []:=(HROW2.out.bl ((Bl.refl W).drewN nq)).bl (Bl.new _ _);have hbel:Below base w ((W.drewN nq).alloc (.cells #[.int .u64 r.s,.int .u64 r.e,.int .i64 r.p] 112)):=(HBEL2.out.trans (((Bl.refl W).drewN nq).mono HBW.out)).alloc HBW.out _;obtain ⟨v',W',hrun,hrow3,hgr,hown⟩:=zCm hrowD ⟨r.s,r.e,r.p⟩ W.heap.size 95 (heap_alloc_new (W.drewN nq) _) (by have:=HJL.out;omega) (Nat.le_trans HBW.out (by simp));have hmore:Row W' bM (.slice (some ⟨g,0,none⟩) n cap) M:=(HMORE2.out.bl (((Bl.refl W).drewN nq).alloc (.cells #[.int .u64 r.s,.int .u64 r.e,.int .i64 r.p] 112))).kept fun g' hg'=>by
     have e:g=g':=by simpa [Value.ownBlock] using hg'
     subst e;exact hgr.block g (Nat.lt_of_lt_of_le (HMORE2.out.lt g rfl).2 (by simp)) (fun e=>HAP.out g rfl e.symm)
    have hj2:JR w base L M bM (.slice (some ⟨g,0,none⟩) n cap) (k+1) v' W':=⟨by rw [HS.out,zBx];exact hrow3,hmore,fun g' hg' e=>by
     have e2:g=g':=by simpa [Value.ownBlock] using hg'
     subst e2;rcases hown with e3|e3
     ·rw [e3] at e;exact HAP.out g rfl e
     ·rw [e3] at e
      have:=(HMORE2.out.lt g rfl).2
      have e4:((W.drewN nq).alloc (.cells #[.int .u64 r.s,.int .u64 r.e,.int .i64 r.p] 112)).heap.size=g:=by simpa using e
      simp at e4;omega,hbel.grown hgr (Nat.le_trans HBW.out (by simp)) (fun q' hq'=>(hrowD.lt q' hq').1)⟩
    have HJ2:=hid hj2;clear hj2 hmore hrow3 hgr hown hrowD hbel;have HRUN:=hid hrun;clear hrun;go_wp2_with (first|(at_builtin;refine zY rfl (.tmp 45) (.tmp 47) 95 rfl _ _ _ rfl rfl HRUN.out ?_));refine ⟨⟨k+1,by omega,by go_num,HJ2.out⟩,?_⟩;simp only [intOf];omega
   ·
    have HAP:=hid HJ.out.apart;have hW:∀ j,(wr.alloc (.cells #[.int .u64 r.s,.int .u64 r.e,.int .i64 r.p] 112)).cell? ⟨wr.heap.size,j,none⟩=(#[.int .u64 r.s,.int .u64 r.e,.int .i64 r.p]:Array Value)[j]?:=fun j=>cell_of_row _ _ j _ 112 (0,0) (heap_alloc_new wr _)
    have b0:(wr.alloc (.cells #[.int .u64 r.s,.int .u64 r.e,.int .i64 r.p] 112)).cell? ⟨wr.heap.size,0,none⟩=some (.int .u64 r.s):=hW 0;have b1:(wr.alloc (.cells #[.int .u64 r.s,.int .u64 r.e,.int .i64 r.p] 112)).cell? ⟨wr.heap.size,1,none⟩=some (.int .u64 r.e):=hW 1;have b2:(wr.alloc (.cells #[.int .u64 r.s,.int .u64 r.e,.int .i64 r.p] 112)).cell? ⟨wr.heap.size,2,none⟩=some (.int .i64 r.p):=hW 2;have hrow2:=hrow.bl (Bl.new wr (.cells #[.int .u64 r.s,.int .u64 r.e,.int .i64 r.p] 112));have hmore2:=HJ.out.more.bl (Bl.new wr (.cells #[.int .u64 r.s,.int .u64 r.e,.int .i64 r.p] 112));have hbb:base≤wr.heap.size:=Nat.le_trans HBASE.out HJ.out.below.size;have hbel2:=HJ.out.below.alloc hbb (.cells #[.int .u64 r.s,.int .u64 r.e,.int .i64 r.p] 112);have hbw:base≤(wr.alloc (.cells #[.int .u64 r.s,.int .u64 r.e,.int .i64 r.p] 112)).heap.size:=by simp;omega
    clear hW hbb hrow;have HROW2:=hid hrow2;clear hrow2;have HMORE2:=hid hmore2;clear hmore2;have HBEL2:=hid hbel2;clear hbel2;have HBW:=hid hbw;clear hbw;have hq:(B++[q])[B.length]?=some q:=by simp
    obtain ⟨g0,cap0,_,hv0,hbg0,_,_,_⟩:=HROW2.out.form (by simp);simp only [List.length_append,List.length_singleton] at hv0;subst hv0;obtain ⟨d0,d1,d2⟩:=zBt HROW2.out B.length q hq;have hBl:B.length≤20000:=by have:=HJL.out;simp at this;omega
    have HE:=hid (zIY HROW2.out r.e);clear hq;obtain ⟨j,hj⟩:∃ j,j=B.length:=⟨_,rfl⟩;rw [← hj] at d0 d1 d2 hBl HE HROW2 HAP HJ ⊢;have HJJ:=hid hj;clear hj;have fz:=HROW2.out.free (j*3+1);have hjI:(j:Int)≤20000:=by omega
    by_cases e1:q.e=r.s
    ·have t1:(q.e==r.s)=true:=by simp [e1]
     by_cases e2:q.p=r.p
     ·have t2:(q.p==r.p)=true:=by simp [e2]
      have HJY:=hid (zBw B q r e1 e2);clear e1 e2;go_wp2_with fail;generalize wr.alloc (.cells #[.int .u64 r.s,.int .u64 r.e,.int .i64 r.p] 112)=W at *;go_quiet (fail)
      have hrowE:=zIY (HROW2.out.bl ((Bl.refl W).drewN nq)) r.e;rw [← HJJ.out] at hrowE;have hj2:JR w base L M bM (.slice (some ⟨g,0,none⟩) n cap) (k+1) (.slice (some ⟨g0,0,none⟩) (j+1) cap0) ((W.drewN nq).setCell ⟨g0,j*3+1,none⟩ (.int .u64 r.e)):=⟨by rw [HS.out,HJY.out];exact hrowE,(HMORE2.out.bl ((Bl.refl W).drewN nq)).kept fun g' hg'=>Below.heap_setCell _ _ _ _ (fun e=>by
       have e2:g=g':=by simpa [Value.ownBlock] using hg'
       exact HAP.out g rfl (by rw [e2,e];rfl)),fun g' hg'=>HAP.out g' hg',(HBEL2.out.trans (((Bl.refl W).drewN nq).mono HBW.out)).setCell hbg0 _⟩
      have HJ2:=hid hj2;clear hj2 hrowE;go_wp2_with fail;refine ⟨⟨k+1,by omega,by go_num,HJ2.out⟩,?_⟩;simp only [intOf];omega
     ·have t2:(q.p==r.p)=false:=by simp [e2]
      have HJN:=hid (zBc B q r (fun h=>e2 h.2));clear e1 e2;go_wp2_with fail;generalize wr.alloc (.cells #[.int .u64 r.s,.int .u64 r.e,.int .i64 r.p] 112)=W at *;go_quiet (fail)
      have hrowD:Row ((W.drewN nq).alloc (.cells #[.int .u64 r.s,.int .u64 r.e,.int .i64 r.p] 112)) base (.slice (some ⟨g0,0,none⟩) (j+1) cap0) (B++[q]):=(HROW2.out.bl ((Bl.refl W).drewN nq)).bl (Bl.new _ _);have hbel:Below base w ((W.drewN nq).alloc (.cells #[.int .u64 r.s,.int .u64 r.e,.int .i64 r.p] 112)):=(HBEL2.out.trans (((Bl.refl W).drewN nq).mono HBW.out)).alloc HBW.out _;obtain ⟨v',W',hrun,hrow3,hgr,hown⟩:=zCm hrowD ⟨r.s,r.e,r.p⟩ W.heap.size 95 (heap_alloc_new (W.drewN nq) _) (by have:=HJL.out;omega) (Nat.le_trans HBW.out (by simp));have hmore:Row W' bM (.slice (some ⟨g,0,none⟩) n cap) M:=(HMORE2.out.bl (((Bl.refl W).drewN nq).alloc (.cells #[.int .u64 r.s,.int .u64 r.e,.int .i64 r.p] 112))).kept fun g' hg'=>by
       have e:g=g':=by simpa [Value.ownBlock] using hg'
       subst e;exact hgr.block g (Nat.lt_of_lt_of_le (HMORE2.out.lt g rfl).2 (by simp)) (fun e=>HAP.out g rfl e.symm)
      have hj2:JR w base L M bM (.slice (some ⟨g,0,none⟩) n cap) (k+1) v' W':=⟨by rw [HS.out,HJN.out];exact hrow3,hmore,fun g' hg' e=>by
       have e2:g=g':=by simpa [Value.ownBlock] using hg'
       subst e2;rcases hown with e3|e3
       ·rw [e3] at e;exact HAP.out g rfl e
       ·rw [e3] at e
        have:=(HMORE2.out.lt g rfl).2
        have e4:((W.drewN nq).alloc (.cells #[.int .u64 r.s,.int .u64 r.e,.int .i64 r.p] 112)).heap.size=g:=by simpa using e
        simp at e4;omega,hbel.grown hgr (Nat.le_trans HBW.out (by simp)) (fun q' hq'=>(hrowD.lt q' hq').1)⟩
      have HJ2:=hid hj2;clear hj2 hmore hrow3 hgr hown hrowD hbel;have HRUN:=hid hrun;clear hrun;go_wp2_with (first|(at_builtin;refine zY rfl (.tmp 45) (.tmp 47) 95 rfl _ _ _ rfl rfl HRUN.out ?_));refine ⟨⟨k+1,by omega,by go_num,HJ2.out⟩,?_⟩;simp only [intOf];omega
    ·have t1:(q.e==r.s)=false:=by simp [e1]
     have HJN:=hid (zBc B q r (fun h=>e1 h.1));clear e1;go_wp2_with fail;generalize wr.alloc (.cells #[.int .u64 r.s,.int .u64 r.e,.int .i64 r.p] 112)=W at *;go_quiet (fail)
     have hrowD:Row ((W.drewN nq).alloc (.cells #[.int .u64 r.s,.int .u64 r.e,.int .i64 r.p] 112)) base (.slice (some ⟨g0,0,none⟩) (j+1) cap0) (B++[q]):=(HROW2.out.bl ((Bl.refl W).drewN nq)).bl (Bl.new _ _);have hbel:Below base w ((W.drewN nq).alloc (.cells #[.int .u64 r.s,.int .u64 r.e,.int .i64 r.p] 112)):=(HBEL2.out.trans (((Bl.refl W).drewN nq).mono HBW.out)).alloc HBW.out _;obtain ⟨v',W',hrun,hrow3,hgr,hown⟩:=zCm hrowD ⟨r.s,r.e,r.p⟩ W.heap.size 95 (heap_alloc_new (W.drewN nq) _) (by have:=HJL.out;omega) (Nat.le_trans HBW.out (by simp));have hmore:Row W' bM (.slice (some ⟨g,0,none⟩) n cap) M:=(HMORE2.out.bl (((Bl.refl W).drewN nq).alloc (.cells #[.int .u64 r.s,.int .u64 r.e,.int .i64 r.p] 112))).kept fun g' hg'=>by
      have e:g=g':=by simpa [Value.ownBlock] using hg'
      subst e;exact hgr.block g (Nat.lt_of_lt_of_le (HMORE2.out.lt g rfl).2 (by simp)) (fun e=>HAP.out g rfl e.symm)
     have hj2:JR w base L M bM (.slice (some ⟨g,0,none⟩) n cap) (k+1) v' W':=⟨by rw [HS.out,HJN.out];exact hrow3,hmore,fun g' hg' e=>by
      have e2:g=g':=by simpa [Value.ownBlock] using hg'
      subst e2;rcases hown with e3|e3
      ·rw [e3] at e;exact HAP.out g rfl e
      ·rw [e3] at e
       have:=(HMORE2.out.lt g rfl).2
       have e4:((W.drewN nq).alloc (.cells #[.int .u64 r.s,.int .u64 r.e,.int .i64 r.p] 112)).heap.size=g:=by simpa using e
       simp at e4;omega,hbel.grown hgr (Nat.le_trans HBW.out (by simp)) (fun q' hq'=>(hrowD.lt q' hq').1)⟩
     have HJ2:=hid hj2;clear hj2 hmore hrow3 hgr hown hrowD hbel;have HRUN:=hid hrun;clear hrun;go_wp2_with (first|(at_builtin;refine zY rfl (.tmp 45) (.tmp 47) 95 rfl _ _ _ rfl rfl HRUN.out ?_));refine ⟨⟨k+1,by omega,by go_num,HJ2.out⟩,?_⟩;simp only [intOf];omega
  ·obtain rfl:k=n:=by omega
   have hfin:=HJ.out.row;rw [HN.out,List.take_length] at hfin;have HF:=hid hfin;clear hfin;go_wp2_with fail;go_ret;exact ⟨_,rfl,HF.out,HJ.out.below⟩
variable {X:Ctx}
theorem zAT.bl (h:zAT X base w b L) (k:Bl w w'):zAT X base w' b L:=by
 obtain ⟨v,h1,h2⟩:=h;exact ⟨v,k.at_ h1,h2.bl k⟩
theorem zAT.at0 (h:zAT X base w b L):zCG X w b L:=by
 obtain ⟨v,h1,h2⟩:=h;exact ⟨v,h1,h2.zJX (b2:=0) (fun g hg=>Nat.zero_le _)⟩
theorem zAT.mono {b2:Nat} (h:zAT X base w b L) (hb:b2≤base):zAT X b2 w b L:=by
 obtain ⟨v,h1,h2⟩:=h;exact ⟨v,h1,h2.zJX (fun g hg=>Nat.le_trans hb (h2.lt g hg).1)⟩
theorem zAT.lt (h:zAT X base w b L):b<w.heap.size:=by
 obtain ⟨v,h1,h2⟩:=h;exact zG h1
theorem zAT.set {v:Value} (h:zCG X w b L) (hr:Row w base v L'):zAT X base (w.setCell ⟨b,0,none⟩ v) b L':=by
 obtain ⟨v0,h1,h2⟩:=h;refine ⟨v,?_,hr.kept fun g hg=>Below.heap_setCell _ _ _ _ (fun e=>?_)⟩
 ·rw [heap_setCell_same w b 0 _ X.t v h1];simp
 ·obtain ⟨cur,hcur⟩:=hr.type hg;rw [show g=b from e,h1] at hcur;injection hcur with hcur;injection hcur with _ h3;exact X.ne h3
def only (b:Nat):Nat→Prop:=fun k=>k=b
def zKk (X:Ctx) (w:World) (b:Nat) (L:List Rg) (e:Ending) (w':World):Prop:=e=.returned (.int .i64 0)∧zAT X w.heap.size w' b L∧Fr (only b) w w'
def zGy (w:World) (n:Int) (e:Ending) (w':World):Prop:=e=.returned (.int .i64 n)∧Bl w w'
theorem lay_ok {M:List Rg} (h:zCG X w b L) (s e:Int) (hM:Row w bM vM M) (hl:L.length≤256) (hm:M.length≤1) (hc:(layL L s e M).length≤256):
  Calls prog 111 #[zB b,.int .u64 s,.int .u64 e,vM] w (zKk X w b (layL L s e M)):=by
 obtain ⟨vb,hvb,hvr⟩:=id h;have hcell:w.frozen? ⟨b,0,none⟩=false:=by simp [World.frozen?,hvb]
 have hcell2:w.cell? ⟨b,0,none⟩=some vb:=by rw [cell_of_row w b 0 _ _ (0,0) hvb];simp
 have cw1:=zDK h 0 s (by omega);have hw1:=zBV L 0 s;have hw2:=zBV L e 274877906944;have hj1:=zCO [] (within L 0 s);have hj2:=zCO (join [] (within L 0 s)) M;have hj3:=zCO (join (join [] (within L 0 s)) M) (within L e 274877906944);have hblt:=h.lt;simp only [List.length_nil] at hj1;have hll:(layL L s e M).length≤2000:=by unfold layL;omega
 have HH:=hid h;clear h hvb hvr;have HM:=hid hM;clear hM;have CW1:=hid cw1;clear cw1;have hl1:(join [] (within L 0 s)).length≤10000:=by omega
 have hl2:(join (join [] (within L 0 s)) M).length≤10000:=by omega
 have hl3:M.length≤10000:=by omega
 have hl4:(within L 0 s).length≤10000:=by omega
 have hl5:(within L e 274877906944).length≤10000:=by omega
 clear hw1 hw2 hj1 hj2 hj3;have HL0:=hid hl;clear hl;have HL1:=hid hl1;clear hl1;have HL2:=hid hl2;clear hl2;have HL3:=hid hl3;clear hl3;have HL4:=hid hl4;clear hl4;have HL5:=hid hl5;clear hl5;have HLL:=hid hll;clear hll;have HC:=hid hc;clear hc;unfold zB at *;go_enter func111,ntmps111;go_wp2_with fail;refine (CW1.out).mono ?_;rintro e1 w1 ⟨v1,rfl,r1,k1⟩;have R1:=hid r1;clear r1;have K1:=hid k1;clear k1;clear CW1;go_wp2_with fail;refine (zDQ (base:=w.heap.size) (RowG.nil (t:=112) (c:=rgC)) R1.out (fun g _ e=>by cases e) K1.out.size (by simp) HL4.out).mono ?_;rintro e2 w2 ⟨v2,rfl,r2,k2⟩;have K2:Hid (Bl w w2):=hid (Below.trans K1.out k2);clear k2;have R2:=hid r2;clear r2;go_wp2_with fail;refine (zDQ R2.out (HM.out.bl K2.out) (fun g hg e=>by
  have h1:=(HM.out.lt g hg).2;have h2:=(R2.out.lt g e).1
  omega) K2.out.size HL1.out HL3.out).mono ?_
 rintro e3 w3 ⟨v3,rfl,r3,k3⟩;have K3:Hid (Bl w w3):=hid (Below.trans K2.out k3);clear k3;have R3:=hid r3;clear r3;go_wp2_with fail;refine (zDK (HH.out.bl K3.out) e 274877906944 (by have:=HL0.out;omega)).mono ?_;rintro e4 w4 ⟨v4,rfl,r4,k4⟩;have K4:Hid (Bl w w4):=hid (K3.out.trans k4);have R4:=hid r4;clear r4;have R34:=hid (R3.out.bl k4);have R33:Hid (∀ g,v3.ownBlock=some g→g<w3.heap.size):=hid (fun g hg=>(R3.out.lt g hg).2);clear k4;go_wp2_with fail;refine (zDQ R34.out R4.out (fun g hg e=>by
  have h1:=(R4.out.lt g hg).1;have h2:=R33.out g e
  omega) K4.out.size HL2.out HL5.out).mono ?_
 rintro e5 w5 ⟨v5,rfl,r5,k5⟩;have k5':Bl w w5:=Below.trans K4.out k5;have K5:=hid k5';clear k5 k5';have r5':Row w5 w.heap.size v5 (layL L s e M):=r5;have R5:=hid r5';clear r5 r5';obtain ⟨A,cap,hv5⟩:=R5.out.shape;have hf:w5.frozen? ⟨b,0,none⟩=false:=by rw [K5.out.frozen (p:=⟨b,0,none⟩) hblt];exact hcell
 have hf2:w5.cell? ⟨b,0,none⟩=some vb:=K5.out.cell' hcell2;obtain ⟨n,hn⟩:∃ n,n=(layL L s e M).length:=⟨_,rfl⟩;rw [← hn] at hv5 HLL HC;have hnI:(n:Int)≤2000:=by have:=HLL.out;omega
 have hcI:=HC.out;have HN:=hid hn;clear hn;subst hv5;clear hcell hcell2;go_wp2_with fail;go_ret;exact ⟨rfl,(HH.out.bl K5.out).set R5.out,(Fr.zP K5.out).trans (Fr.set (by exact rfl) _)⟩
theorem lay_many {M:List Rg} (h:zCG X w b L) (s e:Int) (hM:Row w bM vM M) (hl:L.length≤256) (hm:M.length≤1) (hc:256<(layL L s e M).length):
  Calls prog 111 #[zB b,.int .u64 s,.int .u64 e,vM] w (zGy w 12):=by
 obtain ⟨vb,hvb,hvr⟩:=id h;have hcell:w.frozen? ⟨b,0,none⟩=false:=by simp [World.frozen?,hvb]
 have hcell2:w.cell? ⟨b,0,none⟩=some vb:=by rw [cell_of_row w b 0 _ _ (0,0) hvb];simp
 have cw1:=zDK h 0 s (by omega);have hw1:=zBV L 0 s;have hw2:=zBV L e 274877906944;have hj1:=zCO [] (within L 0 s);have hj2:=zCO (join [] (within L 0 s)) M;have hj3:=zCO (join (join [] (within L 0 s)) M) (within L e 274877906944);have hblt:=h.lt;simp only [List.length_nil] at hj1;have hll:(layL L s e M).length≤2000:=by unfold layL;omega
 have HH:=hid h;clear h hvb hvr;have HM:=hid hM;clear hM;have CW1:=hid cw1;clear cw1;have hl1:(join [] (within L 0 s)).length≤10000:=by omega
 have hl2:(join (join [] (within L 0 s)) M).length≤10000:=by omega
 have hl3:M.length≤10000:=by omega
 have hl4:(within L 0 s).length≤10000:=by omega
 have hl5:(within L e 274877906944).length≤10000:=by omega
 clear hw1 hw2 hj1 hj2 hj3;have HL0:=hid hl;clear hl;have HL1:=hid hl1;clear hl1;have HL2:=hid hl2;clear hl2;have HL3:=hid hl3;clear hl3;have HL4:=hid hl4;clear hl4;have HL5:=hid hl5;clear hl5;have HLL:=hid hll;clear hll;have HC:=hid hc;clear hc;unfold zB at *;go_enter func111,ntmps111;go_wp2_with fail;refine (CW1.out).mono ?_;rintro e1 w1 ⟨v1,rfl,r1,k1⟩;have R1:=hid r1;clear r1;have K1:=hid k1;clear k1;clear CW1;go_wp2_with fail;refine (zDQ (base:=w.heap.size) (RowG.nil (t:=112) (c:=rgC)) R1.out (fun g _ e=>by cases e) K1.out.size (by simp) HL4.out).mono ?_;rintro e2 w2 ⟨v2,rfl,r2,k2⟩;have K2:Hid (Bl w w2):=hid (Below.trans K1.out k2);clear k2;have R2:=hid r2;clear r2;go_wp2_with fail;refine (zDQ R2.out (HM.out.bl K2.out) (fun g hg e=>by
  have h1:=(HM.out.lt g hg).2;have h2:=(R2.out.lt g e).1
  omega) K2.out.size HL1.out HL3.out).mono ?_
 rintro e3 w3 ⟨v3,rfl,r3,k3⟩;have K3:Hid (Bl w w3):=hid (Below.trans K2.out k3);clear k3;have R3:=hid r3;clear r3;go_wp2_with fail;refine (zDK (HH.out.bl K3.out) e 274877906944 (by have:=HL0.out;omega)).mono ?_;rintro e4 w4 ⟨v4,rfl,r4,k4⟩;have K4:Hid (Bl w w4):=hid (K3.out.trans k4);have R4:=hid r4;clear r4;have R34:=hid (R3.out.bl k4);have R33:Hid (∀ g,v3.ownBlock=some g→g<w3.heap.size):=hid (fun g hg=>(R3.out.lt g hg).2);clear k4;go_wp2_with fail;refine (zDQ R34.out R4.out (fun g hg e=>by
  have h1:=(R4.out.lt g hg).1;have h2:=R33.out g e
  omega) K4.out.size HL2.out HL5.out).mono ?_
 rintro e5 w5 ⟨v5,rfl,r5,k5⟩;have k5':Bl w w5:=Below.trans K4.out k5;have K5:=hid k5';clear k5 k5';have r5':Row w5 w.heap.size v5 (layL L s e M):=r5;have R5:=hid r5';clear r5 r5';obtain ⟨A,cap,hv5⟩:=R5.out.shape;have hf:w5.frozen? ⟨b,0,none⟩=false:=by rw [K5.out.frozen (p:=⟨b,0,none⟩) hblt];exact hcell
 have hf2:w5.cell? ⟨b,0,none⟩=some vb:=K5.out.cell' hcell2;obtain ⟨n,hn⟩:∃ n,n=(layL L s e M).length:=⟨_,rfl⟩;rw [← hn] at hv5 HLL HC;have hnI:(n:Int)≤2000:=by have:=HLL.out;omega
 have hcI:=HC.out;have HN:=hid hn;clear hn;subst hv5;clear hcell hcell2;go_wp2_with fail;go_ret;exact ⟨rfl,K5.out⟩
def Span (s e:Int):Prop:=s%4096=0∧e%4096=0∧s<e∧e≤274877906944
theorem zEa (s e:Int) (w:World) (h0:0≤s) (h:Span s e):Calls prog 104 #[.int .u64 s,.int .u64 e] w fun x w'=>x=.returned (.bool true)∧w=w':=by
 obtain ⟨h1,h2,h3,h4⟩:=h;have t1:(s%4096==0)=true:=by simp [h1]
 have t2:(e%4096==0)=true:=by simp [h2]
 have h5:0≤e:=by omega
 have h6:s≤274877906944:=by omega
 clear h1 h2;go_enter func104,ntmps104;go_wp2;go_ret;exact ⟨rfl,rfl⟩
theorem isSpan_no (s e:Int) (w:World) (h0:0≤s) (h1:s≤18446744073709551615) (h2:0≤e) (h3:e≤18446744073709551615) (h:¬ Span s e):Calls prog 104 #[.int .u64 s,.int .u64 e] w fun x w'=>x=.returned (.bool false)∧w=w':=by
 by_cases a1:s%4096=0
 ·have t1:(s%4096==0)=true:=by simp [a1]
  by_cases a2:e%4096=0
  ·have t2:(e%4096==0)=true:=by simp [a2]
   by_cases a3:s<e
   ·have a4:274877906944<e:=by
     rcases Int.lt_or_le 274877906944 e with h4|h4
     ·exact h4
     ·exact absurd ⟨a1,a2,a3,h4⟩ h
    have t3:decide (e≤274877906944)=false:=by simp;omega
    clear a1 a2 h;go_enter func104,ntmps104;go_wp2;go_ret;exact ⟨rfl,rfl⟩
   ·have a4:e≤s:=by omega
    clear a1 a2 h;go_enter func104,ntmps104;go_wp2;go_ret;exact ⟨rfl,rfl⟩
  ·have t2:(e%4096==0)=false:=by simp [a2]
   clear a1 a2 h;go_enter func104,ntmps104;go_wp2;go_ret;exact ⟨rfl,rfl⟩
 ·have t1:(s%4096==0)=false:=by simp [a1]
  clear a1 h;go_enter func104,ntmps104;go_wp2;go_ret;exact ⟨rfl,rfl⟩
theorem zGt (p:Int) (w:World) (h0:0≤p) (h1:p≤7):Calls prog 110 #[.int .i64 p] w fun x w'=>x=.returned (.bool true)∧w=w':=by
 go_enter func110,ntmps110;go_wp2;go_ret;exact ⟨rfl,rfl⟩
theorem isProt_no (p:Int) (w:World) (h:¬ (0≤p∧p≤7)):Calls prog 110 #[.int .i64 p] w fun x w'=>x=.returned (.bool false)∧w=w':=by
 by_cases h0:0≤p
 ·have h1:7<p:=by omega
  have t1:decide (p≤7)=false:=by simp;omega
  clear h;go_enter func110,ntmps110;go_wp2;go_ret;exact ⟨rfl,rfl⟩
 ·have h1:p<0:=by omega
  clear h;go_enter func110,ntmps110;go_wp2;go_ret;exact ⟨rfl,rfl⟩
theorem zKK (w:World) (r:Rg):Row (w.alloc (.cells #[.int .u64 r.s,.int .u64 r.e,.int .i64 r.p] 112)) w.heap.size (.slice (some ⟨w.heap.size,0,none⟩) 1 1) [r]:=
 ⟨⟨rfl,.inr ⟨w.heap.size,1,_,rfl,Nat.le_refl _,heap_alloc_new w _,Nat.le_refl _,by decide,rfl,rfl⟩⟩,fun e=>by cases e⟩
theorem map_ok (h:zCG X w b L) (s e p:Int) (h0:0≤s) (hs:Span s e) (hp0:0≤p) (hp1:p≤7) (hl:L.length≤256) (hc:(layL L s e [⟨s,e,p⟩]).length≤256):
  Calls prog 65 #[zB b,.int .u64 s,.int .u64 e,.int .i64 p] w (zKk X w b (layL L s e [⟨s,e,p⟩])):=by
 have c1:=fun W=>zEa s e W h0 hs
 have c2:=fun W=>zGt p W hp0 hp1
 have c3:=lay_ok (h.bl (Bl.new w (.cells #[.int .u64 s,.int .u64 e,.int .i64 p] 112))) s e (zKK w ⟨s,e,p⟩) hl (by simp) hc;have C1:=hid c1;clear c1;have C2:=hid c2;clear c2;have C3:=hid c3;clear c3 h hs hl hc;unfold zB at *;go_enter func65,ntmps65;go_wp2_with fail;refine (C1.out _).mono ?_;rintro e w' ⟨rfl,rfl⟩;go_wp2_with fail;refine (C2.out _).mono ?_;rintro e w' ⟨rfl,rfl⟩;go_wp2_with fail;refine C3.out.mono ?_;rintro e w' ⟨rfl,h1,h2⟩;have H1:=hid h1;clear h1;have H2:=hid h2;clear h2;go_wp2_with fail;go_ret;exact ⟨rfl,H1.out.mono (by simp),(Fr.zP (Bl.new _ _)).trans H2.out⟩
theorem map_many (h:zCG X w b L) (s e p:Int) (h0:0≤s) (hs:Span s e) (hp0:0≤p) (hp1:p≤7) (hl:L.length≤256) (hc:256<(layL L s e [⟨s,e,p⟩]).length):
  Calls prog 65 #[zB b,.int .u64 s,.int .u64 e,.int .i64 p] w (zGy w 12):=by
 have c1:=fun W=>zEa s e W h0 hs
 have c2:=fun W=>zGt p W hp0 hp1
 have c3:=lay_many (h.bl (Bl.new w (.cells #[.int .u64 s,.int .u64 e,.int .i64 p] 112))) s e (zKK w ⟨s,e,p⟩) hl (by simp) hc;have C1:=hid c1;clear c1;have C2:=hid c2;clear c2;have C3:=hid c3;clear c3 h hs hl hc;unfold zB at *;go_enter func65,ntmps65;go_wp2_with fail;refine (C1.out _).mono ?_;rintro e w' ⟨rfl,rfl⟩;go_wp2_with fail;refine (C2.out _).mono ?_;rintro e w' ⟨rfl,rfl⟩;go_wp2_with fail;refine C3.out.mono ?_;rintro e w' ⟨rfl,h1⟩;have H1:=hid h1;clear h1;go_wp2_with fail;go_ret;exact ⟨rfl,(Bl.new _ _).trans H1.out⟩
theorem map_no (b:Nat) (s e p:Int) (h0:0≤s) (h1:s≤18446744073709551615) (h2:0≤e) (h3:e≤18446744073709551615) (h:¬ (Span s e∧0≤p∧p≤7)):
  Calls prog 65 #[zB b,.int .u64 s,.int .u64 e,.int .i64 p] w (zGy w 22):=by
 unfold zB at *;by_cases hs:Span s e
 ·have c1:=fun W=>zEa s e W h0 hs
  have c2:=fun W=>isProt_no p W (fun hp=>h ⟨hs,hp⟩)
  have C1:=hid c1;clear c1;have C2:=hid c2;clear c2 h hs;go_enter func65,ntmps65;go_wp2_with fail;refine (C1.out _).mono ?_;rintro e w' ⟨rfl,rfl⟩;go_wp2_with fail;refine (C2.out _).mono ?_;rintro e w' ⟨rfl,rfl⟩;go_wp2_with fail;go_ret;exact ⟨rfl,Bl.refl _⟩
 ·have c1:=fun W=>isSpan_no s e W h0 h1 h2 h3 hs
  have C1:=hid c1;clear c1 h hs;go_enter func65,ntmps65;go_wp2_with fail;refine (C1.out _).mono ?_;rintro e w' ⟨rfl,rfl⟩;go_wp2_with fail;go_ret;exact ⟨rfl,Bl.refl _⟩
theorem eq38 (w:World) (a:Option Addr) (n c:Nat):(binOp .eql 95 (.slice a n c) (.slice none 0 0)).run prog w=.ok (.bool a.isNone) w:=Lib.run_eql_slice_nil (P:=prog) w 95 112 a n c 0 0 underlying95
theorem clone_any {v:Value} (h:Row w base v L) (hl:L.length≤1000):Calls prog 109 #[v] w (zHe w L):=by
 by_cases hL:L=[]
 ·subst hL;obtain rfl:=h.2 rfl;clear h;have hq:=fun W=>eq38 W none 0 0
  simp only [Option.isNone_none] at hq;go_enter func109,ntmps109;go_wp2;go_ret;exact ⟨_,rfl,RowG.nil,Bl.refl _⟩
 ·obtain ⟨g,cap,cur,rfl,_,hnc,hg,hgl⟩:=h.form hL;obtain ⟨i0,hi0,hz0,hz1,hz2⟩:=info_parts info51;have hrow2:=h.bl (Bl.new w (.cells #[] 112));have hown:(w.alloc (.cells #[] 112)).ownsRow w.heap.size 112 3 (.slice (some ⟨w.heap.size,0,none⟩) 0 0) 0 []:=World.ownsRow_made w #[] 0 (Nat.le_refl _) (by decide) rfl;obtain ⟨v',W',hrun,h2,h3,h4,h5⟩:=run_append_own_at (P:=prog) (w.alloc (.cells #[] 112)) w.heap.size 95 95 112 i0 _ 3 24 underlying95 hi0 hz0 hz1 hz2 rfl (by omega) _ 0 [] hown ⟨g,0,none⟩ L.length cap (flat rgC L) (zAv zDk L) (fun j u hj=>by
   have e1:(⟨g,0,none⟩:Addr).add j=⟨g,j,none⟩:=by unfold Addr.add;split<;>simp_all
   have hj2:j<L.length*3:=by rw [← zAv zDk L];exact (List.getElem?_eq_some_iff.1 hj).1
   rw [e1,hrow2.1.cellAt j hj2];exact hj) (fun u hu=>by
    simp only [flat,List.mem_flatMap] at hu;obtain ⟨x,_,hx⟩:=hu;exact zJn x u hx) (by simp only [maxLen];omega) (by omega) (by simp)
  have hpost:zHe w L (.returned v') W':=⟨v',rfl,⟨by simpa using h2,fun e=>absurd e hL⟩,Below.grown (Bl.new w _) h3 (by simp) (fun k hk=>by simp [Value.ownBlock] at hk;omega)⟩;have HP:=hid hpost;clear hpost h2 h3 h4 h5 hrow2 hown h hnc hg hgl hL hl hi0 hz0 hz1 hz2;have HRUN:=hid hrun;clear hrun;have hq:=fun W=>eq38 W (some ⟨g,0,none⟩) L.length cap
  simp only [Option.isNone_some] at hq;go_enter func109,ntmps109;go_wp2_with (first|(at_builtin;refine zY rfl (.tmp 5) (.tmp 6) 95 rfl _ _ _ rfl rfl HRUN.out ?_));go_ret;exact HP.out
def CopyPost (w:World) (L:List Rg) (e:Ending) (w':World):Prop:=∃ b,e=.returned (zB b)∧w.heap.size≤b∧zAT alone w.heap.size w' b L∧Bl w w'
theorem zFK (h:zCG X w b L) (hl:L.length≤1000):Calls prog 64 #[zB b] w (CopyPost w L):=by
 obtain ⟨v,hb,hr⟩:=h;have hcell:w.cell? ⟨b,0,none⟩=some v:=by rw [cell_of_row w b 0 _ _ (0,0) hb];simp
 obtain ⟨A,cap,rfl⟩:=hr.shape;have cc:=clone_any hr hl;have CC:=hid cc;clear cc hb hr;have HL:=hid hl;clear hl;unfold zB;go_enter func64,ntmps64;go_wp2_with fail;refine CC.out.mono ?_;rintro e w' ⟨v,rfl,h1,h2⟩;have H1:=hid h1;clear h1;have H2:=hid h2;clear h2;obtain ⟨A2,cap2,hv⟩:=H1.out.shape;subst hv;go_wp2_with fail;go_ret;exact ⟨_,rfl,H2.out.size,⟨_,heap_alloc_new _ _,H1.out.bl (Bl.new _ _)⟩,H2.out.alloc _⟩
end Go.Proofs.YtlhpodholnfppaaGreatDoor
namespace Go.Proofs.YtlhpodholnfppaaGreatDoor
open Go.Proofs.Tryz
variable {c e hi l lo p:Int} {L:List Rg} {B b bi g j k m n num q sb:Nat} {r:Rg}
theorem So.get (h:So lo hi L) {i:Nat} {q:Rg} (hij:i<j) (hr:L[i]?=some r) (hq:L[j]?=some q):r.e≤q.s:=by
 obtain ⟨h1,rfl⟩:=List.getElem?_eq_some_iff.1 hr;obtain ⟨h2,rfl⟩:=List.getElem?_eq_some_iff.1 hq;exact List.pairwise_iff_getElem.1 h.1 i j h1 h2 hij
theorem So.take (h:So lo hi L) (k:Nat):So lo hi (L.take k):=
 ⟨h.1.sublist (List.take_sublist _ _),fun r hr=>h.2 r (List.mem_of_mem_take hr)⟩
theorem tot_take (L:List Rg) (k:Nat) (r:Rg) (hk:L[k]?=some r):tot (L.take (k+1))=tot (L.take k)+(r.e - r.s):=by
 rw [List.take_add_one,hk,zBX];simp [tot]
theorem seek_end {x:Int} (h:So lo hi L) (h1:0<k→∀ r,L[k - 1]?=some r→r.e≤x) (h2:∀ r,L[k]?=some r→x<r.e) (hk:k≤L.length) (hr:r∈L):
  r.e≤x∨L[k]?=some r∨∃ q,L[k]?=some q∧q.e≤r.s∧x<q.e:=by
 obtain ⟨i,hi,hir⟩:=List.mem_iff_getElem.1 hr;have hir:L[i]?=some r:=by rw [List.getElem?_eq_getElem hi,hir]
 rcases Nat.lt_trichotomy i k with h3|h3|h3
 ·left
  by_cases h4:i=k - 1
  ·subst h4;exact h1 (by omega) r hir
  ·have hk1:k - 1<L.length:=by omega
   have h5:=h1 (by omega) L[k - 1] (List.getElem?_eq_getElem hk1);have h6:=h.get (i:=i) (j:=k - 1) (by omega) hir (List.getElem?_eq_getElem hk1);have h7:=h.2 L[k - 1] (List.getElem_mem hk1);omega
 ·subst h3;exact .inr (.inl hir)
 ·have hk1:k<L.length:=by omega
  exact .inr (.inr ⟨L[k],List.getElem?_eq_getElem hk1,h.get h3 (List.getElem?_eq_getElem hk1) hir,h2 _ (List.getElem?_eq_getElem hk1)⟩)
theorem in_seek {x:Int} (h:So lo hi L) (h1:0<k→∀ r,L[k - 1]?=some r→r.e≤x) (h2:∀ r,L[k]?=some r→x<r.e) (hk:k≤L.length):
  In L x p↔∃ r,L[k]?=some r∧r.s≤x∧r.p=p:=by
 constructor
 ·rintro ⟨r,hr,a1,a2,a3⟩;rcases seek_end h h1 h2 hk hr with b|b|⟨q,b1,b2,b3⟩
  ·omega
  ·exact ⟨r,b,a1,a3⟩
  ·omega
 ·rintro ⟨r,hr,a1,a3⟩;exact ⟨r,List.mem_of_getElem? hr,a1,h2 r hr,a3⟩
section
open Go.RowKit
def IntPost (w:World) (n:Int) (e:Ending) (w':World):Prop:=e=.returned (.int .i64 n)∧Bl w w'
variable {X:Ctx} {w w' w8 w9:World}
theorem zHw (h:zCG X w b L) (hs:So 0 274877906944 L) (hl:L.length≤1000):
  Calls prog 66 #[zB b] w (IntPost w (tot L/4096)):=by
 obtain ⟨v,hb,hr⟩:=h;obtain ⟨A,cap,rfl⟩:=hr.shape;have hcell:w.cell? ⟨b,0,none⟩=some (.slice A L.length cap):=by rw [cell_of_row w b 0 _ _ (0,0) hb];simp
 have hlI:(L.length:Int)≤1000:=by omega
 have HR:=hid hr;clear hr;have HB:=hid hb;clear hb;have HSO:=hid hs;clear hs;obtain ⟨n,hn⟩:∃ n,n=L.length:=⟨_,rfl⟩;rw [← hn] at hcell hlI HR;have HN:=hid hn;clear hn;have HL:=hid hl;clear hl;unfold zB;go_enter func66,ntmps66;go_wp2_with fail
 go_loopw [3,5,13] (fun v3 _ i wr=>∃ k:Nat,k≤n∧i=.int .i64 k∧v3=.int .u64 (tot (L.take k))∧Bl w wr) (fun _ _ i _=>n - (intOf i).toNat)
 case atStart=>exact ⟨0,by omega,rfl,rfl,Bl.refl _⟩
 case round =>
  obtain ⟨k,hk,rfl,rfl,hbl⟩:=hrel;have HBL:=hid hbl;clear hbl;have ht:=(HSO.out.take k).tot_le (by omega);obtain ⟨t1,t2⟩:=ht;by_cases hlt:k<n
  ·have hltL:k<L.length:=by have:=HN.out;omega
   obtain ⟨r,hr⟩:∃ r,L[k]?=some r:=⟨L[k],List.getElem?_eq_getElem hltL⟩;have hne:L≠[]:=by intro e;rw [e] at hltL;simp at hltL
   obtain ⟨g,cap',cur,hA,_,hnc,hg,_⟩:=HR.out.form hne;have hA':A=some ⟨g,0,none⟩:=by injection hA
   subst hA';obtain ⟨c0,c1,c2⟩:=zBt (HR.out.bl HBL.out) k r hr;clear hA hnc hg hne hltL;obtain ⟨s0,s1,s2⟩:=HSO.out.2 r (List.mem_of_getElem? hr);have hstep:=tot_take L k r hr;have HS:=hid hstep;clear hstep;have hkI:(k:Int)<(n:Int):=by omega
   clear hr;generalize tot (L.take k)=T at *;go_wp2_with fail;refine ⟨⟨k+1,by omega,by go_num,by rw [HS.out],HBL.out.alloc _⟩,?_⟩;simp only [intOf];omega
  ·obtain rfl:k=n:=by omega
   rw [HN.out,List.take_length] at t1 t2 ⊢;generalize tot L=T at *;go_wp2_with fail;go_ret;exact ⟨rfl,HBL.out⟩
theorem is42_any (r:Rg) (c:Nat) (x:Int) (w:World) (hc:w.cell? ⟨c,0,none⟩=some (.int .u64 x)) :
  Calls prog 69 #[.agg #[.int .u64 r.s,.int .u64 r.e,.int .i64 r.p],.pointer (some ⟨c,0,none⟩)] w fun e w'=>e=.returned (.bool (decide (x<r.e)))∧Bl w w':=by
 have hlt:=block_lt_of_cell hc;go_enter func69,ntmps69;go_wp2;go_ret;exact ⟨rfl,Bl.new _ _⟩
def Ask (F c:Nat) (x:Int) (q:Rg→Bool):Prop:=∀ (r:Rg) (w:World),w.cell? ⟨c,0,none⟩=some (.int .u64 x) →
 Calls prog F #[.agg #[.int .u64 r.s,.int .u64 r.e,.int .i64 r.p],.pointer (some ⟨c,0,none⟩)] w fun e w'=>e=.returned (.bool (q r))∧Bl w w'
def asks (F c:Nat):Value:=.func (.func F) #[] #[.pointer (some ⟨c,0,none⟩)]
structure Seek (X:Ctx) (w:World) (b bi bl c F:Nat) (x:Int) (L:List Rg):Prop where
 list:zCG X w b L
 is:w.cell? ⟨bi,0,none⟩=some (asks F c)
 me:w.cell? ⟨bl,0,none⟩=some (zB b)
 place:w.cell? ⟨c,0,none⟩=some (.int .u64 x)
theorem Seek.bl {bl c F:Nat} {x:Int} (h:Seek X w b bi bl c F x L) (k:Bl w w'):Seek X w' b bi bl c F x L:=
 ⟨h.list.bl k,k.cell' h.is,k.cell' h.me,k.cell' h.place⟩
def zJU (w:World) (v:Bool) (e:Ending) (w':World):Prop:=e=.returned (.bool v)∧Bl w w'
variable {v1 v2 v3 v4 v5 v6:Value}
theorem keepK {p1 p2 p3 p4 p5 p6 p7:Addr} {v7:Value} (h:w8.cell? p1=some v1∧w8.cell? p2=some v2∧w8.cell? p3=some v3∧w8.cell? p4=some v4∧w8.cell? p5=some v5∧w8.cell? p6=some v6∧w8.cell? p7=some v7∧Bl w w8) (k:Bl w8 w9):
  w9.cell? p1=some v1∧w9.cell? p2=some v2∧w9.cell? p3=some v3∧w9.cell? p4=some v4∧w9.cell? p5=some v5∧w9.cell? p6=some v6∧w9.cell? p7=some v7∧Bl w w9:=by
 obtain ⟨h1,h2,h3,h4,h5,h6,h7,h8⟩:=h;exact ⟨k.cell' h1,k.cell' h2,k.cell' h3,k.cell' h4,k.cell' h5,k.cell' h6,k.cell' h7,h8.trans k⟩
theorem seek1_42 {bl c:Nat} {x:Int} {q:Rg→Bool} (h:Seek X w b bi bl c 69 x L) (hq:Ask 69 c x q) (k:Nat) (r:Rg) (hk:L[k]?=some r) (hl:L.length≤1000):
  Calls prog 120 #[.int .i64 (k:Int),.pointer (some ⟨bi,0,none⟩),.pointer (some ⟨bl,0,none⟩)] w (zJU w (q r)):=by
 obtain ⟨v,hb,hr⟩:=h.list;have hlt:k<L.length:=(List.getElem?_eq_some_iff.1 hk).1;have hne:L≠[]:=by intro e;rw [e] at hlt;simp at hlt
 obtain ⟨g,cap,cur,rfl,_,hnc,hg,_⟩:=hr.form hne;obtain ⟨c0,c1,c2⟩:=zBt hr k r hk;have hcell:w.cell? ⟨b,0,none⟩=some (.slice (some ⟨g,0,none⟩) L.length cap):=by rw [cell_of_row w b 0 _ _ (0,0) hb];simp
 have h1:=h.is;have h2:=h.me;have h3:=h.place;have hkI:(k:Int)<(L.length:Int):=by omega
 have hlI:(L.length:Int)≤1000:=by omega
 have HQ:=hid hq;clear hq hb hr hnc hg hne h hk hl;generalize L.length=n at *;unfold asks zB at *;have hS:w.cell? ⟨bi,0,none⟩=some (.func (.func 69) #[] #[.pointer (some ⟨c,0,none⟩)])∧w.cell? ⟨bl,0,none⟩=some (.pointer (some ⟨b,0,none⟩))∧w.cell? ⟨c,0,none⟩=some (.int .u64 x)∧w.cell? ⟨b,0,none⟩=some (.slice (some ⟨g,0,none⟩) n cap)∧w.cell? ⟨g,k*3,none⟩=some (.int .u64 r.s)∧w.cell? ⟨g,k*3+1,none⟩=some (.int .u64 r.e)∧w.cell? ⟨g,k*3+2,none⟩=some (.int .i64 r.p)∧Bl w w:=⟨h1,h2,h3,hcell,c0,c1,c2,Bl.refl _⟩;have HS:=hid hS;clear hS h1 h2 h3 hcell c0 c1 c2;obtain ⟨rs,re,rp⟩:=r;simp only at HS ⊢;go_enter func120,ntmps120;go_wp2_with fail
 go_region_held3 (fun w'=>w'.cell? ⟨bi,0,none⟩=some (.func (.func 69) #[] #[.pointer (some ⟨c,0,none⟩)])∧w'.cell? ⟨bl,0,none⟩=some (.pointer (some ⟨b,0,none⟩))∧w'.cell? ⟨c,0,none⟩=some (.int .u64 x)∧w'.cell? ⟨b,0,none⟩=some (.slice (some ⟨g,0,none⟩) n cap)∧w'.cell? ⟨g,k*3,none⟩=some (.int .u64 rs)∧w'.cell? ⟨g,k*3+1,none⟩=some (.int .u64 re)∧w'.cell? ⟨g,k*3+2,none⟩=some (.int .i64 rp)∧Bl w w') (first|assumption|exact HS.out|exact keepK HS.out ((Bl.refl w).drewN 1)) ((go_at_call 69;refine (HQ.out ⟨rs,re,rp⟩ _ (by first|exact HS.out.2.2.1|(rename_i hh;exact hh.2.2.1))).mono ?_;rintro e w9 ⟨rfl,k9⟩;have hkk:=keepK (by first|assumption|exact HS.out) k9))
 all_goals go_wp2
 all_goals go_ret
 all_goals exact ⟨rfl,hkk.2.2.2.2.2.2.2⟩
end
section
open Go.RowKit
def zFN (w:World) (L:List Rg) (q:Rg→Bool) (e:Ending) (w':World):Prop:=∃ k:Nat,e=.returned (.int .i64 (k:Int))∧k≤L.length∧(0<k→∀ r,L[k - 1]?=some r→q r=false)∧(∀ r,L[k]?=some r→q r=true)∧Bl w w'
structure SR (w:World) (L:List Rg) (q:Rg→Bool) (i j:Nat) (wr:World):Prop where
 le:i≤j
 top:j≤L.length
 low:0<i→∀ r,L[i - 1]?=some r→q r=false
 high:j<L.length→∀ r,L[j]?=some r→q r=true
 bl:Bl w wr
variable {w:World}
theorem search_any {bl:Nat} {q:Rg→Bool} (n:Nat) (hn:n=L.length) (hl:n≤1000)
 (hc:∀ W,Bl w W→∀ (k:Nat) r,L[k]?=some r→Calls prog 120 #[.int .i64 (k:Int),.pointer (some ⟨bi,0,none⟩),.pointer (some ⟨bl,0,none⟩)] W (zJU W (q r))):
  Calls prog 119 #[.int .i64 (n:Int),.func (.func 120) #[] #[.pointer (some ⟨bi,0,none⟩),.pointer (some ⟨bl,0,none⟩)]] w (zFN w L q):=by
 have HC:=hid hc;clear hc;have HN:=hid hn;clear hn;have hlI:(n:Int)≤1000:=by omega
 go_enter func119,ntmps119;go_wp2_with fail
 go_loopw [5,6,7] (fun v5 v6 _ wr=>∃ i j:Nat,v5=.int .i64 i∧v6=.int .i64 j∧SR w L q i j wr) (fun v5 v6 _ _=>(intOf v6).toNat - (intOf v5).toNat)
 case atStart=>exact ⟨0,n,rfl,rfl,⟨by omega,by rw [HN.out];omega,fun h=>absurd h (by omega),fun h=>absurd h (by rw [HN.out];omega),Bl.refl _⟩⟩
 case round =>
  obtain ⟨i,j,rfl,rfl,hsr⟩:=hrel;have hij:=hsr.le;have hjn:=hsr.top;rw [← HN.out] at hjn;have HSR:=hid hsr;clear hsr;have hijI:(i:Int)≤(j:Int):=by omega
  have hjI:(j:Int)≤1000:=by omega
  have hi0:(0:Int)≤(i:Int):=by omega
  by_cases hlt:i<j
  ·obtain ⟨m,hm⟩:∃ m:Nat,m=(i+j)/2:=⟨_,rfl⟩;have hmI:((i:Int)+(j:Int))/2=(m:Int):=by omega
   have hm1:i≤m:=by omega
   have hm2:m<j:=by omega
   have hmL:m<L.length:=by have:=HN.out;omega
   have hgm:L[m]?=some L[m]:=List.getElem?_eq_getElem hmL;have cc:=fun W hW=>HC.out W hW m L[m] hgm
   obtain ⟨qm,hqm⟩:∃ qm,qm=q L[m]:=⟨_,rfl⟩;simp only [← hqm] at cc;have CC:=hid cc;clear cc;have HGM:=hid hgm;clear hgm;have HQM:=hid hqm;clear hqm;have HMI:=hid hmI;clear hmI hm;have hltI:(i:Int)<(j:Int):=by omega
   go_wp2_with fail;rw [HMI.out];with_reducible refine (CC.out _ HSR.out.bl).mono ?_
   rintro e w1 ⟨rfl,k1⟩;have K1:=hid (HSR.out.bl.trans k1);clear k1;rcases qm with _|_
   ·have hsr2:SR w L q (m+1) j w1:=⟨by omega,HSR.out.top,fun _ r hr=>by
     rw [Nat.add_sub_cancel,HGM.out] at hr;cases hr;exact HQM.out.symm,HSR.out.high,K1.out⟩
    have HSR2:=hid hsr2;clear hsr2;go_wp2_with fail;refine ⟨⟨m+1,j,by go_num,rfl,HSR2.out⟩,?_⟩;simp only [intOf];omega
   ·have hsr2:SR w L q i m w1:=⟨hm1,by have:=HSR.out.top;omega,HSR.out.low,fun _ r hr=>by
     rw [HGM.out] at hr;cases hr;exact HQM.out.symm,K1.out⟩
    have HSR2:=hid hsr2;clear hsr2;go_wp2_with fail;refine ⟨⟨i,m,rfl,rfl,HSR2.out⟩,?_⟩;simp only [intOf];omega
  ·obtain rfl:i=j:=by omega
   have hpost:zFN w L q (.returned (.int .i64 (i:Int))) wr:=⟨i,rfl,HSR.out.top,HSR.out.low,fun r hr=>HSR.out.high (List.getElem?_eq_some_iff.1 hr).1 r hr,HSR.out.bl⟩;have HP:=hid hpost;clear hpost;go_wp2_with fail;go_ret;exact HP.out
variable {X:Ctx}
theorem seek_42 {c:Nat} {x:Int} {q:Rg→Bool} (h:zCG X w b L) (hx:w.cell? ⟨c,0,none⟩=some (.int .u64 x)) (hq:Ask 69 c x q) (hl:L.length≤1000):
  Calls prog 68 #[zB b,asks 69 c] w (zFN w L q):=by
 have hmf:∀ (fn:Fn) (first cap:Array Value) (w:World),(Instr.makeFunc fn first cap).run prog w=.ok (.func fn first cap) w:=fun _ _ _ _=>rfl
 have hk:Bl w ((w.alloc (.cells #[zB b] 137)).alloc (.cells #[asks 69 c] 142)):=(Bl.new w _).alloc _;have hsk:Seek X ((w.alloc (.cells #[zB b] 137)).alloc (.cells #[asks 69 c] 142)) b (w.heap.size+1) w.heap.size c 69 x L:=by
  refine ⟨h.bl hk,?_,?_,hk.cell' hx⟩
  ·have:=heap_alloc_new (w.alloc (.cells #[zB b] 137)) (.cells #[asks 69 c] 142)
   rw [show (w.alloc (.cells #[zB b] 137)).heap.size=w.heap.size+1 by simp] at this;rw [cell_of_row _ _ 0 _ 142 (0,0) this];rfl
  ·exact (Bl.new (w.alloc (.cells #[zB b] 137)) (.cells #[asks 69 c] 142)).cell' (by rw [cell_of_row _ _ 0 _ 137 (0,0) (heap_alloc_new w _)];rfl)
 obtain ⟨v,hb,hr⟩:=h;obtain ⟨A,cap,rfl⟩:=hr.shape;have hcell:w.cell? ⟨b,0,none⟩=some (.slice A L.length cap):=by rw [cell_of_row w b 0 _ _ (0,0) hb];simp
 have hblt:=zG hb;have cs:=search_any (w:=(w.alloc (.cells #[zB b] 137)).alloc (.cells #[asks 69 c] 142)) (bi:=w.heap.size+1) (bl:=w.heap.size) (L:=L) (q:=q) L.length rfl hl (fun W hW k r hkr=>seek1_42 (hsk.bl hW) hq k r hkr hl);have CS:=hid cs;clear cs hsk hr hb hx hq;have HK:=hid hk;clear hk hl;unfold zB asks at *;go_enter func68,ntmps68;go_wp2_with fail;refine CS.out.mono ?_;rintro e w' ⟨k,rfl,h1,h2,h3,h4⟩;have hp:zFN w L q (.returned (.int .i64 (k:Int))) w':=⟨k,rfl,h1,h2,h3,HK.out.trans h4⟩;have HP:=hid hp;clear hp h1 h2 h3 h4;go_wp2_with fail;go_ret;exact HP.out
end
section
open Go.RowKit
def rgV (r:Rg):Value:=.agg #[.int .u64 r.s,.int .u64 r.e,.int .i64 r.p]
theorem zk {P:Program} {fn:Func} {p u:Tmp} {ty:TypeId} (h:fn.results=#[.cell p ty,.tmp u]) (tmps:Array Value) (w:World) (g:Nat) (t:TypeId) (cs:Array Value) (fr:Nat × Nat) (d:TypeDesc)
  (hp:tmps.getD p undef=.pointer (some ⟨g,0,none⟩)) (hg:w.heap[g]?=some (.cells cs t fr))
  (hu:P.underlying ty=some d) (hd:(match d with | .struct _ | .array _ _=>true|_=>false)=true) (hi:(P.info? ty).map (·.size)=some cs.size) :
  (results fn tmps).run P w=.ok (.tuple #[.agg cs,tmps.getD u undef]) w:=by
 rw [results_cell_tmp h,hp];simp [asAddr,run_loadVar_row w g t ty cs fr d hg hu hd hi,Result.andThen]
variable {t:TypeId} {w:World}
theorem set3 {a b c:Value} (x y z:Value) (h:w.heap[g]?=some (.cells #[a,b,c] t (0,0))):
  (((w.setCell ⟨g,0,none⟩ x).setCell ⟨g,1,none⟩ y).setCell ⟨g,2,none⟩ z).heap[g]?=some (.cells #[x,y,z] t (0,0)):=by
 have h1:=heap_setCell_same w g 0 _ t x h;have h2:=heap_setCell_same _ g 1 _ t y h1;have h3:=heap_setCell_same _ g 2 _ t z h2
 simpa using h3
def AtPost (w:World) (L:List Rg) (x:Int) (e:Ending) (w':World):Prop:=∃ r ok,e=.returned (.tuple #[rgV r,.bool ok])∧((ok=true∧r∈L∧r.s≤x∧x<r.e)∨(ok=false∧r=⟨0,0,0⟩∧∀ p,¬ In L x p))∧Bl w w'
variable {X:Ctx}
theorem at_any (h:zCG X w b L) (hs:So 0 274877906944 L) (x:Int) (hl:L.length≤1000):
  Calls prog 47 #[zB b,.int .u64 x] w (AtPost w L x):=by
 have hmf:∀ (fn:Fn) (first cap:Array Value) (w:World),(Instr.makeFunc fn first cap).run prog w=.ok (.func fn first cap) w:=fun _ _ _ _=>rfl
 have hk:Bl w ((w.alloc (.cells #[.int .u64 x] 29)).alloc (.cells #[.int .u64 0,.int .u64 0,.int .i64 0] 112)):=(Bl.new w _).alloc _;have hx:((w.alloc (.cells #[.int .u64 x] 29)).alloc (.cells #[.int .u64 0,.int .u64 0,.int .i64 0] 112)).cell? ⟨w.heap.size,0,none⟩=some (.int .u64 x):=
  (Bl.new (w.alloc (.cells #[.int .u64 x] 29)) _).cell' (by rw [cell_of_row _ _ 0 _ 29 (0,0) (heap_alloc_new w _)];rfl)
 have hz:((w.alloc (.cells #[.int .u64 x] 29)).alloc (.cells #[.int .u64 0,.int .u64 0,.int .i64 0] 112)).heap[w.heap.size+1]?=some (.cells #[.int .u64 0,.int .u64 0,.int .i64 0] 112 (0,0)):=by
  have:=heap_alloc_new (w.alloc (.cells #[.int .u64 x] 29)) (.cells #[.int .u64 0,.int .u64 0,.int .i64 0] 112)
  rwa [show (w.alloc (.cells #[.int .u64 x] 29)).heap.size=w.heap.size+1 by simp] at this
 have cs:=seek_42 (h.bl hk) hx (fun r W hW=>is42_any r w.heap.size x W hW) hl;have CS:=hid cs;clear cs;have HH:=hid (h.bl hk);clear h;have HK:=hid hk;clear hk;have HX:=hid hx;clear hx;have HZ:=hid hz;clear hz;have HSO:=hid hs;clear hs;unfold zB asks at *;go_enter func47,ntmps47;go_wp2_with fail;refine CS.out.mono ?_;rintro e w1 ⟨k,rfl,h1,h2,h3,h4⟩;have hL1:=HH.out.bl h4;have hx1:=h4.cell' HX.out;have hz1:=h4.at_ HZ.out;have hk1:=HK.out.trans h4;clear CS h4 HH HX HZ HK;have hin:=fun p=>in_seek (p:=p) HSO.out (fun hk r hr=>by have:=h2 hk r hr;simpa using this) (fun r hr=>by have:=h3 r hr;simpa using this) h1
 obtain ⟨v,hb,hr⟩:=hL1;obtain ⟨A,cap,rfl⟩:=hr.shape;have hcell:w1.cell? ⟨b,0,none⟩=some (.slice A L.length cap):=by rw [cell_of_row w1 b 0 _ _ (0,0) hb];simp
 have z0:w1.cell? ⟨w.heap.size+1,0,none⟩=some (.int .u64 0):=by rw [cell_of_row w1 _ 0 _ 112 (0,0) hz1];rfl
 have z1:w1.cell? ⟨w.heap.size+1,1,none⟩=some (.int .u64 0):=by rw [cell_of_row w1 _ 1 _ 112 (0,0) hz1];rfl
 have z2:w1.cell? ⟨w.heap.size+1,2,none⟩=some (.int .i64 0):=by rw [cell_of_row w1 _ 2 _ 112 (0,0) hz1];rfl
 have fz:∀ j,w1.frozen? ⟨w.heap.size+1,j,none⟩=false:=fun j=>by simp [World.frozen?,hz1]
 have f0:=fz 0;have f1:=fz 1;have f2:=fz 2;clear fz;have HZ1:=hid hz1;clear hz1;have HK1:=hid hk1;clear hk1;have HIN:=hid hin;clear hin;have HR:=hid hr;clear hr hb;have H3:=hid h3;clear h3 h2;obtain ⟨n,hn⟩:∃ n,n=L.length:=⟨_,rfl⟩;rw [← hn] at hcell h1 HR hl;have HN:=hid hn;clear hn;have hnI:(n:Int)≤1000:=by omega
 have hkI:(k:Int)≤(n:Int):=by omega
 by_cases hkn:k=n
 ·have t1:((k:Int)==(n:Int))=true:=by simp [hkn]
  have t2:(k==n)=true:=by simp [hkn]
  clear hkn;go_wp2_with fail;go_quiet (fail)
  go_wp2_with fail;have hnone:∀ p,¬ In L x p:=fun p hp=>by
   obtain ⟨r,hr,_⟩:=(HIN.out p).1 hp;have h5:=(List.getElem?_eq_some_iff.1 hr).1
   have:=HN.out
   simp at t2;omega
  refine bodyPost_ret (zk rfl _ _ (w.heap.size+1) 112 _ (0,0) _ rfl (set3 _ _ _ HZ1.out) underlying112 rfl (by kernel_rfl)) rfl ?_;exact ⟨⟨0,0,0⟩,false,rfl,.inr ⟨rfl,rfl,hnone⟩,(((HK1.out.drewN _).set (by simp) _).set (by simp) _).set (by simp) _⟩
 ·have t1:((k:Int)==(n:Int))=false:=by simp;omega
  have t2:(k==n)=false:=by simp;omega
  have hlt:k<n:=by omega
  have hltL:k<L.length:=by have:=HN.out;omega
  obtain ⟨r,hr⟩:∃ r,L[k]?=some r:=⟨L[k],List.getElem?_eq_getElem hltL⟩;have hne:L≠[]:=by intro e;rw [e] at hltL;simp at hltL
  obtain ⟨g,cap',cur,hA,_,hnc,hg,_⟩:=HR.out.form hne;have hA':A=some ⟨g,0,none⟩:=by injection hA
  subst hA';obtain ⟨c0,c1,c2⟩:=zBt HR.out k r hr;clear hA hnc hg hne hltL hkn;have hxe:x<r.e:=by have:=H3.out r hr;simpa using this
  have hltI:(k:Int)<(n:Int):=by omega
  have HXE:=hid hxe;clear hxe;by_cases hsx:x<r.s
  ·have hnone:∀ p,¬ In L x p:=fun p hp=>by
    obtain ⟨r',hr',h5,_⟩:=(HIN.out p).1 hp;rw [hr] at hr';cases hr';omega
   have HNO:=hid hnone;clear hnone hr;go_wp2_with fail;go_quiet (fail)
   go_wp2_with fail;refine bodyPost_ret (zk rfl _ _ (w.heap.size+1) 112 _ (0,0) _ rfl (set3 _ _ _ HZ1.out) underlying112 rfl (by kernel_rfl)) rfl ?_;exact ⟨⟨0,0,0⟩,false,rfl,.inr ⟨rfl,rfl,HNO.out⟩,(((HK1.out.drewN _).set (by simp) _).set (by simp) _).set (by simp) _⟩
  ·have HIR:=hid (List.mem_of_getElem? hr);clear hr;have hsx2:r.s≤x:=by omega
   go_wp2_with fail;go_quiet (fail)
   go_wp2_with fail;refine bodyPost_ret (zk rfl _ _ (w.heap.size+1) 112 _ (0,0) _ rfl (set3 _ _ _ HZ1.out) underlying112 rfl (by kernel_rfl)) rfl ?_;exact ⟨r,true,rfl,.inl ⟨rfl,HIR.out,hsx2,HXE.out⟩,(((HK1.out.drewN _).set (by simp) _).set (by simp) _).set (by simp) _⟩
end
section
open Go.RowKit
def Can (L:List Rg) (p x:Int):Prop:=∃ q,In L x q∧bits .and .i64 q p=p
def zBF (w:World) (L:List Rg) (s t p:Int) (e:Ending) (w':World):Prop:=∃ x ok,e=.returned (.tuple #[.int .u64 x,.bool ok]) ∧
 ((ok=true∧s≤x∧x<t∧¬ Can L p x∧∀ y,s≤y→y<x→Can L p y)∨(ok=false∧x=0∧∀ y,s≤y→y<t→Can L p y))∧Bl w w'
variable {X:Ctx} {w:World}
theorem first_any (h:zCG X w b L) (hs:So 0 274877906944 L) (s t p:Int) (hl:L.length≤1000):
  Calls prog 210 #[zB b,.int .u64 s,.int .u64 t,.int .i64 p] w (zBF w L s t p):=by
 have HH:=hid h;clear h;have HSO:=hid hs;clear hs;have HL:=hid hl;clear hl;unfold zB;go_enter func210,ntmps210;go_wp2_with fail
 go_loopw [1,10,11] (fun v1 _ _ wr=>∃ a:Int,v1=.int .u64 a∧s≤a∧(∀ y,s≤y→y<a→Can L p y)∧Bl w wr) (fun v1 _ _ _=>(t - intOf v1).toNat)
 case atStart=>exact ⟨s,rfl,by omega,fun y h1 h2=>absurd h2 (by omega),Bl.refl _⟩
 case round =>
  obtain ⟨a,rfl,ha,hall,hbl⟩:=hrel;have HALL:=hid hall;clear hall;have HBL:=hid hbl;clear hbl;by_cases hat:a<t
  ·go_wp2_with fail;refine (at_any (HH.out.bl HBL.out) HSO.out a HL.out).mono ?_;rintro e w1 ⟨r,ok,rfl,hr,k1⟩;have K1:=hid (HBL.out.trans k1);clear k1;unfold rgV;rcases hr with ⟨rfl,h1,h2,h3⟩|⟨rfl,rfl,h1⟩
   ·have hmem:In L a r.p:=⟨r,h1,h2,h3,rfl⟩;by_cases hc:bits .and .i64 r.p p=p
    ·have t1:(bits .and .i64 r.p p==p)=true:=by simp [hc]
     have t2:(bits .and .i64 r.p p != p)=false:=by simp [hc]
     have hall2:∀ y,s≤y→y<r.e→Can L p y:=fun y y1 y2=>by
      by_cases hy:y<a
      ·exact HALL.out y y1 hy
      ·exact ⟨r.p,⟨r,h1,by omega,y2,rfl⟩,hc⟩
     have HALL2:=hid hall2;clear hall2 hmem h1 hc;go_wp2_with fail;refine ⟨⟨r.e,rfl,by omega,HALL2.out,K1.out.alloc _⟩,?_⟩;simp only [intOf];omega
    ·have t1:(bits .and .i64 r.p p==p)=false:=by simp [hc]
     have t2:(bits .and .i64 r.p p != p)=true:=by simp [hc]
     have hno:¬ Can L p a:=fun ⟨q,hq,hb⟩=>hc (by rw [← HSO.out.one hq hmem];exact hb)
     have hp:zBF w L s t p (.returned (.tuple #[.int .u64 a,.bool true])) (w1.alloc (.cells #[.int .u64 r.s,.int .u64 r.e,.int .i64 r.p] 112)):=⟨a,true,rfl,.inl ⟨rfl,ha,hat,hno,HALL.out⟩,K1.out.alloc _⟩;have HP:=hid hp;clear hp hno hmem h1 hc;go_wp2_with fail;go_ret2;exact HP.out
   ·have hno:¬ Can L p a:=fun ⟨q,hq,hb⟩=>h1 q hq
    have hp:zBF w L s t p (.returned (.tuple #[.int .u64 a,.bool true])) (w1.alloc (.cells #[.int .u64 0,.int .u64 0,.int .i64 0] 112)):=⟨a,true,rfl,.inl ⟨rfl,ha,hat,hno,HALL.out⟩,K1.out.alloc _⟩;have HP:=hid hp;clear hp hno h1;go_wp2_with fail;go_ret2;exact HP.out
  ·have hp:zBF w L s t p (.returned (.tuple #[.int .u64 0,.bool false])) wr:=⟨0,false,rfl,.inr ⟨rfl,rfl,fun y y1 y2=>HALL.out y y1 (by omega)⟩,HBL.out⟩;have HP:=hid hp;clear hp;go_wp2_with fail;go_ret2;exact HP.out
end
section
open Go.RowKit
variable {w w1 w2:World}
theorem Fr.zJA (k:Bl w w1) (f:Fr (only b) w1 w2) (hb:w.heap.size≤b):Bl w w2:=
 ((Fr.zP (S:=only b) k).trans f).bl fun j hj e=>by have e:j=b:=e;omega
structure Rs (L:List Rg):Prop where
 nm:Nm 0 274877906944 L
 al:Al L
theorem Rs.nil:Rs []:=⟨Nm.nil _ _,Al.nil⟩
theorem Rs.lay (h:Rs L) {s:Int} (h0:0≤s) (hs:Span s e):Rs (layL L s e [⟨s,e,p⟩]):=by
 obtain ⟨a,b,c,d⟩:=hs;obtain ⟨h1,h2,h3,h4⟩:=zJJ h.nm.so h0 c d (one_so (p:=p) c);exact ⟨h1,h3 h.al a b (one_al a b)⟩
theorem zJI (h:Rs L) {s:Int} (h0:0≤s) (hs:Span s e) (a q:Int):In (layL L s e [⟨s,e,p⟩]) a q↔(s≤a∧a<e∧p=q)∨((a<s∨e≤a)∧In L a q):=by
 obtain ⟨_,_,c,d⟩:=hs;rw [(zJJ h.nm.so h0 c d (one_so (p:=p) c)).2.1,zHA]
theorem Rs.eq {M:List Rg} (h:Rs L) (k:Rs M) (e:∀ a p,In L a p↔In M a p):L=M:=unique h.nm k.nm e
end
section
open Go.RowKit
variable {t ty:TypeId}
theorem zBI {a b:Array Value} {u:TypeId} {f g:Nat × Nat} (h:some (Obj.cells a t f)=some (Obj.cells b u g)):t=u:=by
 injection h with h;injection h
variable {S T U:Nat→Prop}
theorem Fr.grown {a b:World} {r:Option Nat} (h:a.grownBy b r) (hr:∀ k,r=some k→S k):Fr S a b:=
 ⟨h.os,h.tape,h.output,h.size,fun k hk hn=>h.block k hk (fun e=>hn (hr k e.symm))⟩
def zBD (M:Nat→Int) (p:Nat):List Int:=(List.range 4096).map fun o=>M (p*4096+o)
theorem zq (M:Nat→Int) (p:Nat):(zBD M p).length=4096:=by simp [zBD]
theorem zBM (M:Nat→Int) (p o:Nat) (h:o<4096):(zBD M p)[o]?=some (M (p*4096+o)):=by simp [zBD,List.getElem?_range h]
def lay (M:Nat→Int) (a:Nat) (cs:List Int):Nat→Int:=fun x=>if a≤x∧x<a+cs.length then cs.getD (x - a) 0 else M x
theorem zKL (M:Nat→Int) (a:Nat):lay M a []=M:=by funext x;simp only [lay,List.length_nil];rw [if_neg (by omega)]
theorem lay_at (M:Nat→Int) (a:Nat) (cs:List Int) (i:Nat) (h:i<cs.length):lay M a cs (a+i)=cs.getD i 0:=by
 simp only [lay];rw [if_pos (by omega),Nat.add_sub_cancel_left]
theorem zGA (M:Nat→Int) (a:Nat) (cs:List Int) (x:Nat) (h:x<a∨a+cs.length≤x):lay M a cs x=M x:=by
 simp only [lay];rw [if_neg (by omega)]
theorem zKM (M:Nat→Int) (a:Nat) (cs ds:List Int):lay (lay M a cs) (a+cs.length) ds=lay M a (cs++ds):=by
 funext x
 simp only [lay,List.length_append,List.getD_eq_getElem?_getD,List.getElem?_append];by_cases h1:a+cs.length≤x∧x<a+cs.length+ds.length
 ·rw [if_pos h1,if_pos (by omega),if_neg (by omega)]
  congr 2;omega
 ·rw [if_neg h1];by_cases h2:a≤x∧x<a+cs.length
  ·rw [if_pos h2,if_pos (by omega),if_pos (by omega)]
  ·rw [if_neg h2,if_neg (by omega)]
theorem pageOf_lay (M:Nat→Int) (p off:Nat) (cs:List Int) (h:off+cs.length≤4096):zBD (lay M (p*4096+off) cs) p=splice (zBD M p) off cs:=by
 apply List.ext_getElem?
 intro o;by_cases ho:o<4096
 ·rw [zBM _ _ _ ho];simp only [splice,lay];by_cases h1:o<off
  ·rw [if_neg (by omega),List.getElem?_append_left (by simp [zq];omega),List.getElem?_take_of_lt h1,zBM _ _ _ ho]
  ·have hl:((zBD M p).take off).length=off:=by simp [zq];omega
   rw [List.getElem?_append_right (by omega),hl];by_cases h2:o<off+cs.length
   ·rw [if_pos (by omega),List.getElem?_append_left (by omega),List.getD_eq_getElem?_getD];have e:p*4096+o - (p*4096+off)=o - off:=by omega
    rw [e,List.getElem?_eq_getElem (by omega)];rfl
   ·rw [if_neg (by omega),List.getElem?_append_right (by omega),List.getElem?_drop];have e:off+cs.length+(o - off - cs.length)=o:=by omega
    rw [e,zBM _ _ _ ho]
 ·rw [List.getElem?_eq_none (by simp [zq];omega),List.getElem?_eq_none (by rw [length_splice _ _ _ (by rw [zq];exact h),zq];omega)]
theorem zCN (M M':Nat→Int) (p:Nat) (h:∀ o,o<4096→M' (p*4096+o)=M (p*4096+o)):zBD M' p=zBD M p:=by
 simp only [zBD]
 apply List.map_congr_left
 intro o ho;exact h o (by simpa using ho)
theorem zFx (M:Nat→Int) (p:Nat) (h:∀ o,o<4096→M (p*4096+o)=0):zBD M p=List.replicate 4096 0:=by
 apply List.ext_getElem?
 intro o;by_cases ho:o<4096
 ·rw [zBM _ _ _ ho,h o ho,List.getElem?_replicate,if_pos ho]
 ·rw [List.getElem?_eq_none (by simp [zq];omega),List.getElem?_eq_none (by simp;omega)]
def ptrE (v:Value):Option (DataW Nat × List MemPlace):=
 match v with
 | .pointer (some ⟨b,0,none⟩)=>some (.held b,[])
 | .pointer none=>some (.nil,[])
 | _=>none
def zFv (x:Option Nat):Value:=.pointer (x.map fun b=>⟨b,0,none⟩)
theorem ptrE_inv {v:Value} {z:DataW Nat × List MemPlace} (h:ptrE v=some z):∃ x,v=zFv x∧z.1=(match x with|some b=>.held b|none=>.nil):=by
 unfold ptrE at h
 split at h
 ·rename_i b;cases h;exact ⟨some b,rfl,rfl⟩
 ·cases h;exact ⟨none,rfl,rfl⟩
 ·cases h
theorem zJu (x:Option Nat):ptrE (zFv x)=some ((match x with|some b=>.held b|none=>.nil),[]):=by cases x<;>rfl
def datum (x:Option Nat):DataW Nat:=match x with|some b=>.held b|none=>.nil
theorem datum_inj {x y:Option Nat} (h:datum x=datum y):x=y:=by
 cases x<;>cases y<;>simp_all [datum]
def key (p:Nat):Lit:=.int .u64 (p:Int)
theorem key_wf {p:Nat} (h:p<2^64):(key p).wf=true:=by
 show (decide ((0:Int)≤(p:Int))&&decide ((p:Int)≤18446744073709551615))=true
 simp;omega
theorem zDg {p:Nat} (h:p≠q):key p≠key q:=by
 intro e;simp only [key,Lit.int.injEq,true_and] at e;omega
def put1 (f:Nat→Option Nat) (p:Nat) (x:Option Nat):Nat→Option Nat:=fun q=>if q=p then x else f q
theorem zAF (f:Nat→Option Nat) (p:Nat) (x:Option Nat):put1 f p x p=x:=by simp [put1]
theorem zn (f:Nat→Option Nat) (p:Nat) (x:Option Nat) (h:q≠p):put1 f p x q=f q:=by simp [put1,h]
theorem zCy {p:Nat} (h:p<2^64):keyOf prog 29 (.int .u64 (p:Int))=some (key p):=Maps.keyOf_int_mk underlying29 (key_wf h)
def PM (w:World) (B n:Nat) (f:Nat→Option Nat) (k:Nat):Prop:=
 ∃ D,w.ownsMap prog 29 ptrE B n D∧(∀ p,p<2^64→D.atKey (key p) .nil=datum (f p))∧(∀ p,p<2^64→Maps.has D (key p)=(f p).isSome)∧Maps.size D=k
variable {f:Nat→Option Nat} {w w':World}
theorem PM.lt (h:PM w B n f k):B<w.heap.size:=by
 obtain ⟨D,h1,_⟩:=h;exact h1.lt
theorem PM.isMap (h:PM w B n f k):∃ es c,w.heap[B]?=some (.map es c):=by
 obtain ⟨D,⟨es,c,h1,_⟩,_⟩:=h;exact ⟨es,c,h1⟩
theorem zBG {H:Type} {P:Program} {R:Value→Option (DataW H × List MemPlace)} {D:DataW H} (h:w.ownsMap P t R b n D) (hb:w'.heap[b]?=w.heap[b]?):w'.ownsMap P t R b n D:=by
 obtain ⟨es,c,h1,h2⟩:=h;exact ⟨es,c,hb.trans h1,h2⟩
theorem PM.of_block (h:PM w B n f k) (hb:w'.heap[B]?=w.heap[B]?):PM w' B n f k:=by
 obtain ⟨D,h1,h2⟩:=h;exact ⟨D,zBG h1 hb,h2⟩
theorem PM.mono (h:PM w B n f k) (hn:n≤m):PM w B m f k:=by
 obtain ⟨D,h1,h2⟩:=h;exact ⟨D,h1.mono hn,h2⟩
theorem PM.made (w:World):PM (w.alloc (.map #[] 0)) w.heap.size 0 (fun _=>none) 0:=
 ⟨_,World.ownsMap_made w prog 29 ptrE,fun _ _=>rfl,fun _ _=>rfl,rfl⟩
theorem PM.look (h:PM w B n f k) {p:Nat} (hp:p<2^64):
  (Instr.lookup 98 (.map (some B)) (.int .u64 (p:Int)) false).run prog w=.ok (zFv (f p)) w:=by
 obtain ⟨D,h1,h2,_⟩:=h;obtain ⟨v,ps,hrun,hv⟩:=h1.lookup zDZ underlying98 (zero44 w) (zJu none) (zCy hp);obtain ⟨x,rfl,hx⟩:=ptrE_inv hv;rw [hrun]
 have:f p=x:=datum_inj (by rw [← h2 p hp];exact hx)
 rw [this]
theorem zBN (p:Nat):WideAt.IsKeyLit (key p):=trivial
theorem PM.put (h:PM w B n f k) {p:Nat} (hp:p<2^64) (hn:n<maxLen) (b:Nat):
  ∃ w',(Instr.mapUpdate 98 (.map (some B)) (.int .u64 (p:Int)) (.pointer (some ⟨b,0,none⟩))).run prog w=.ok () w'∧PM w' B (n+1) (put1 f p (some b)) (if (f p).isSome then k else k+1)∧w.mapTurned w' B:=by
 obtain ⟨D,h1,h2,h3,h4⟩:=h;obtain ⟨w',hrun,ho,ht⟩:=h1.store zDZ underlying98 hn (zCy hp) (zJu (some b));refine ⟨w',hrun,⟨_,ho,fun q hq=>?_,fun q hq=>?_,?_⟩,ht⟩
 ·by_cases e:q=p
  ·subst e;rw [zAF];exact Maps.atKey_put_same h1.isMap (zBN _) _ _
  ·rw [zn _ _ _ e,Maps.atKey_put_other (zDg e)];exact h2 q hq
 ·by_cases e:q=p
  ·subst e;rw [zAF];exact Maps.has_put_same h1.isMap (zBN _) _
  ·rw [zn _ _ _ e,Maps.has_put_other (zDg e)];exact h3 q hq
 ·rw [Maps.size_put (h1.tidy zDZ),h3 p hp,h4]
theorem PM.del_of (h:PM w B n f k) {p:Nat} (hp:p<2^64) 
 (hd:(Builtin.delete_ #[98,29] ty #[.map (some B),.int .u64 (p:Int)]).run prog w=.ok (.tuple #[]) w'):
  (∃ k',PM w' B n (put1 f p none) k'∧k'+(if (f p).isSome then 1 else 0)=k)∧w.mapTurned w' B:=by
 obtain ⟨D,h1,h2,h3,h4⟩:=h;obtain ⟨w2,hrun,ho,ht⟩:=h1.drop zDZ underlying98 (zCy hp) ty;rw [hrun] at hd;injection hd with _ e;subst e;refine ⟨⟨_,⟨_,ho,fun q hq=>?_,fun q hq=>?_,rfl⟩,?_⟩,ht⟩
 ·by_cases e:q=p
  ·subst e;rw [zAF];exact Maps.atKey_del_same _
  ·rw [zn _ _ _ e,Maps.atKey_del_other (zDg e)];exact h2 q hq
 ·by_cases e:q=p
  ·subst e;rw [zAF];exact Maps.has_del_same
  ·rw [zn _ _ _ e,Maps.has_del_other (zDg e)];exact h3 q hq
 ·have:=Maps.size_del (k:=key p) (h1.tidy zDZ)
  rw [h3 p hp,h4] at this;exact this
theorem PM.del_run (h:PM w B n f k) {p:Nat} (hp:p<2^64) (ty:TypeId):
  ∃ w',(Builtin.delete_ #[98,29] ty #[.map (some B),.int .u64 (p:Int)]).run prog w=.ok (.tuple #[]) w':=by
 obtain ⟨D,h1,_⟩:=h;obtain ⟨w2,hrun,_⟩:=h1.drop zDZ underlying98 (zCy hp) ty;exact ⟨w2,hrun⟩
def PMV (S:Nat→Prop) (w:World) (pm:Value) (n:Nat) (f:Nat→Option Nat) (k:Nat):Prop:=
 (pm=.map none∧(∀ p,f p=none)∧k=0)∨∃ B,pm=.map (some B)∧S B∧PM w B n f k
variable {pm sm:Value}
theorem PMV.look (h:PMV S w pm n f k) {p:Nat} (hp:p<2^64):
  (Instr.lookup 98 pm (.int .u64 (p:Int)) false).run prog w=.ok (zFv (f p)) w:=by
 rcases h with ⟨rfl,h1,_⟩|⟨B,rfl,_,h1⟩
 ·rw [h1 p];exact Maps.look_nil false zDZ underlying98 (zero44 w) (zCy hp)
 ·exact h1.look hp
def SMV (S:Nat→Prop) (w:World) (sm:Value) (n:Nat) (c:Int) (st:Nat→Int):Prop:=
 (sm=.map none∧∀ p,p<2^64→st p=c)∨∃ B D,sm=.map (some B)∧S B∧w.ownsMap prog 29 (plainElem (H:=Nat) prog 29) B n D ∧
  ∃ g:Nat→Option Int,(∀ p,p<2^64→Maps.has D (key p)=(g p).isSome)∧(∀ p v,p<2^64→g p=some v→∀ zd,D.atKey (key p) zd=.lit (.int .u64 v))∧∀ p,p<2^64→st p=(g p).getD c
def Rise (st st':Nat→Int) (T:Nat→Prop):Prop:=∀ p,p<2^64→st p≤st' p∧(T p→st p<st' p)
theorem Rise.refl (st:Nat→Int):Rise st st (fun _=>False):=fun p _=>⟨Int.le_refl _,fun h=>h.elim⟩
variable {st st1:Nat→Int}
theorem Rise.trans {st2:Nat→Int} (h:Rise st st1 T) (k:Rise st1 st2 U):Rise st st2 (fun p=>T p∨U p):=fun p hp=>by
 have h1:=h p hp;have h2:=k p hp;refine ⟨by omega,fun h3=>?_⟩;rcases h3 with h3|h3
 ·have:=h1.2 h3;omega
 ·have:=h2.2 h3;omega
theorem Rise.mono (h:Rise st st1 T) (k:∀ p,U p→T p):Rise st st1 U:=fun p hp=>⟨(h p hp).1,fun hu=>(h p hp).2 (k p hu)⟩
def setSt (st:Nat→Int) (num:Nat) (l:Int):Nat→Int:=fun p=>if p=num then l else st p
structure Rest where
 rg:Value
 mo:Int
 ba:Int
 en:Int
theorem PMV.kept (h:PMV S w pm n f k) (hb:∀ B,pm=.map (some B)→w'.heap[B]?=w.heap[B]?):PMV S w' pm n f k:=by
 rcases h with h|⟨B,rfl,h1,h2⟩
 ·exact .inl h
 ·exact .inr ⟨B,rfl,h1,h2.of_block (hb B rfl)⟩
theorem SMV.kept (h:SMV S w sm n c st) (hb:∀ B,sm=.map (some B)→w'.heap[B]?=w.heap[B]?):SMV S w' sm n c st:=by
 rcases h with h|⟨B,D,rfl,h1,h2,h3⟩
 ·exact .inl h
 ·exact .inr ⟨B,D,rfl,h1,zBG h2 (hb B rfl),h3⟩
theorem SMV.mono (h:SMV S w sm n c st) (hn:n≤m):SMV S w sm m c st:=by
 rcases h with h|⟨B,D,h0,h1,h2,h3⟩
 ·exact .inl h
 ·exact .inr ⟨B,D,h0,h1,h2.mono hn,h3⟩
theorem PMV.mono (h:PMV S w pm n f k) (hn:n≤m):PMV S w pm m f k:=by
 rcases h with h1|⟨B,h0,h1,h2⟩
 ·exact .inl h1
 ·exact .inr ⟨B,h0,h1,h2.mono hn⟩
structure SA (Y:Rest) (S:Nat→Prop) (w:World) (sb n:Nat) (f:Nat→Option Nat) (k:Nat) (M st:Nat→Int) (pm sm:Value) (c l:Int):Prop where
 blk:w.heap[sb]?=some (.cells #[Y.rg,pm,sm,.int .u64 c,.int .u64 l,.int .i64 Y.mo,.int .u64 Y.ba,.int .u64 Y.en] 103 (0,0))
 own:S sb
 lw:0≤l∧l≤(n:Int)
 top:∀ p,p<2^64→st p≤l
 pages:PMV S w pm n f k
 stamps:SMV S w sm n c st
 apart:∀ B,pm=.map (some B)→sm≠.map (some B)
 at_:∀ p b,f p=some b→S b∧w.heap[b]?=some (.cells (zJ (zBD M p)).toArray 173 (0,0))
 inj:∀ p q b,f p=some b→f q=some b→p=q
 zero:∀ p o,f p=none→o<4096→M (p*4096+o)=0
 lim:∀ p b,f p=some b→p<67108864
def zW (Y:Rest) (S:Nat→Prop) (w:World) (sb n:Nat) (f:Nat→Option Nat) (k:Nat) (M st:Nat→Int):Prop:=∃ pm sm c l,SA Y S w sb n f k M st pm sm c l
section
variable {Y:Rest} {S T:Nat→Prop} {w w':World} {sb n k:Nat} {f:Nat→Option Nat} {M st:Nat→Int} {pm sm:Value} {c l:Int}
theorem SMV.isMap {S:Nat→Prop} {w:World} {sm:Value} {n:Nat} {c:Int} {st:Nat→Int} (h:SMV S w sm n c st) (hB:sm=.map (some B)):S B∧∃ es c,w.heap[B]?=some (.map es c):=by
 rcases h with h|⟨B',D,h0,h1,⟨es,c,h2,_⟩,_⟩
 ·rw [h.1] at hB;cases hB
 ·rw [h0] at hB;cases hB;exact ⟨h1,es,c,h2⟩
theorem PMV.isMap {S:Nat→Prop} {w:World} {pm:Value} {n k:Nat} {f:Nat→Option Nat} (h:PMV S w pm n f k) (hB:pm=.map (some B)):S B∧∃ es c,w.heap[B]?=some (.map es c):=by
 rcases h with h|⟨B',h0,h1,h2⟩
 ·rw [h.1] at hB;cases hB
 ·rw [h0] at hB;cases hB;exact ⟨h1,h2.isMap⟩
theorem SA.kept (h:SA Y S w sb n f k M st pm sm c l) (hf:Fr T w w') (hd:∀ b,S b→¬ T b):SA Y S w' sb n f k M st pm sm c l where
 blk:=hf.at_ h.blk (hd _ h.own)
 own:=h.own
 lw:=h.lw
 top:=h.top
 pages:=h.pages.kept fun B hB=>by
  obtain ⟨h1,es,c,h2⟩:=h.pages.isMap hB;rw [hf.at_ h2 (hd _ h1),h2]
 stamps:=h.stamps.kept fun B hB=>by
  obtain ⟨h1,es,c,h2⟩:=h.stamps.isMap hB;rw [hf.at_ h2 (hd _ h1),h2]
 apart:=h.apart
 at_:=fun p b hb=>⟨(h.at_ p b hb).1,hf.at_ (h.at_ p b hb).2 (hd _ (h.at_ p b hb).1)⟩
 inj:=h.inj
 zero:=h.zero
 lim:=h.lim
theorem SA.bl (h:SA Y S w sb n f k M st pm sm c l) (hf:Bl w w'):SA Y S w' sb n f k M st pm sm c l:=h.kept (T:=fun _=>False) (Fr.zP hf) (fun _ _ e=>e)
theorem zW.kept (h:zW Y S w sb n f k M st) (hf:Fr T w w') (hd:∀ b,S b→¬ T b):zW Y S w' sb n f k M st:=by
 obtain ⟨pm,sm,c,l,h⟩:=h;exact ⟨pm,sm,c,l,h.kept hf hd⟩
theorem zW.bl (h:zW Y S w sb n f k M st) (hf:Bl w w'):zW Y S w' sb n f k M st:=by
 obtain ⟨pm,sm,c,l,h⟩:=h;exact ⟨pm,sm,c,l,h.bl hf⟩
theorem SA.lt (h:SA Y S w sb n f k M st pm sm c l):sb<w.heap.size:=zG h.blk
theorem SA.among (h:SA Y S w sb n f k M st pm sm c l) (hs:∀ b,b<w.heap.size→S b→T b):SA Y T w sb n f k M st pm sm c l where
 blk:=h.blk
 own:=hs _ h.lt h.own
 lw:=h.lw
 top:=h.top
 pages:=by
  rcases h.pages with h1|⟨B,h0,h1,h2⟩
  ·exact .inl h1
  ·exact .inr ⟨B,h0,hs _ h2.lt h1,h2⟩
 stamps:=by
  rcases h.stamps with h1|⟨B,D,h0,h1,h2,h3⟩
  ·exact .inl h1
  ·exact .inr ⟨B,D,h0,hs _ h2.lt h1,h2,h3⟩
 apart:=h.apart
 at_:=fun p b hb=>⟨hs _ (zG (h.at_ p b hb).2) (h.at_ p b hb).1,(h.at_ p b hb).2⟩
 inj:=h.inj
 zero:=h.zero
 lim:=h.lim
theorem zW.among (h:zW Y S w sb n f k M st) (hs:∀ b,b<w.heap.size→S b→T b):zW Y T w sb n f k M st:=by
 obtain ⟨pm,sm,c,l,h⟩:=h;exact ⟨pm,sm,c,l,h.among hs⟩
theorem SA.mono (h:SA Y S w sb n f k M st pm sm c l) (hn:n≤m):SA Y S w sb m f k M st pm sm c l where
 blk:=h.blk
 own:=h.own
 lw:=by have:=h.lw;omega
 top:=h.top
 pages:=h.pages.mono hn
 stamps:=h.stamps.mono hn
 apart:=h.apart
 at_:=h.at_
 inj:=h.inj
 zero:=h.zero
 lim:=h.lim
theorem zW.mono (h:zW Y S w sb n f k M st) (hn:n≤m):zW Y S w sb m f k M st:=by
 obtain ⟨pm,sm,c,l,h⟩:=h;exact ⟨pm,sm,c,l,h.mono hn⟩
theorem SA.cell (h:SA Y S w sb n f k M st pm sm c l):w.cell? ⟨sb,1,none⟩=some pm∧w.cell? ⟨sb,2,none⟩=some sm∧w.cell? ⟨sb,3,none⟩=some (.int .u64 c)∧w.cell? ⟨sb,4,none⟩=some (.int .u64 l):=by
 have:=h.blk
 refine ⟨?_,?_,?_,?_⟩<;>simp [World.cell?,this]
theorem SA.free (h:SA Y S w sb n f k M st pm sm c l) (i:Nat):w.frozen? ⟨sb,i,none⟩=false:=by
 have:=h.blk
 simp [World.frozen?,this]
theorem SA.write (h:SA Y S w sb n f k M st pm sm c l) {off:Nat} {cs:List Int} (hb:f num=some b) (hfit:off+cs.length≤4096) (hg:w.grownBy w' (some b))
 (hw:w'.heap[b]?=some (.cells (zJ (splice (zBD M num) off cs)).toArray 173 (0,0))):SA Y S w' sb n f k (lay M (num*4096+off) cs) st pm sm c l:=by
 have hbb:=(h.at_ num b hb).2;have other:∀ x o,w.heap[x]?=some o→x≠b→w'.heap[x]?=some o:=fun x o hx hn=>by
  rw [hg.block x (zG hx) (fun e=>hn (by injection e))];exact hx
 refine ⟨other _ _ h.blk (fun e=>?_),h.own,h.lw,h.top,h.pages.kept fun B hB=>?_,h.stamps.kept fun B hB=>?_,h.apart,fun p x hx=>?_,h.inj,fun p o hp ho=>?_,h.lim⟩
 ·have:=h.blk;rw [e,hbb] at this;first|cases this|exact absurd (zBI this) (by decide)
 ·obtain ⟨_,es,c,h2⟩:=h.pages.isMap hB;rw [other _ _ h2 (fun e=>by rw [e,hbb] at h2;cases h2),h2]
 ·obtain ⟨_,es,c,h2⟩:=h.stamps.isMap hB;rw [other _ _ h2 (fun e=>by rw [e,hbb] at h2;cases h2),h2]
 ·by_cases e:p=num
  ·subst e;rw [hb] at hx;cases hx;exact ⟨(h.at_ p _ hb).1,by rw [pageOf_lay _ _ _ _ hfit];exact hw⟩
  ·have hne:x≠b:=fun ex=>e (h.inj p num b (ex▸hx) hb)
   refine ⟨(h.at_ p x hx).1,?_⟩;rw [zCN M _ p (fun o ho=>zGA _ _ _ _ (by omega))];exact other _ _ (h.at_ p x hx).2 hne
 ·have hpn:p≠num:=fun e=>by subst e;rw [hb] at hp;cases hp
  rw [zGA _ _ _ _ (by omega)];exact h.zero p o hp ho
end
end
section
open Go.RowKit
theorem below_far (addr n:Int) (w:World) (h:274877906944≤addr):Calls prog 70 #[.int .u64 addr,.int .i64 n] w fun e w'=>e=.returned (.int .i64 0)∧w=w':=by
 go_enter func70,ntmps70;go_wp2;go_ret;exact ⟨rfl,rfl⟩
theorem below_le (addr n:Int) (w:World) (h0:0≤addr) (h:addr<274877906944) (hn0:0≤n) (hn:n≤100000000) (h1:n≤274877906944 - addr):Calls prog 70 #[.int .u64 addr,.int .i64 n] w fun e w'=>e=.returned (.int .i64 n)∧w=w':=by
 go_enter func70,ntmps70;go_wp2;go_ret;exact ⟨rfl,rfl⟩
theorem below_gt (addr n:Int) (w:World) (h0:0≤addr) (h:addr<274877906944) (hn0:0≤n) (hn:n≤100000000) (h1:274877906944 - addr<n):Calls prog 70 #[.int .u64 addr,.int .i64 n] w fun e w'=>e=.returned (.int .i64 (274877906944 - addr))∧w=w':=by
 go_enter func70,ntmps70;go_wp2;go_ret;exact ⟨rfl,rfl⟩
def room (addr n:Nat):Nat:=min n (274877906944 - addr)
theorem zIO (addr n:Nat) (w:World) (hn:n≤100000000):Calls prog 70 #[.int .u64 (addr:Int),.int .i64 (n:Int)] w fun e w'=>e=.returned (.int .i64 (room addr n:Int))∧w=w':=by
 unfold room;by_cases h:addr<274877906944
 ·by_cases hle:n≤274877906944 - addr
  ·rw [Nat.min_eq_left hle];exact below_le _ _ w (by omega) (by omega) (by omega) (by omega) (by omega)
  ·rw [Nat.min_eq_right (by omega)];have e:((274877906944 - addr:Nat):Int)=274877906944 - (addr:Int):=by omega
   rw [e];exact below_gt _ _ w (by omega) (by omega) (by omega) (by omega) (by omega)
 ·rw [show 274877906944 - addr=0 by omega,Nat.min_zero];exact below_far _ _ w (by omega)
def span (a b:Int):Value:=.agg #[.int .u64 a,.int .u64 b]
theorem pwithin_in (a b:Int) (w:World) (h:b≤274877906944):Calls prog 112 #[.int .u64 a,.int .u64 b] w fun e w'=>e=.returned (span a b)∧Bl w w':=by
 unfold span;go_enter func112,ntmps112;go_wp2;refine bodyPost_ret (results_cell_row rfl _ _ w.heap.size 167 _ (0,0) _ rfl (heap_alloc_new w _) underlying167 rfl (by kernel_rfl)) rfl ⟨rfl,?_⟩;exact Bl.new _ _
theorem zIK (a b:Int) (w:World):Calls prog 113 #[span a b] w fun e w'=>e=.returned (.bool (decide (b≤a)))∧Bl w w':=by
 unfold span;go_enter func113,ntmps113;go_wp2;go_ret;exact ⟨rfl,Bl.new _ _⟩
theorem zIe (a b:Int) (w:World) (h0:0≤a) (h1:a≤18446744073709551615):Calls prog 117 #[span a b] w fun e w'=>e=.returned (.int .u64 (a/4096))∧Bl w w':=by
 unfold span;go_enter func117,ntmps117;go_wp2;go_ret;exact ⟨rfl,Bl.new _ _⟩
theorem zKN (a b:Int) (w:World) (hb:1≤b) (hc:b≤274877906944):Calls prog 118 #[span a b] w fun e w'=>e=.returned (.int .u64 ((b - 1)/4096))∧Bl w w':=by
 unfold span;go_enter func118,ntmps118;go_wp2;go_ret;exact ⟨rfl,Bl.new _ _⟩
variable {w w8 w9:World}
theorem keepS {x:Value} {y:Value} (h:w8.cell? ⟨b,0,none⟩=some x∧w8.cell? ⟨b,1,none⟩=some y∧Bl w w8) (k:Bl w8 w9):w9.cell? ⟨b,0,none⟩=some x∧w9.cell? ⟨b,1,none⟩=some y∧Bl w w9:=by
 obtain ⟨h1,h2,h3⟩:=h;exact ⟨by rw [k.cell (block_lt_of_cell h1)];exact h1,by rw [k.cell (block_lt_of_cell h2)];exact h2,h3.trans k⟩
theorem wide_i (a b:Int) (w:World) (ha:0≤a) (hab:a<b) (hc:b≤274877906944):Calls prog 115 #[span a b] w fun e w'=>e=.returned (.bool (decide (4096≤(b - 1)/4096 - a/4096)))∧Bl w w':=by
 have cl:=fun W=>zKN a b W (by omega) hc
 have cf:=fun W=>zIe a b W ha (by omega)
 have CL:=hid cl;clear cl;have CF:=hid cf;clear cf;have k0:Bl w (w.alloc (.cells #[.int .u64 a,.int .u64 b] 167)):=Bl.new _ _;have K0:=hid k0;clear k0;have c0:(w.alloc (.cells #[.int .u64 a,.int .u64 b] 167)).cell? ⟨w.heap.size,0,none⟩=some (.int .u64 a):=by rw [cell_of_row _ _ _ _ _ _ (heap_alloc_new w _)];rfl
 have c1:(w.alloc (.cells #[.int .u64 a,.int .u64 b] 167)).cell? ⟨w.heap.size,1,none⟩=some (.int .u64 b):=by rw [cell_of_row _ _ _ _ _ _ (heap_alloc_new w _)];rfl
 have C0:=hid c0;clear c0;have C1:=hid c1;clear c1;have hle:a/4096≤(b - 1)/4096:=by omega
 have hq0:0≤a/4096:=by omega
 have hq1:(b - 1)/4096≤67108864:=by omega
 unfold span at *;generalize (b - 1)/4096=q1 at *;generalize a/4096=q0 at *;go_enter func115,ntmps115;go_wp2;generalize w.alloc (.cells #[.int .u64 a,.int .u64 b] 167)=W at *
 go_region_held3 (fun w'=>w'.cell? ⟨w.heap.size,0,none⟩=some (.int .u64 a)∧w'.cell? ⟨w.heap.size,1,none⟩=some (.int .u64 b)∧Bl w w') (first|assumption|exact ⟨C0.out,C1.out,K0.out⟩|exact ⟨C0.out,C1.out,K0.out.drew⟩) (first|(go_at_call 118;refine (CL.out _).mono ?_;rintro e w9 ⟨rfl,k9⟩;have hkk:=keepS (by assumption) k9)|(go_at_call 117;refine (CF.out _).mono ?_;rintro e w9 ⟨rfl,k9⟩;have hkk:=keepS (by assumption) k9))
 all_goals go_wp2
 all_goals go_ret
 all_goals refine ⟨?_,hkk.2.2⟩
 all_goals rw [IntWalk.u64_in (q1 - q0) (by omega)]
 all_goals rfl
end
section
open Go.RowKit
section
variable {P:Program} (w:World) {ops:Array Oper} {rest:List Oper} {o:Oper} {a:Act} {Q:Exit→Act→World→Prop}
variable {w1:World}
theorem zFS (hg:o.guard=none) (m x v:Operand) (t:TypeId) (hop:o.op=Op.mapUpdate t m x v) (vm vx vv:Value) (hm:a.eval m=vm) (hx:a.eval x=vx) (hv:a.eval v=vv)
 (hrun:(Instr.mapUpdate t vm vx vv).run P w=.ok () w1) (hK:wpList P ops Q rest (a.put o.dst undef) w1):wpList P ops Q (o :: rest) a w:=by
 refine wpList_plain hg fun K' hK'=>?_
 unfold Oper.wp;simp [execOp,hop,hm,hx,hv,hrun,Result.andThen];exact hK' _ _ hK
end
theorem zero53 (w:World):(zeroValue 173).run prog w=.ok (.agg zeros) w:=by
 obtain ⟨i,hi,hz⟩:∃ i,prog.info? 173=some i∧i.zero=some (.agg zeros):=by
  have:=info53
  rcases h:prog.info? 173 with _|i
  ·rw [h] at this;first|cases this|exact absurd (zBI this) (by decide)
  ·rw [h] at this;simp at this;exact ⟨i,rfl,this.1⟩
 simp [zeroValue,typeInfo,hi,hz]
variable {M st st':Nat→Int} {f:Nat→Option Nat} {S:Nat→Prop} {Y:Rest} {pm sm:Value} {w w':World}
theorem SA.cells {Y':Rest} {pm' sm':Value} {c' l':Int} (h:SA Y S w sb n f k M st pm sm c l)
 (ho:∀ x,x<w.heap.size→x≠sb→w'.heap[x]?=w.heap[x]?) (hb:w'.heap[sb]?=some (.cells #[Y'.rg,pm',sm',.int .u64 c',.int .u64 l',.int .i64 Y'.mo,.int .u64 Y'.ba,.int .u64 Y'.en] 103 (0,0))) (hl:0≤l'∧l'≤(m:Int)) (ht:∀ p,p<2^64→st' p≤l')
 (hp:PMV S w' pm' m f k) (hs:SMV S w' sm' m c' st') (ha:∀ B,pm'=.map (some B)→sm'≠.map (some B)):SA Y' S w' sb m f k M st' pm' sm' c' l' where
 blk:=hb
 own:=h.own
 lw:=hl
 top:=ht
 pages:=hp
 stamps:=hs
 apart:=ha
 at_:=fun p b hb=>⟨(h.at_ p b hb).1,by
  have h2:=(h.at_ p b hb).2;rw [ho b (zG h2) (fun e=>by have:=h.blk;rw [← e,h2] at this;first|cases this|exact absurd (zBI this) (by decide))];exact h2⟩
 inj:=h.inj
 zero:=h.zero
 lim:=h.lim
theorem SA.keptP (h:SA Y S w sb n f k M st pm sm c l) (i:Nat) (u:Value):PMV S (w.setCell ⟨sb,i,none⟩ u) pm n f k:=by
 refine h.pages.kept fun B hB=>?_
 obtain ⟨_,es,q,h2⟩:=h.pages.isMap hB;exact Below.heap_setCell _ _ _ _ (fun e=>by have:=h.blk;rw [← show B=sb from e,h2] at this;first|cases this|exact absurd (zBI this) (by decide))
theorem SA.keptS (h:SA Y S w sb n f k M st pm sm c l) (i:Nat) (u:Value):SMV S (w.setCell ⟨sb,i,none⟩ u) sm n c st:=by
 refine h.stamps.kept fun B hB=>?_
 obtain ⟨_,es,q,h2⟩:=h.stamps.isMap hB;exact Below.heap_setCell _ _ _ _ (fun e=>by have:=h.blk;rw [← show B=sb from e,h2] at this;first|cases this|exact absurd (zBI this) (by decide))
theorem zCS (w:World) (sb i:Nat) (u:Value):∀ x,x<w.heap.size→x≠sb→(w.setCell ⟨sb,i,none⟩ u).heap[x]?=w.heap[x]?:=fun x _ hx=>Below.heap_setCell _ _ _ _ hx
theorem SA.setLast (h:SA Y S w sb n f k M st pm sm c l):
  SA Y S (w.setCell ⟨sb,4,none⟩ (.int .u64 (l+1))) sb (n+1) f k M st pm sm c (l+1):=by
 have:=h.lw
 exact h.cells (zCS w sb 4 _) (heap_setCell_same w sb 4 _ 103 _ h.blk) (by omega) (fun p hp=>by have:=h.top p hp;omega) ((h.keptP 4 _).mono (by omega)) ((h.keptS 4 _).mono (by omega)) h.apart
theorem zJb (x:Int):0≤IntKind.u64.wrap x∧IntKind.u64.wrap x≤18446744073709551615:=by rw [IntKind.wrap_u64];omega
theorem eq40 (w:World) (p:Option Nat):(binOp .eql 99 (.map p) (.map none)).run prog w=.ok (.bool p.isNone) w:=run_eql_map_nil_sl (P:=prog) w 99 _ _ p underlying99
theorem eq39 (w:World) (p:Option Nat):(binOp .eql 98 (.map p) (.map none)).run prog w=.ok (.bool p.isNone) w:=run_eql_map_nil_sl (P:=prog) w 98 _ _ p underlying98
theorem SA.zIm (h:SA Y S w sb n f k M st pm (.map (some B)) c l) (hnum:num<2^64) (hn:n<100000010):
  ∃ w',(Instr.mapUpdate 99 (.map (some B)) (.int .u64 (num:Int)) (.int .u64 l)).run prog w=.ok () w'∧SA Y S w' sb (n+1) f k M (setSt st num l) pm (.map (some B)) c l∧Fr S w w':=by
 rcases h.stamps with h0|⟨B',D,h0,hSB,hown,g,hg1,hg2,hg3⟩
 ·cases h0.1
 cases h0;have hv:=h.lw;have hvw:(Lit.int .u64 l).wf=true:=by
  show (decide ((0:Int)≤l)&&decide (l≤18446744073709551615))=true
  simp;omega
 obtain ⟨w',hrun,ho,ht⟩:=hown.store zDZ underlying99 (by simp only [maxLen];omega) (zCy hnum) (plainElem_int underlying29 hvw);have hg:=ht.grown;have other:∀ x o,w.heap[x]?=some o→x≠B→w'.heap[x]?=some o:=fun x o hx hne=>by
  rw [hg.block x (zG hx) (fun e=>hne (by injection e))];exact hx
 obtain ⟨_,es,q,hmap⟩:=h.stamps.isMap rfl;have hp:PMV S w' pm n f k:=h.pages.kept fun B1 hB1=>by
  obtain ⟨_,es1,q1,h2⟩:=h.pages.isMap hB1;rw [other _ _ h2 (fun e=>by subst e;exact h.apart _ hB1 rfl),h2]
 refine ⟨w',hrun,⟨other _ _ h.blk (fun e=>by have:=h.blk;rw [e,hmap] at this;first|cases this|exact absurd (zBI this) (by decide)),h.own,by omega,fun p hp=>?_,hp.mono (by omega),.inr ⟨B,_,rfl,hSB,ho,fun p=>if p=num then some l else g p,fun p hp=>?_,fun p v hp hgv zd=>?_,fun p hp=>?_⟩,h.apart,fun p b hb=>⟨(h.at_ p b hb).1,other _ _ (h.at_ p b hb).2 (fun e=>by have:=(h.at_ p b hb).2;rw [e,hmap] at this;first|cases this|exact absurd (zBI this) (by decide))⟩,h.inj,h.zero,h.lim⟩,Fr.grown hg (fun x hx=>by cases hx;exact hSB)⟩
 ·simp only [setSt]
  split
  ·exact Int.le_refl _
  ·exact h.top p hp
 ·by_cases e:p=num
  ·subst e;simp only [if_true,Option.isSome_some];exact Maps.has_put_same hown.isMap (zBN _) _
  ·simp only [if_neg e];rw [Maps.has_put_other (zDg e)];exact hg1 p hp
 ·by_cases e:p=num
  ·subst e;simp only [if_true,Option.some.injEq] at hgv;subst hgv;exact Maps.atKey_put_same hown.isMap (zBN _) _ _
  ·simp only [if_neg e] at hgv;rw [Maps.atKey_put_other (zDg e)];exact hg2 p v hp hgv zd
 ·simp only [setSt]
  split
  ·rfl
  ·exact hg3 p hp
theorem zGi (h:∀ p,p<2^64→st p≤l):Rise st (setSt st num (l+1)) (fun p=>p=num):=fun p hp=>by
 have:=h p hp
 simp only [setSt]
 split
 ·exact ⟨by omega,fun _=>by omega⟩
 ·rename_i e
  exact ⟨Int.le_refl _,fun e'=>absurd e' e⟩
theorem SA.drew (h:SA Y S w sb n f k M st pm sm c l):SA Y S w.drew sb n f k M st pm sm c l:=h.bl (Bl.refl w).drew
theorem Fr.drew {a b:World} (h:Fr S a b):Fr S a b.drew:=⟨h.os,h.tape,h.output,h.size,h.block⟩
theorem SA.stampsMade (h:SA Y S w sb n f k M st pm (.map none) c l) (hS:S w.heap.size):
  SA Y S ((w.alloc (.map #[] 0)).setCell ⟨sb,2,none⟩ (.map (some w.heap.size))) sb n f k M st pm (.map (some w.heap.size)) c l∧Fr S w ((w.alloc (.map #[] 0)).setCell ⟨sb,2,none⟩ (.map (some w.heap.size))):=by
 have hsb:=h.lt;have h':=h.bl (Bl.new w (.map #[] 0));refine ⟨?_,(Fr.zP (Bl.new w (.map #[] 0))).trans (Fr.set h.own _)⟩;have hno:∀ x,(w.alloc (.map #[] 0)).heap[x]?≠none→x≠sb→((w.alloc (.map #[] 0)).setCell ⟨sb,2,none⟩ (.map (some w.heap.size))).heap[x]?=(w.alloc (.map #[] 0)).heap[x]?:=fun x _ hx=>Below.heap_setCell _ _ _ _ hx
 refine h'.cells (zCS _ sb 2 _) (heap_setCell_same _ sb 2 _ 103 _ h'.blk) h.lw h.top (h'.keptP 2 _) ?_ ?_
 ·refine .inr ⟨w.heap.size,.map [],rfl,hS,?_,fun _=>none,fun _ _=>rfl,fun p v _ h=>(by cases h),fun p hp=>?_⟩
  ·exact (zBG (World.ownsMap_made w prog 29 (plainElem (H:=Nat) prog 29)) (Below.heap_setCell _ _ _ _ (fun e=>by have:w.heap.size=sb:=e;omega))).mono (Nat.zero_le _)
  ·rcases h.stamps with ⟨_,h0⟩|⟨B,D,h0,_⟩
   ·exact h0 p hp
   ·cases h0
 ·intro B hB e;cases e;obtain ⟨_,es,q,h2⟩:=h.pages.isMap hB
  have:=zG h2
  omega
theorem stamp_not (h:SA Y S w sb n f k M st pm (.map (some B)) c l) (num:Nat) (hnum:num<2^64) (hn:n<100000000):
  Calls prog 72 #[.pointer (some ⟨sb,1,none⟩),.int .u64 (num:Int)] w fun e w'=>e=.returned (.tuple #[])∧(∃ st',zW Y S w' sb (n+2) f k M st'∧Rise st st' (fun p=>p=num))∧Fr S w w':=by
 obtain ⟨c0,c1,c2,c3⟩:=h.cell;have f1:=h.free 2;have f3:=h.free 4;have H:=hid h;clear h;have hq:=fun W=>eq40 W (some B)
 (try unfold zB)
 go_enter func72,ntmps72;go_wp2;have hlw:=H.out.lw;have htop:=H.out.top;have hwr:=IntWalk.u64_in (l+1) (by omega);rw [hwr];have h1:=H.out.setLast;clear hwr hlw;have fr1:Fr S w (w.setCell ⟨sb,4,none⟩ (.int .u64 (l+1))):=Fr.set H.out.own _;clear c0 c1 c2 c3 f1 f3;generalize w.setCell ⟨sb,4,none⟩ (.int .u64 (l+1))=W at *;have hris:=zGi (num:=num) htop;have HR:=hid hris;clear hris htop;generalize l+1=l1 at *;obtain ⟨c0,c1,c2,c3⟩:=h1.cell;have H1:=hid h1;clear h1;have FR1:=hid fr1;clear fr1
 go_still_tail 9,(by kernel_rfl)
 change wpList _ _ _ _ _ W.drew;obtain ⟨w2,hrun,h2,fr2⟩:=H1.out.drew.zIm hnum (by omega);have H2:=hid h2;clear h2;refine zFS _ rfl (.tmp 23) (.tmp 24) (.tmp 28) 99 rfl _ _ _ rfl rfl rfl hrun ?_;clear c0 c1 c2 c3 hq hrun;go_wp2
 go_end0
 exact ⟨rfl,⟨_,⟨_,_,_,_,H2.out⟩,HR.out⟩,FR1.out.drew.trans fr2⟩
theorem stamp_nil (h:SA Y S w sb n f k M st pm (.map none) c l) (num:Nat) (hnum:num<2^64) (hn:n<100000000) (hS:S w.heap.size):
  Calls prog 72 #[.pointer (some ⟨sb,1,none⟩),.int .u64 (num:Int)] w fun e w'=>e=.returned (.tuple #[])∧(∃ st',zW Y S w' sb (n+2) f k M st'∧Rise st st' (fun p=>p=num))∧Fr S w w':=by
 obtain ⟨c0,c1,c2,c3⟩:=h.cell;have f1:=h.free 2;have f3:=h.free 4;have a1:∀ o,(w.alloc o).cell? ⟨sb,2,none⟩=some (.map none):=fun o=>(h.bl (Bl.new w o)).cell.2.1
 have af1:∀ o,(w.alloc o).frozen? ⟨sb,2,none⟩=false:=fun o=>(h.bl (Bl.new w o)).free 2
 have H:=hid h;clear h;have hq:=fun W=>eq40 W none
 have hmm:=@run_makeMap prog;(try unfold zB)
 go_enter func72,ntmps72;go_upto_region 2 with (fail);obtain ⟨h0,fr0⟩:=H.out.stampsMade hS;clear c0 c1 c2 c3 f1 f3 a1 af1 hq hmm;generalize (w.alloc (.map #[] 0)).setCell ⟨sb,2,none⟩ (.map (some w.heap.size))=W0 at *;generalize w.heap.size=B at *;obtain ⟨c0,c1,c2,c3⟩:=h0.cell;have f3:=h0.free 4;have H0:=hid h0;clear h0;have FR0:=hid fr0;clear fr0;go_wp2;have hlw:=H0.out.lw;have htop:=H0.out.top;have hwr:=IntWalk.u64_in (l+1) (by omega);rw [hwr];have h1:=H0.out.setLast;clear hwr hlw;have fr1:Fr S W0 (W0.setCell ⟨sb,4,none⟩ (.int .u64 (l+1))):=Fr.set H0.out.own _;clear c0 c1 c2 c3 f3;generalize W0.setCell ⟨sb,4,none⟩ (.int .u64 (l+1))=W at *;have hris:=zGi (num:=num) htop;have HR:=hid hris;clear hris htop;generalize l+1=l1 at *;obtain ⟨c0,c1,c2,c3⟩:=h1.cell;have H1:=hid h1;clear h1;have FR1:=hid fr1;clear fr1
 go_still_tail 9,(by kernel_rfl)
 change wpList _ _ _ _ _ W.drew;obtain ⟨w2,hrun,h2,fr2⟩:=H1.out.drew.zIm hnum (by omega);have H2:=hid h2;clear h2;refine zFS _ rfl (.tmp 23) (.tmp 24) (.tmp 28) 99 rfl _ _ _ rfl rfl rfl hrun ?_;clear c0 c1 c2 c3 hrun;go_wp2
 go_end0
 exact ⟨rfl,⟨_,⟨_,_,_,_,H2.out⟩,HR.out⟩,(FR0.out.trans FR1.out.drew).trans fr2⟩
theorem zHm (h:zW Y S w sb n f k M st) (num:Nat) (hnum:num<2^64) (hn:n<100000000) (hS:S w.heap.size):
  Calls prog 72 #[.pointer (some ⟨sb,1,none⟩),.int .u64 (num:Int)] w fun e w'=>e=.returned (.tuple #[])∧(∃ st',zW Y S w' sb (n+2) f k M st'∧Rise st st' (fun p=>p=num))∧Fr S w w':=by
 obtain ⟨pm,sm,c,l,h⟩:=h;rcases h.stamps with ⟨rfl,_⟩|⟨B,D,rfl,_⟩
 ·exact stamp_nil h num hnum hn hS
 ·exact stamp_not h num hnum hn
theorem SA.pagesMade (h:SA Y S w sb n f k M st (.map none) sm c l) (hS:S w.heap.size):
  SA Y S ((w.alloc (.map #[] 0)).setCell ⟨sb,1,none⟩ (.map (some w.heap.size))) sb n f k M st (.map (some w.heap.size)) sm c l∧Fr S w ((w.alloc (.map #[] 0)).setCell ⟨sb,1,none⟩ (.map (some w.heap.size))):=by
 have hsb:=h.lt;have h':=h.bl (Bl.new w (.map #[] 0));refine ⟨?_,(Fr.zP (Bl.new w (.map #[] 0))).trans (Fr.set h.own _)⟩;refine h'.cells (zCS _ sb 1 _) (heap_setCell_same _ sb 1 _ 103 _ h'.blk) h.lw h.top ?_ (h'.keptS 1 _) ?_
 ·refine .inr ⟨w.heap.size,rfl,hS,?_⟩;rcases h.pages with ⟨_,hf,rfl⟩|⟨B,h0,_⟩
  ·obtain rfl:f=fun _=>none:=funext hf
   exact ((PM.made w).of_block (Below.heap_setCell _ _ _ _ (fun e=>by have:w.heap.size=sb:=e;omega))).mono (Nat.zero_le _)
  ·cases h0
 ·intro B hB e;cases hB;obtain ⟨_,es,q,h2⟩:=h.stamps.isMap e
  have:=zG h2
  omega
theorem SA.zJz (h:SA Y S w sb n f k M st (.map (some B)) sm c l) (hS:S w.heap.size) (hnum:num<67108864) (hf:f num=none) (hn:n<100000000):
  ∃ w',(Instr.mapUpdate 98 (.map (some B)) (.int .u64 (num:Int)) (.pointer (some ⟨w.heap.size,0,none⟩))).run prog (w.alloc (.cells zeros 173))=.ok () w'∧SA Y S w' sb (n+1) (put1 f num (some w.heap.size)) (k+1) M st (.map (some B)) sm c l∧Fr S w w':=by
 have h':=h.bl (Bl.new w (.cells zeros 173));rcases h'.pages with ⟨h0,_⟩|⟨B',h0,hSB,hpm⟩
 ·cases h0
 cases h0;obtain ⟨w',hrun,hp,ht⟩:=hpm.put (show num<2^64 by omega) (by simp only [maxLen];omega) w.heap.size;rw [hf] at hp;have hg:=ht.grown;obtain ⟨_,es,q,hmap⟩:=h'.pages.isMap rfl;have other:∀ x o,(w.alloc (.cells zeros 173)).heap[x]?=some o→x≠B→w'.heap[x]?=some o:=fun x o hx hne=>by
  rw [hg.block x (zG hx) (fun e=>hne (by injection e))];exact hx
 have hcell:∀ (x:Nat) (cs:Array Value) (t:TypeId) (fr:Nat × Nat),(w.alloc (.cells zeros 173)).heap[x]?=some (.cells cs t fr)→w'.heap[x]?=some (.cells cs t fr):=fun x cs t fr hx =>
  other x _ hx (fun e=>by rw [e,hmap] at hx;cases hx)
 refine ⟨w',hrun,⟨hcell _ _ _ _ h'.blk,h.own,(by have:=h.lw;omega),h.top,.inr ⟨B,rfl,hSB,hp⟩,?_,h.apart,fun p b hb=>?_,fun p q b hp hq=>?_,fun p o hp ho=>?_,fun p b hb=>?_⟩,(Fr.zP (Bl.new w _)).trans (Fr.grown hg (fun x hx=>by cases hx;exact hSB))⟩
 ·have hs:SMV S w' sm n c st:=h'.stamps.kept fun B1 hB1=>by
   obtain ⟨_,es1,q1,h2⟩:=h'.stamps.isMap hB1;rw [other _ _ h2 (fun e=>by subst e;exact h.apart _ rfl hB1),h2]
  exact hs.mono (by omega)
 ·by_cases e:p=num
  ·subst e;rw [zAF] at hb;cases hb;refine ⟨hS,?_⟩;rw [zFx M p (fun o ho=>h.zero p o hf ho)];exact hcell _ _ _ _ (heap_alloc_new w _)
  ·rw [zn _ _ _ e] at hb;exact ⟨(h'.at_ p b hb).1,hcell _ _ _ _ (h'.at_ p b hb).2⟩
 ·by_cases e1:p=num
  ·by_cases e2:q=num
   ·rw [e1,e2]
   ·subst e1;rw [zAF] at hp;rw [zn _ _ _ e2] at hq;cases hp
    have:=zG (h.at_ q _ hq).2
    omega
  ·by_cases e2:q=num
   ·subst e2;rw [zAF] at hq;rw [zn _ _ _ e1] at hp;cases hq
    have:=zG (h.at_ p _ hp).2
    omega
   ·rw [zn _ _ _ e1] at hp;rw [zn _ _ _ e2] at hq;exact h.inj p q b hp hq
 ·by_cases e:p=num
  ·subst e;rw [zAF] at hp;cases hp
  ·rw [zn _ _ _ e] at hp;exact h.zero p o hp ho
 ·by_cases e:p=num
  ·omega
  ·rw [zn _ _ _ e] at hb;exact h.lim p b hb
def hf (f:Nat→Option Nat) (num b:Nat):Nat→Option Nat:=if (f num).isSome then f else put1 f num (some b)
def hk (f:Nat→Option Nat) (num k:Nat):Nat:=if (f num).isSome then k else k+1
def zFQ (Y:Rest) (S:Nat→Prop) (w:World) (sb n:Nat) (f:Nat→Option Nat) (k:Nat) (M st:Nat→Int) (num:Nat) (e:Ending) (w':World):Prop:=
 ∃ b,e=.returned (zB b)∧zW Y S w' sb (n+1) (hf f num b) (hk f num k) M st∧hf f num b num=some b∧Fr S w w'
theorem hold_there (h:SA Y S w sb n f k M st pm sm c l) (num b:Nat) (hnum:num<67108864) (hb:f num=some b):
  Calls prog 71 #[.pointer (some ⟨sb,1,none⟩),.int .u64 (num:Int)] w (zFQ Y S w sb n f k M st num):=by
 have e1:hf f num b=f:=by simp [hf,hb]
 have e2:hk f num k=k:=by simp [hk,hb]
 obtain ⟨B,rfl⟩:∃ B,pm=.map (some B):=by
  rcases h.pages with ⟨_,h1,_⟩|⟨B,h0,_⟩
  ·rw [h1 num] at hb;cases hb
  ·exact ⟨B,h0⟩
 have hlook:=h.pages.look (show num<2^64 by omega);rw [hb] at hlook;simp only [zFv,Option.map_some] at hlook;obtain ⟨c0,c1,c2,c3⟩:=h.cell;have hq:=fun W=>eq39 W (some B)
 have H:=hid h;clear h;have HB:=hid hb;clear hb;have E1:=hid e1;clear e1;have E2:=hid e2;clear e2;(try unfold zB)
 go_enter func71,ntmps71;go_wp2;go_ret;exact ⟨b,rfl,by rw [E1.out,E2.out];exact ⟨_,_,_,_,H.out.mono (by omega)⟩,by rw [E1.out];exact HB.out,Fr.refl _ _⟩
theorem hold_new (h:SA Y S w sb n f k M st (.map (some B)) sm c l) (num:Nat) (hnum:num<67108864) (hb:f num=none) (hn:n<100000000) (hS:S w.heap.size):
  Calls prog 71 #[.pointer (some ⟨sb,1,none⟩),.int .u64 (num:Int)] w (zFQ Y S w sb n f k M st num):=by
 have e1:hf f num w.heap.size=put1 f num (some w.heap.size):=by simp [hf,hb]
 have e2:hk f num k=k+1:=by simp [hk,hb]
 obtain ⟨w',hrun,h',fr'⟩:=h.zJz hS hnum hb hn;have hlook:=h.pages.look (show num<2^64 by omega);rw [hb] at hlook;simp only [zFv,Option.map_none] at hlook;obtain ⟨c0,c1,c2,c3⟩:=h.cell;have a0:∀ o,(w.alloc o).cell? ⟨sb,1,none⟩=some (.map (some B)):=fun o=>(h.bl (Bl.new w o)).cell.1
 have hq:=fun W=>eq39 W (some B)
 have hpg:=zero53;have H':=hid h';clear h';have H:=hid h;clear h;have E1:=hid e1;clear e1;have E2:=hid e2;clear e2;have HB:=hid hb;clear hb;(try unfold zB)
 go_enter func71,ntmps71;go_wp2;go_ret;exact ⟨w.heap.size,rfl,by rw [E1.out,E2.out];exact ⟨_,_,_,_,H'.out⟩,by rw [E1.out,zAF],fr'⟩
theorem hold_nil (h:SA Y S w sb n f k M st (.map none) sm c l) (num:Nat) (hnum:num<67108864) (hn:n<100000000) (hS:∀ b,w.heap.size≤b→S b):
  Calls prog 71 #[.pointer (some ⟨sb,1,none⟩),.int .u64 (num:Int)] w (zFQ Y S w sb n f k M st num):=by
 have hb:f num=none:=by
  rcases h.pages with ⟨_,h1,_⟩|⟨B,h0,_⟩
  ·exact h1 num
  ·cases h0
 obtain ⟨h0,fr0⟩:=h.pagesMade (hS _ (Nat.le_refl _));obtain ⟨c0,c1,c2,c3⟩:=h.cell;have f0:=h.free 1;have a0:∀ o,(w.alloc o).cell? ⟨sb,1,none⟩=some (.map none):=fun o=>(h.bl (Bl.new w o)).cell.1
 have af0:∀ o,(w.alloc o).frozen? ⟨sb,1,none⟩=false:=fun o=>(h.bl (Bl.new w o)).free 1
 have hq:=fun W=>eq39 W none
 have hmm:=@run_makeMap prog;have H:=hid h;clear h;have HB:=hid hb;clear hb;have H0:=hid h0;clear h0;have FR0:=hid fr0;clear fr0;(try unfold zB)
 go_enter func71,ntmps71;go_upto_region 3 with (fail);have hsz:w.heap.size≤((w.alloc (.map #[] 0)).setCell ⟨sb,1,none⟩ (.map (some w.heap.size))).heap.size:=FR0.out.size;clear c0 c1 c2 c3 f0 a0 af0 hq hmm;generalize (w.alloc (.map #[] 0)).setCell ⟨sb,1,none⟩ (.map (some w.heap.size))=W0 at *;generalize w.heap.size=B at *;have hS0:=hS _ hsz;obtain ⟨w',hrun,h',fr'⟩:=H0.out.zJz hS0 hnum HB.out hn;have hlook:=H0.out.pages.look (show num<2^64 by omega);rw [HB.out] at hlook;simp only [zFv,Option.map_none] at hlook;obtain ⟨c0,c1,c2,c3⟩:=H0.out.cell;have a0:∀ o,(W0.alloc o).cell? ⟨sb,1,none⟩=some (.map (some B)):=fun o=>(H0.out.bl (Bl.new W0 o)).cell.1
 have hpg:=zero53;have H':=hid h';clear h';have e1:hf f num W0.heap.size=put1 f num (some W0.heap.size):=by simp [hf,HB.out]
 have e2:hk f num k=k+1:=by simp [hk,HB.out]
 have E1:=hid e1;clear e1;have E2:=hid e2;clear e2;go_wp2;go_ret;exact ⟨W0.heap.size,rfl,by rw [E1.out,E2.out];exact ⟨_,_,_,_,H'.out⟩,by rw [E1.out,zAF],FR0.out.trans fr'⟩
theorem hold_any (h:zW Y S w sb n f k M st) (num:Nat) (hnum:num<67108864) (hn:n<100000000) (hS:∀ b,w.heap.size≤b→S b):
  Calls prog 71 #[.pointer (some ⟨sb,1,none⟩),.int .u64 (num:Int)] w (zFQ Y S w sb n f k M st num):=by
 obtain ⟨pm,sm,c,l,h⟩:=h;rcases hb:f num with _|b
 ·rcases h.pages with ⟨rfl,_⟩|⟨B,rfl,_⟩
  ·exact hold_nil h num hnum hn hS
  ·exact hold_new h num hnum hb hn (hS _ (Nat.le_refl _))
 ·exact hold_there h num b hnum hb
end
end Go.Proofs.YtlhpodholnfppaaGreatDoor
