/-
  Regions behind regions: join.
  lay, isSpan, isProt, Map, Unmap, New, All, Copy.
  What a search among regions in order finds: plain mathematics.
  Pages; the search among regions.
-/
import Derived.Test.YtlhpodholnfppaaGreatDoorT2
import Derived.Lib.SliceRun
import Derived.Test.YtlhpodholnfppaaGreatDoorT1
import Derived.Lib.Hide
set_option linter.unusedVariables false
set_option linter.unusedSimpArgs false
set_option maxHeartbeats 16000000
open Go.Lib (hid)
namespace Go.Proofs.YtlhpodholnfppaaGreatDoor
open Go.RowKit
set_option maxRecDepth 100000
theorem flat_set (A:List Rg) (q:Rg) (x:Int):(flat rgC (A ++ [q])).set (A.length * 3 + 1) (.int .u64 x) = flat rgC (A ++ [⟨q.s,x,q.p⟩]):=by
  rw [flat_append,flat_append]
  have hl:=flat_length rgC_len A
  rw [List.set_append,if_neg (by omega),hl,show A.length * 3 + 1 - A.length * 3 = 1 by omega]
  rfl
theorem row_end {w:World} {base g cap n:Nat} {A:List Rg} {q:Rg} (h:Row w base (.slice (some ⟨g,0,none⟩) n cap) (A ++ [q])) (x:Int) :
    Row (w.setCell ⟨g,A.length * 3 + 1,none⟩ (.int .u64 x)) base (.slice (some ⟨g,0,none⟩) n cap) (A ++ [⟨q.s,x,q.p⟩]):=by
  have hn:n = (A ++ [q]).length:=by
    obtain ⟨_,_,_,h1,_⟩:=h.form (by simp);injection h1
  subst hn
  refine ⟨?_,fun e=>by simp at e⟩
  have h1:=h.1.stored (A.length * 3 + 1) (.int .u64 x)
  rw [flat_set] at h1
  simpa using h1.1
def JoinPost (base:Nat) (w:World) (L:List Rg) (e:Ending) (w':World):Prop:=∃ v,e = .returned v∧Row w' base v L∧Below base w w'
theorem join_take (L M:List Rg) (k:Nat) (r:Rg) (hk:M[k]? = some r):join L (M.take (k + 1)) = joinOne (join L (M.take k)) r:=by
  rw [List.take_add_one,hk]
  simp [join,List.foldl_append]
theorem joinOne_len (L:List Rg) (r:Rg):(joinOne L r).length ≤ L.length + 1:=by
  rcases last_cases L with rfl | ⟨A,q,rfl⟩
  · simp [joinOne_nil]
  · by_cases hc:q.e = r.s∧q.p = r.p
    · rw [joinOne_yes A q r hc.1 hc.2];simp
    · rw [joinOne_no A q r hc];simp
theorem join_len (L M:List Rg):(join L M).length ≤ L.length + M.length:=by
  induction M generalizing L with
  | nil=>simp [join]
  | cons r M ih =>
    have:=ih (joinOne L r)
    have:=joinOne_len L r
    show (join (joinOne L r) M).length ≤ _
    simp only [List.length_cons];omega
structure JR (w:World) (base:Nat) (L M:List Rg) (bM:Nat) (vM:Value) (k:Nat) (v0:Value) (wr:World):Prop where
  row:Row wr base v0 (join L (M.take k))
  more:Row wr bM vM M
  apart:∀ g,vM.ownBlock = some g → v0.ownBlock ≠ some g
  below:Below base w wr
theorem join_any {w:World} {base bM:Nat} {vL vM:Value} {L M:List Rg} (hL:Row w base vL L) (hM:Row w bM vM M) (hne:∀ g,vM.ownBlock = some g → vL.ownBlock ≠ some g) (hbase:base ≤ w.heap.size) (hl1:L.length ≤ 10000) (hl2:M.length ≤ 10000) :
    Calls Tryz.prog 146 #[vL,vM] w (JoinPost base w (join L M)):=by
  obtain ⟨A,cap,rfl⟩:=hM.shape
  have h0:JR w base L M bM (.slice A M.length cap) 0 vL w:=⟨hL,hM,hne,Below.refl _ _⟩
  have H0:=hid h0;clear h0 hL hM hne
  have hlI:(M.length:Int) ≤ 10000:=by omega
  obtain ⟨n,hn⟩:∃ n,n = M.length:=⟨_,rfl⟩
  rw [← hn] at hlI H0 ⊢
  have HN:=hid hn;clear hn
  have HL1:=hid hl1;clear hl1
  have HL2:=hid hl2;clear hl2
  have HBASE:=hid hbase;clear hbase
  go_enter Tryz.func146,Tryz.ntmps146
  go_wp2_with fail
  go_loopw [0,6,7,10] (fun v0 _ _ i wr=>∃ k:Nat,k ≤ n∧i = .int .i64 k∧JR w base L M bM (.slice A n cap) k v0 wr) (fun _ _ _ i _=>n - (intOf i).toNat)
  case atStart=>exact ⟨0,by omega,rfl,H0.out⟩
  case round =>
    obtain ⟨k,hk,rfl,hj⟩:=hrel
    clear H0
    have HJ:=hid hj;clear hj
    by_cases hlt:k < n
    · have hltL:k < M.length:=by have:=HN.out;omega
      obtain ⟨r,hr⟩:∃ r,M[k]? = some r:=⟨M[k],List.getElem?_eq_getElem hltL⟩
      have hne:M ≠ []:=by intro e;rw [e] at hltL;simp at hltL
      obtain ⟨g,cap',cur,hA,_,hnc,hg,_⟩:=HJ.out.more.form hne
      have hA':A = some ⟨g,0,none⟩:=by injection hA
      subst hA'
      obtain ⟨c0,c1,c2⟩:=row_cells HJ.out.more k r hr
      clear hA hnc hg hne hltL
      have hstep:=join_take L M k r hr
      have HRK:=hid hr;clear hr
      have hkI:(k:Int) < (n:Int):=by omega
      rename_i v0 _ _ _
      obtain ⟨J,hJ⟩:∃ J,J = join L (M.take k):=⟨_,rfl⟩
      have hrow:=HJ.out.row
      rw [← hJ] at hrow hstep
      have hjl:J.length ≤ 20000:=by
        have h1:=join_len L (M.take k)
        have h2:=HL1.out
        have h3:=HL2.out
        rw [← hJ,List.length_take] at h1;omega
      have HS:=hid hstep;clear hstep
      have HJE:=hid hJ;clear hJ
      have HJL:=hid hjl;clear hjl
      rcases last_cases J with rfl | ⟨B,q,rfl⟩
      · obtain rfl:=hrow.2 rfl
        have HAP:=hid HJ.out.apart
        have hW:∀ j,(wr.alloc (.cells #[.int .u64 r.s,.int .u64 r.e,.int .i64 r.p] 112)).cell? ⟨wr.heap.size,j,none⟩ = (#[.int .u64 r.s,.int .u64 r.e,.int .i64 r.p]:Array Value)[j]?:=fun j=>cell_of_row _ _ j _ 112 (0,0) (heap_alloc_new wr _)
        have b0:(wr.alloc (.cells #[.int .u64 r.s,.int .u64 r.e,.int .i64 r.p] 112)).cell? ⟨wr.heap.size,0,none⟩ = some (.int .u64 r.s):=hW 0
        have b1:(wr.alloc (.cells #[.int .u64 r.s,.int .u64 r.e,.int .i64 r.p] 112)).cell? ⟨wr.heap.size,1,none⟩ = some (.int .u64 r.e):=hW 1
        have b2:(wr.alloc (.cells #[.int .u64 r.s,.int .u64 r.e,.int .i64 r.p] 112)).cell? ⟨wr.heap.size,2,none⟩ = some (.int .i64 r.p):=hW 2
        have hrow2:=hrow.bl (Bl.new wr (.cells #[.int .u64 r.s,.int .u64 r.e,.int .i64 r.p] 112))
        have hmore2:=HJ.out.more.bl (Bl.new wr (.cells #[.int .u64 r.s,.int .u64 r.e,.int .i64 r.p] 112))
        have hbb:base ≤ wr.heap.size:=Nat.le_trans HBASE.out HJ.out.below.size
        have hbel2:=HJ.out.below.alloc hbb (.cells #[.int .u64 r.s,.int .u64 r.e,.int .i64 r.p] 112)
        have hbw:base ≤ (wr.alloc (.cells #[.int .u64 r.s,.int .u64 r.e,.int .i64 r.p] 112)).heap.size:=by simp;omega
        clear hW hbb hrow
        have HROW2:=hid hrow2;clear hrow2
        have HMORE2:=hid hmore2;clear hmore2
        have HBEL2:=hid hbel2;clear hbel2
        have HBW:=hid hbw;clear hbw
        go_wp2_with fail
        generalize wr.alloc (.cells #[.int .u64 r.s,.int .u64 r.e,.int .i64 r.p] 112) = W at *
        go_quiet (fail)
        have hrowD:Row ((W.drewN nq).alloc (.cells #[.int .u64 r.s,.int .u64 r.e,.int .i64 r.p] 112)) base (.slice none 0 0) []:=(HROW2.out.bl ((Bl.refl W).drewN nq)).bl (Bl.new _ _)
        have hbel:Below base w ((W.drewN nq).alloc (.cells #[.int .u64 r.s,.int .u64 r.e,.int .i64 r.p] 112)):=(HBEL2.out.trans (((Bl.refl W).drewN nq).mono HBW.out)).alloc HBW.out _
        obtain ⟨v',W',hrun,hrow3,hgr,hown⟩:=row_push hrowD ⟨r.s,r.e,r.p⟩ W.heap.size 95 (heap_alloc_new (W.drewN nq) _) (by have:=HJL.out;omega) (Nat.le_trans HBW.out (by simp))
        have hmore:Row W' bM (.slice (some ⟨g,0,none⟩) n cap) M:=(HMORE2.out.bl (((Bl.refl W).drewN nq).alloc (.cells #[.int .u64 r.s,.int .u64 r.e,.int .i64 r.p] 112))).kept fun g' hg'=>by
          have e:g = g':=by simpa [Value.ownBlock] using hg'
          subst e
          exact hgr.block g (Nat.lt_of_lt_of_le (HMORE2.out.lt g rfl).2 (by simp)) (fun e=>HAP.out g rfl e.symm)
        have hj2:JR w base L M bM (.slice (some ⟨g,0,none⟩) n cap) (k + 1) v' W':=⟨by rw [HS.out,joinOne_nil];exact hrow3,hmore,fun g' hg' e=>by
          have e2:g = g':=by simpa [Value.ownBlock] using hg'
          subst e2
          rcases hown with e3 | e3
          · rw [e3] at e;exact HAP.out g rfl e
          · rw [e3] at e
            have:=(HMORE2.out.lt g rfl).2
            have e4:((W.drewN nq).alloc (.cells #[.int .u64 r.s,.int .u64 r.e,.int .i64 r.p] 112)).heap.size = g:=by simpa using e
            simp at e4;omega,hbel.grown hgr (Nat.le_trans HBW.out (by simp)) (fun q' hq'=>(hrowD.lt q' hq').1)⟩
        have HJ2:=hid hj2;clear hj2 hmore hrow3 hgr hown hrowD hbel
        have HRUN:=hid hrun;clear hrun
        go_wp2_with (first | (at_builtin;refine wpl_append_run rfl (.tmp 45) (.tmp 47) 95 rfl _ _ _ rfl rfl HRUN.out ?_))
        refine ⟨⟨k + 1,by omega,by go_num,HJ2.out⟩,?_⟩
        simp only [intOf];omega
      ·
        have HAP:=hid HJ.out.apart
        have hW:∀ j,(wr.alloc (.cells #[.int .u64 r.s,.int .u64 r.e,.int .i64 r.p] 112)).cell? ⟨wr.heap.size,j,none⟩ = (#[.int .u64 r.s,.int .u64 r.e,.int .i64 r.p]:Array Value)[j]?:=fun j=>cell_of_row _ _ j _ 112 (0,0) (heap_alloc_new wr _)
        have b0:(wr.alloc (.cells #[.int .u64 r.s,.int .u64 r.e,.int .i64 r.p] 112)).cell? ⟨wr.heap.size,0,none⟩ = some (.int .u64 r.s):=hW 0
        have b1:(wr.alloc (.cells #[.int .u64 r.s,.int .u64 r.e,.int .i64 r.p] 112)).cell? ⟨wr.heap.size,1,none⟩ = some (.int .u64 r.e):=hW 1
        have b2:(wr.alloc (.cells #[.int .u64 r.s,.int .u64 r.e,.int .i64 r.p] 112)).cell? ⟨wr.heap.size,2,none⟩ = some (.int .i64 r.p):=hW 2
        have hrow2:=hrow.bl (Bl.new wr (.cells #[.int .u64 r.s,.int .u64 r.e,.int .i64 r.p] 112))
        have hmore2:=HJ.out.more.bl (Bl.new wr (.cells #[.int .u64 r.s,.int .u64 r.e,.int .i64 r.p] 112))
        have hbb:base ≤ wr.heap.size:=Nat.le_trans HBASE.out HJ.out.below.size
        have hbel2:=HJ.out.below.alloc hbb (.cells #[.int .u64 r.s,.int .u64 r.e,.int .i64 r.p] 112)
        have hbw:base ≤ (wr.alloc (.cells #[.int .u64 r.s,.int .u64 r.e,.int .i64 r.p] 112)).heap.size:=by simp;omega
        clear hW hbb hrow
        have HROW2:=hid hrow2;clear hrow2
        have HMORE2:=hid hmore2;clear hmore2
        have HBEL2:=hid hbel2;clear hbel2
        have HBW:=hid hbw;clear hbw
        have hq:(B ++ [q])[B.length]? = some q:=by simp
        obtain ⟨g0,cap0,_,hv0,hbg0,_,_,_⟩:=HROW2.out.form (by simp)
        simp only [List.length_append,List.length_singleton] at hv0
        subst hv0
        obtain ⟨d0,d1,d2⟩:=row_cells HROW2.out B.length q hq
        have hBl:B.length ≤ 20000:=by have:=HJL.out;simp at this;omega
        have HE:=hid (row_end HROW2.out r.e)
        clear hq
        obtain ⟨j,hj⟩:∃ j,j = B.length:=⟨_,rfl⟩
        rw [← hj] at d0 d1 d2 hBl HE HROW2 HAP HJ ⊢
        have HJJ:=hid hj;clear hj
        have fz:=HROW2.out.free (j * 3 + 1)
        have hjI:(j:Int) ≤ 20000:=by omega
        by_cases e1:q.e = r.s
        · have t1:(q.e == r.s) = true:=by simp [e1]
          by_cases e2:q.p = r.p
          · have t2:(q.p == r.p) = true:=by simp [e2]
            have HJY:=hid (joinOne_yes B q r e1 e2)
            clear e1 e2
            go_wp2_with fail
            generalize wr.alloc (.cells #[.int .u64 r.s,.int .u64 r.e,.int .i64 r.p] 112) = W at *
            go_quiet (fail)
            have hrowE:=row_end (HROW2.out.bl ((Bl.refl W).drewN nq)) r.e
            rw [← HJJ.out] at hrowE
            have hj2:JR w base L M bM (.slice (some ⟨g,0,none⟩) n cap) (k + 1) (.slice (some ⟨g0,0,none⟩) (j + 1) cap0) ((W.drewN nq).setCell ⟨g0,j * 3 + 1,none⟩ (.int .u64 r.e)):=⟨by rw [HS.out,HJY.out];exact hrowE,(HMORE2.out.bl ((Bl.refl W).drewN nq)).kept fun g' hg'=>Below.heap_setCell _ _ _ _ (fun e=>by
              have e2:g = g':=by simpa [Value.ownBlock] using hg'
              exact HAP.out g rfl (by rw [e2,e];rfl)),fun g' hg'=>HAP.out g' hg',(HBEL2.out.trans (((Bl.refl W).drewN nq).mono HBW.out)).setCell hbg0 _⟩
            have HJ2:=hid hj2;clear hj2 hrowE
            go_wp2_with fail
            refine ⟨⟨k + 1,by omega,by go_num,HJ2.out⟩,?_⟩
            simp only [intOf];omega
          · have t2:(q.p == r.p) = false:=by simp [e2]
            have HJN:=hid (joinOne_no B q r (fun h=>e2 h.2))
            clear e1 e2
            go_wp2_with fail
            generalize wr.alloc (.cells #[.int .u64 r.s,.int .u64 r.e,.int .i64 r.p] 112) = W at *
            go_quiet (fail)
            have hrowD:Row ((W.drewN nq).alloc (.cells #[.int .u64 r.s,.int .u64 r.e,.int .i64 r.p] 112)) base (.slice (some ⟨g0,0,none⟩) (j + 1) cap0) (B ++ [q]):=(HROW2.out.bl ((Bl.refl W).drewN nq)).bl (Bl.new _ _)
            have hbel:Below base w ((W.drewN nq).alloc (.cells #[.int .u64 r.s,.int .u64 r.e,.int .i64 r.p] 112)):=(HBEL2.out.trans (((Bl.refl W).drewN nq).mono HBW.out)).alloc HBW.out _
            obtain ⟨v',W',hrun,hrow3,hgr,hown⟩:=row_push hrowD ⟨r.s,r.e,r.p⟩ W.heap.size 95 (heap_alloc_new (W.drewN nq) _) (by have:=HJL.out;omega) (Nat.le_trans HBW.out (by simp))
            have hmore:Row W' bM (.slice (some ⟨g,0,none⟩) n cap) M:=(HMORE2.out.bl (((Bl.refl W).drewN nq).alloc (.cells #[.int .u64 r.s,.int .u64 r.e,.int .i64 r.p] 112))).kept fun g' hg'=>by
              have e:g = g':=by simpa [Value.ownBlock] using hg'
              subst e
              exact hgr.block g (Nat.lt_of_lt_of_le (HMORE2.out.lt g rfl).2 (by simp)) (fun e=>HAP.out g rfl e.symm)
            have hj2:JR w base L M bM (.slice (some ⟨g,0,none⟩) n cap) (k + 1) v' W':=⟨by rw [HS.out,HJN.out];exact hrow3,hmore,fun g' hg' e=>by
              have e2:g = g':=by simpa [Value.ownBlock] using hg'
              subst e2
              rcases hown with e3 | e3
              · rw [e3] at e;exact HAP.out g rfl e
              · rw [e3] at e
                have:=(HMORE2.out.lt g rfl).2
                have e4:((W.drewN nq).alloc (.cells #[.int .u64 r.s,.int .u64 r.e,.int .i64 r.p] 112)).heap.size = g:=by simpa using e
                simp at e4;omega,hbel.grown hgr (Nat.le_trans HBW.out (by simp)) (fun q' hq'=>(hrowD.lt q' hq').1)⟩
            have HJ2:=hid hj2;clear hj2 hmore hrow3 hgr hown hrowD hbel
            have HRUN:=hid hrun;clear hrun
            go_wp2_with (first | (at_builtin;refine wpl_append_run rfl (.tmp 45) (.tmp 47) 95 rfl _ _ _ rfl rfl HRUN.out ?_))
            refine ⟨⟨k + 1,by omega,by go_num,HJ2.out⟩,?_⟩
            simp only [intOf];omega
        · have t1:(q.e == r.s) = false:=by simp [e1]
          have HJN:=hid (joinOne_no B q r (fun h=>e1 h.1))
          clear e1
          go_wp2_with fail
          generalize wr.alloc (.cells #[.int .u64 r.s,.int .u64 r.e,.int .i64 r.p] 112) = W at *
          go_quiet (fail)
          have hrowD:Row ((W.drewN nq).alloc (.cells #[.int .u64 r.s,.int .u64 r.e,.int .i64 r.p] 112)) base (.slice (some ⟨g0,0,none⟩) (j + 1) cap0) (B ++ [q]):=(HROW2.out.bl ((Bl.refl W).drewN nq)).bl (Bl.new _ _)
          have hbel:Below base w ((W.drewN nq).alloc (.cells #[.int .u64 r.s,.int .u64 r.e,.int .i64 r.p] 112)):=(HBEL2.out.trans (((Bl.refl W).drewN nq).mono HBW.out)).alloc HBW.out _
          obtain ⟨v',W',hrun,hrow3,hgr,hown⟩:=row_push hrowD ⟨r.s,r.e,r.p⟩ W.heap.size 95 (heap_alloc_new (W.drewN nq) _) (by have:=HJL.out;omega) (Nat.le_trans HBW.out (by simp))
          have hmore:Row W' bM (.slice (some ⟨g,0,none⟩) n cap) M:=(HMORE2.out.bl (((Bl.refl W).drewN nq).alloc (.cells #[.int .u64 r.s,.int .u64 r.e,.int .i64 r.p] 112))).kept fun g' hg'=>by
            have e:g = g':=by simpa [Value.ownBlock] using hg'
            subst e
            exact hgr.block g (Nat.lt_of_lt_of_le (HMORE2.out.lt g rfl).2 (by simp)) (fun e=>HAP.out g rfl e.symm)
          have hj2:JR w base L M bM (.slice (some ⟨g,0,none⟩) n cap) (k + 1) v' W':=⟨by rw [HS.out,HJN.out];exact hrow3,hmore,fun g' hg' e=>by
            have e2:g = g':=by simpa [Value.ownBlock] using hg'
            subst e2
            rcases hown with e3 | e3
            · rw [e3] at e;exact HAP.out g rfl e
            · rw [e3] at e
              have:=(HMORE2.out.lt g rfl).2
              have e4:((W.drewN nq).alloc (.cells #[.int .u64 r.s,.int .u64 r.e,.int .i64 r.p] 112)).heap.size = g:=by simpa using e
              simp at e4;omega,hbel.grown hgr (Nat.le_trans HBW.out (by simp)) (fun q' hq'=>(hrowD.lt q' hq').1)⟩
          have HJ2:=hid hj2;clear hj2 hmore hrow3 hgr hown hrowD hbel
          have HRUN:=hid hrun;clear hrun
          go_wp2_with (first | (at_builtin;refine wpl_append_run rfl (.tmp 45) (.tmp 47) 95 rfl _ _ _ rfl rfl HRUN.out ?_))
          refine ⟨⟨k + 1,by omega,by go_num,HJ2.out⟩,?_⟩
          simp only [intOf];omega
    · obtain rfl:k = n:=by omega
      have hfin:=HJ.out.row
      rw [HN.out,List.take_length] at hfin
      have HF:=hid hfin;clear hfin
      go_wp2_with fail
      go_ret
      exact ⟨_,rfl,HF.out,HJ.out.below⟩
end Go.Proofs.YtlhpodholnfppaaGreatDoor

namespace Go.Proofs.YtlhpodholnfppaaGreatDoor
open Go.RowKit
set_option maxRecDepth 100000
theorem ListFrom.bl {X:Ctx} {base:Nat} {w w':World} {b:Nat} {L:List Rg} (h:ListFrom X base w b L) (k:Bl w w'):ListFrom X base w' b L:=by
  obtain ⟨v,h1,h2⟩:=h
  exact ⟨v,k.at_ h1,h2.bl k⟩
theorem ListFrom.at0 {X:Ctx} {base:Nat} {w:World} {b:Nat} {L:List Rg} (h:ListFrom X base w b L):ListAt X w b L:=by
  obtain ⟨v,h1,h2⟩:=h
  exact ⟨v,h1,h2.base_ (b2:=0) (fun g hg=>Nat.zero_le _)⟩
theorem ListFrom.mono {X:Ctx} {base b2:Nat} {w:World} {b:Nat} {L:List Rg} (h:ListFrom X base w b L) (hb:b2 ≤ base):ListFrom X b2 w b L:=by
  obtain ⟨v,h1,h2⟩:=h
  exact ⟨v,h1,h2.base_ (fun g hg=>Nat.le_trans hb (h2.lt g hg).1)⟩
theorem ListFrom.lt {X:Ctx} {base:Nat} {w:World} {b:Nat} {L:List Rg} (h:ListFrom X base w b L):b < w.heap.size:=by
  obtain ⟨v,h1,h2⟩:=h;exact lt_at h1
theorem ListFrom.set {X:Ctx} {w:World} {b:Nat} {L L':List Rg} {v:Value} (h:ListAt X w b L) {base:Nat} (hr:Row w base v L'):ListFrom X base (w.setCell ⟨b,0,none⟩ v) b L':=by
  obtain ⟨v0,h1,h2⟩:=h
  refine ⟨v,?_,hr.kept fun g hg=>Below.heap_setCell _ _ _ _ (fun e=>?_)⟩
  · rw [heap_setCell_same w b 0 _ X.t v h1];simp
  · obtain ⟨cur,hcur⟩:=hr.type hg
    rw [show g = b from e,h1] at hcur
    injection hcur with hcur
    injection hcur with _ h3
    exact X.ne h3
def only (b:Nat):Nat → Prop:=fun k=>k = b
def LayPost (X:Ctx) (w:World) (b:Nat) (L:List Rg) (e:Ending) (w':World):Prop:=e = .returned (.int .i64 0)∧ListFrom X w.heap.size w' b L∧Fr (only b) w w'
def NoPost (w:World) (n:Int) (e:Ending) (w':World):Prop:=e = .returned (.int .i64 n)∧Bl w w'
theorem lay_ok {X:Ctx} {w:World} {b bM:Nat} {L M:List Rg} {vM:Value} (h:ListAt X w b L) (s e:Int) (hM:Row w bM vM M) (hl:L.length ≤ 256) (hm:M.length ≤ 1) (hc:(layL L s e M).length ≤ 256) :
    Calls Tryz.prog 111 #[addr0 b,.int .u64 s,.int .u64 e,vM] w (LayPost X w b (layL L s e M)):=by

  obtain ⟨vb,hvb,hvr⟩:=id h
  have hcell:w.frozen? ⟨b,0,none⟩ = false:=by simp [World.frozen?,hvb]
  have hcell2:w.cell? ⟨b,0,none⟩ = some vb:=by rw [cell_of_row w b 0 _ _ (0,0) hvb];simp
  have cw1:=within_any h 0 s (by omega)
  have hw1:=within_len L 0 s
  have hw2:=within_len L e 274877906944
  have hj1:=join_len [] (within L 0 s)
  have hj2:=join_len (join [] (within L 0 s)) M
  have hj3:=join_len (join (join [] (within L 0 s)) M) (within L e 274877906944)
  have hblt:=h.lt
  simp only [List.length_nil] at hj1
  have hll:(layL L s e M).length ≤ 2000:=by unfold layL;omega
  have HH:=hid h;clear h hvb hvr
  have HM:=hid hM;clear hM
  have CW1:=hid cw1;clear cw1
  have hl1:(join [] (within L 0 s)).length ≤ 10000:=by omega
  have hl2:(join (join [] (within L 0 s)) M).length ≤ 10000:=by omega
  have hl3:M.length ≤ 10000:=by omega
  have hl4:(within L 0 s).length ≤ 10000:=by omega
  have hl5:(within L e 274877906944).length ≤ 10000:=by omega
  clear hw1 hw2 hj1 hj2 hj3
  have HL0:=hid hl;clear hl
  have HL1:=hid hl1;clear hl1
  have HL2:=hid hl2;clear hl2
  have HL3:=hid hl3;clear hl3
  have HL4:=hid hl4;clear hl4
  have HL5:=hid hl5;clear hl5
  have HLL:=hid hll;clear hll
  have HC:=hid hc;clear hc
  unfold addr0 at *
  go_enter Tryz.func111,Tryz.ntmps111
  go_wp2_with fail
  refine (CW1.out).mono ?_
  rintro e1 w1 ⟨v1,rfl,r1,k1⟩
  have R1:=hid r1;clear r1
  have K1:=hid k1;clear k1
  clear CW1
  go_wp2_with fail
  refine (join_any (base:=w.heap.size) (RowG.nil (t:=112) (c:=rgC)) R1.out (fun g _ e=>by cases e) K1.out.size (by simp) HL4.out).mono ?_
  rintro e2 w2 ⟨v2,rfl,r2,k2⟩
  have K2:Hid (Bl w w2):=hid (Below.trans K1.out k2);clear k2
  have R2:=hid r2;clear r2
  go_wp2_with fail
  refine (join_any R2.out (HM.out.bl K2.out) (fun g hg e=>by
    have h1:=(HM.out.lt g hg).2
    have h2:=(R2.out.lt g e).1
    omega) K2.out.size HL1.out HL3.out).mono ?_
  rintro e3 w3 ⟨v3,rfl,r3,k3⟩
  have K3:Hid (Bl w w3):=hid (Below.trans K2.out k3);clear k3
  have R3:=hid r3;clear r3
  go_wp2_with fail
  refine (within_any (HH.out.bl K3.out) e 274877906944 (by have:=HL0.out;omega)).mono ?_
  rintro e4 w4 ⟨v4,rfl,r4,k4⟩
  have K4:Hid (Bl w w4):=hid (K3.out.trans k4)
  have R4:=hid r4;clear r4
  have R34:=hid (R3.out.bl k4)
  have R33:Hid (∀ g,v3.ownBlock = some g → g < w3.heap.size):=hid (fun g hg=>(R3.out.lt g hg).2)
  clear k4
  go_wp2_with fail
  refine (join_any R34.out R4.out (fun g hg e=>by
    have h1:=(R4.out.lt g hg).1
    have h2:=R33.out g e
    omega) K4.out.size HL2.out HL5.out).mono ?_
  rintro e5 w5 ⟨v5,rfl,r5,k5⟩
  have k5':Bl w w5:=Below.trans K4.out k5
  have K5:=hid k5';clear k5 k5'
  have r5':Row w5 w.heap.size v5 (layL L s e M):=r5
  have R5:=hid r5';clear r5 r5'
  obtain ⟨A,cap,hv5⟩:=R5.out.shape
  have hf:w5.frozen? ⟨b,0,none⟩ = false:=by rw [K5.out.frozen (p:=⟨b,0,none⟩) hblt];exact hcell
  have hf2:w5.cell? ⟨b,0,none⟩ = some vb:=K5.out.cell' hcell2
  obtain ⟨n,hn⟩:∃ n,n = (layL L s e M).length:=⟨_,rfl⟩
  rw [← hn] at hv5 HLL HC
  have hnI:(n:Int) ≤ 2000:=by have:=HLL.out;omega
  have hcI:=HC.out
  have HN:=hid hn;clear hn
  subst hv5
  clear hcell hcell2
  go_wp2_with fail
  go_ret
  exact ⟨rfl,(HH.out.bl K5.out).set R5.out,(Fr.of_bl K5.out).trans (Fr.set (by exact rfl) _)⟩
theorem lay_many {X:Ctx} {w:World} {b bM:Nat} {L M:List Rg} {vM:Value} (h:ListAt X w b L) (s e:Int) (hM:Row w bM vM M) (hl:L.length ≤ 256) (hm:M.length ≤ 1) (hc:256 < (layL L s e M).length) :
    Calls Tryz.prog 111 #[addr0 b,.int .u64 s,.int .u64 e,vM] w (NoPost w 12):=by

  obtain ⟨vb,hvb,hvr⟩:=id h
  have hcell:w.frozen? ⟨b,0,none⟩ = false:=by simp [World.frozen?,hvb]
  have hcell2:w.cell? ⟨b,0,none⟩ = some vb:=by rw [cell_of_row w b 0 _ _ (0,0) hvb];simp
  have cw1:=within_any h 0 s (by omega)
  have hw1:=within_len L 0 s
  have hw2:=within_len L e 274877906944
  have hj1:=join_len [] (within L 0 s)
  have hj2:=join_len (join [] (within L 0 s)) M
  have hj3:=join_len (join (join [] (within L 0 s)) M) (within L e 274877906944)
  have hblt:=h.lt
  simp only [List.length_nil] at hj1
  have hll:(layL L s e M).length ≤ 2000:=by unfold layL;omega
  have HH:=hid h;clear h hvb hvr
  have HM:=hid hM;clear hM
  have CW1:=hid cw1;clear cw1
  have hl1:(join [] (within L 0 s)).length ≤ 10000:=by omega
  have hl2:(join (join [] (within L 0 s)) M).length ≤ 10000:=by omega
  have hl3:M.length ≤ 10000:=by omega
  have hl4:(within L 0 s).length ≤ 10000:=by omega
  have hl5:(within L e 274877906944).length ≤ 10000:=by omega
  clear hw1 hw2 hj1 hj2 hj3
  have HL0:=hid hl;clear hl
  have HL1:=hid hl1;clear hl1
  have HL2:=hid hl2;clear hl2
  have HL3:=hid hl3;clear hl3
  have HL4:=hid hl4;clear hl4
  have HL5:=hid hl5;clear hl5
  have HLL:=hid hll;clear hll
  have HC:=hid hc;clear hc
  unfold addr0 at *
  go_enter Tryz.func111,Tryz.ntmps111
  go_wp2_with fail
  refine (CW1.out).mono ?_
  rintro e1 w1 ⟨v1,rfl,r1,k1⟩
  have R1:=hid r1;clear r1
  have K1:=hid k1;clear k1
  clear CW1
  go_wp2_with fail
  refine (join_any (base:=w.heap.size) (RowG.nil (t:=112) (c:=rgC)) R1.out (fun g _ e=>by cases e) K1.out.size (by simp) HL4.out).mono ?_
  rintro e2 w2 ⟨v2,rfl,r2,k2⟩
  have K2:Hid (Bl w w2):=hid (Below.trans K1.out k2);clear k2
  have R2:=hid r2;clear r2
  go_wp2_with fail
  refine (join_any R2.out (HM.out.bl K2.out) (fun g hg e=>by
    have h1:=(HM.out.lt g hg).2
    have h2:=(R2.out.lt g e).1
    omega) K2.out.size HL1.out HL3.out).mono ?_
  rintro e3 w3 ⟨v3,rfl,r3,k3⟩
  have K3:Hid (Bl w w3):=hid (Below.trans K2.out k3);clear k3
  have R3:=hid r3;clear r3
  go_wp2_with fail
  refine (within_any (HH.out.bl K3.out) e 274877906944 (by have:=HL0.out;omega)).mono ?_
  rintro e4 w4 ⟨v4,rfl,r4,k4⟩
  have K4:Hid (Bl w w4):=hid (K3.out.trans k4)
  have R4:=hid r4;clear r4
  have R34:=hid (R3.out.bl k4)
  have R33:Hid (∀ g,v3.ownBlock = some g → g < w3.heap.size):=hid (fun g hg=>(R3.out.lt g hg).2)
  clear k4
  go_wp2_with fail
  refine (join_any R34.out R4.out (fun g hg e=>by
    have h1:=(R4.out.lt g hg).1
    have h2:=R33.out g e
    omega) K4.out.size HL2.out HL5.out).mono ?_
  rintro e5 w5 ⟨v5,rfl,r5,k5⟩
  have k5':Bl w w5:=Below.trans K4.out k5
  have K5:=hid k5';clear k5 k5'
  have r5':Row w5 w.heap.size v5 (layL L s e M):=r5
  have R5:=hid r5';clear r5 r5'
  obtain ⟨A,cap,hv5⟩:=R5.out.shape
  have hf:w5.frozen? ⟨b,0,none⟩ = false:=by rw [K5.out.frozen (p:=⟨b,0,none⟩) hblt];exact hcell
  have hf2:w5.cell? ⟨b,0,none⟩ = some vb:=K5.out.cell' hcell2
  obtain ⟨n,hn⟩:∃ n,n = (layL L s e M).length:=⟨_,rfl⟩
  rw [← hn] at hv5 HLL HC
  have hnI:(n:Int) ≤ 2000:=by have:=HLL.out;omega
  have hcI:=HC.out
  have HN:=hid hn;clear hn
  subst hv5
  clear hcell hcell2
  go_wp2_with fail
  go_ret
  exact ⟨rfl,K5.out⟩
def Span (s e:Int):Prop:=s % 4096 = 0∧e % 4096 = 0∧s < e∧e ≤ 274877906944
theorem isSpan_yes (s e:Int) (w:World) (h0:0 ≤ s) (h:Span s e):Calls Tryz.prog 104 #[.int .u64 s,.int .u64 e] w fun x w'=>x = .returned (.bool true)∧w = w':=by
  obtain ⟨h1,h2,h3,h4⟩:=h
  have t1:(s % 4096 == 0) = true:=by simp [h1]
  have t2:(e % 4096 == 0) = true:=by simp [h2]
  have h5:0 ≤ e:=by omega
  have h6:s ≤ 274877906944:=by omega
  clear h1 h2
  go_enter Tryz.func104,Tryz.ntmps104
  go_wp2
  go_ret
  exact ⟨rfl,rfl⟩
theorem isSpan_no (s e:Int) (w:World) (h0:0 ≤ s) (h1:s ≤ 18446744073709551615) (h2:0 ≤ e) (h3:e ≤ 18446744073709551615) (h:¬ Span s e):Calls Tryz.prog 104 #[.int .u64 s,.int .u64 e] w fun x w'=>x = .returned (.bool false)∧w = w':=by
  by_cases a1:s % 4096 = 0
  · have t1:(s % 4096 == 0) = true:=by simp [a1]
    by_cases a2:e % 4096 = 0
    · have t2:(e % 4096 == 0) = true:=by simp [a2]
      by_cases a3:s < e
      · have a4:274877906944 < e:=by
          rcases Int.lt_or_le 274877906944 e with h4 | h4
          · exact h4
          · exact absurd ⟨a1,a2,a3,h4⟩ h
        have t3:decide (e ≤ 274877906944) = false:=by simp;omega
        clear a1 a2 h
        go_enter Tryz.func104,Tryz.ntmps104
        go_wp2
        go_ret
        exact ⟨rfl,rfl⟩
      · have a4:e ≤ s:=by omega
        clear a1 a2 h
        go_enter Tryz.func104,Tryz.ntmps104
        go_wp2
        go_ret
        exact ⟨rfl,rfl⟩
    · have t2:(e % 4096 == 0) = false:=by simp [a2]
      clear a1 a2 h
      go_enter Tryz.func104,Tryz.ntmps104
      go_wp2
      go_ret
      exact ⟨rfl,rfl⟩
  · have t1:(s % 4096 == 0) = false:=by simp [a1]
    clear a1 h
    go_enter Tryz.func104,Tryz.ntmps104
    go_wp2
    go_ret
    exact ⟨rfl,rfl⟩
theorem isProt_yes (p:Int) (w:World) (h0:0 ≤ p) (h1:p ≤ 7):Calls Tryz.prog 110 #[.int .i64 p] w fun x w'=>x = .returned (.bool true)∧w = w':=by
  go_enter Tryz.func110,Tryz.ntmps110
  go_wp2
  go_ret
  exact ⟨rfl,rfl⟩
theorem isProt_no (p:Int) (w:World) (h:¬ (0 ≤ p∧p ≤ 7)):Calls Tryz.prog 110 #[.int .i64 p] w fun x w'=>x = .returned (.bool false)∧w = w':=by
  by_cases h0:0 ≤ p
  · have h1:7 < p:=by omega
    have t1:decide (p ≤ 7) = false:=by simp;omega
    clear h
    go_enter Tryz.func110,Tryz.ntmps110
    go_wp2
    go_ret
    exact ⟨rfl,rfl⟩
  · have h1:p < 0:=by omega
    clear h
    go_enter Tryz.func110,Tryz.ntmps110
    go_wp2
    go_ret
    exact ⟨rfl,rfl⟩
theorem lit_row (w:World) (r:Rg):Row (w.alloc (.cells #[.int .u64 r.s,.int .u64 r.e,.int .i64 r.p] 112)) w.heap.size (.slice (some ⟨w.heap.size,0,none⟩) 1 1) [r]:=
  ⟨⟨rfl,.inr ⟨w.heap.size,1,_,rfl,Nat.le_refl _,heap_alloc_new w _,Nat.le_refl _,by decide,rfl,rfl⟩⟩,fun e=>by cases e⟩
theorem map_ok {X:Ctx} {w:World} {b:Nat} {L:List Rg} (h:ListAt X w b L) (s e p:Int) (h0:0 ≤ s) (hs:Span s e) (hp0:0 ≤ p) (hp1:p ≤ 7) (hl:L.length ≤ 256) (hc:(layL L s e [⟨s,e,p⟩]).length ≤ 256) :
    Calls Tryz.prog 65 #[addr0 b,.int .u64 s,.int .u64 e,.int .i64 p] w (LayPost X w b (layL L s e [⟨s,e,p⟩])):=by
  have c1:=fun W=>isSpan_yes s e W h0 hs
  have c2:=fun W=>isProt_yes p W hp0 hp1
  have c3:=lay_ok (h.bl (Bl.new w (.cells #[.int .u64 s,.int .u64 e,.int .i64 p] 112))) s e (lit_row w ⟨s,e,p⟩) hl (by simp) hc
  have C1:=hid c1;clear c1
  have C2:=hid c2;clear c2
  have C3:=hid c3;clear c3 h hs hl hc
  unfold addr0 at *
  go_enter Tryz.func65,Tryz.ntmps65
  go_wp2_with fail
  refine (C1.out _).mono ?_
  rintro e w' ⟨rfl,rfl⟩
  go_wp2_with fail
  refine (C2.out _).mono ?_
  rintro e w' ⟨rfl,rfl⟩
  go_wp2_with fail
  refine C3.out.mono ?_
  rintro e w' ⟨rfl,h1,h2⟩
  have H1:=hid h1;clear h1
  have H2:=hid h2;clear h2
  go_wp2_with fail
  go_ret
  exact ⟨rfl,H1.out.mono (by simp),(Fr.of_bl (Bl.new _ _)).trans H2.out⟩
theorem map_many {X:Ctx} {w:World} {b:Nat} {L:List Rg} (h:ListAt X w b L) (s e p:Int) (h0:0 ≤ s) (hs:Span s e) (hp0:0 ≤ p) (hp1:p ≤ 7) (hl:L.length ≤ 256) (hc:256 < (layL L s e [⟨s,e,p⟩]).length) :
    Calls Tryz.prog 65 #[addr0 b,.int .u64 s,.int .u64 e,.int .i64 p] w (NoPost w 12):=by
  have c1:=fun W=>isSpan_yes s e W h0 hs
  have c2:=fun W=>isProt_yes p W hp0 hp1
  have c3:=lay_many (h.bl (Bl.new w (.cells #[.int .u64 s,.int .u64 e,.int .i64 p] 112))) s e (lit_row w ⟨s,e,p⟩) hl (by simp) hc
  have C1:=hid c1;clear c1
  have C2:=hid c2;clear c2
  have C3:=hid c3;clear c3 h hs hl hc
  unfold addr0 at *
  go_enter Tryz.func65,Tryz.ntmps65
  go_wp2_with fail
  refine (C1.out _).mono ?_
  rintro e w' ⟨rfl,rfl⟩
  go_wp2_with fail
  refine (C2.out _).mono ?_
  rintro e w' ⟨rfl,rfl⟩
  go_wp2_with fail
  refine C3.out.mono ?_
  rintro e w' ⟨rfl,h1⟩
  have H1:=hid h1;clear h1
  go_wp2_with fail
  go_ret
  exact ⟨rfl,(Bl.new _ _).trans H1.out⟩
theorem map_no {w:World} (b:Nat) (s e p:Int) (h0:0 ≤ s) (h1:s ≤ 18446744073709551615) (h2:0 ≤ e) (h3:e ≤ 18446744073709551615) (h:¬ (Span s e∧0 ≤ p∧p ≤ 7)) :
    Calls Tryz.prog 65 #[addr0 b,.int .u64 s,.int .u64 e,.int .i64 p] w (NoPost w 22):=by
  unfold addr0 at *
  by_cases hs:Span s e
  · have c1:=fun W=>isSpan_yes s e W h0 hs
    have c2:=fun W=>isProt_no p W (fun hp=>h ⟨hs,hp⟩)
    have C1:=hid c1;clear c1
    have C2:=hid c2;clear c2 h hs
    go_enter Tryz.func65,Tryz.ntmps65
    go_wp2_with fail
    refine (C1.out _).mono ?_
    rintro e w' ⟨rfl,rfl⟩
    go_wp2_with fail
    refine (C2.out _).mono ?_
    rintro e w' ⟨rfl,rfl⟩
    go_wp2_with fail
    go_ret
    exact ⟨rfl,Bl.refl _⟩
  · have c1:=fun W=>isSpan_no s e W h0 h1 h2 h3 hs
    have C1:=hid c1;clear c1 h hs
    go_enter Tryz.func65,Tryz.ntmps65
    go_wp2_with fail
    refine (C1.out _).mono ?_
    rintro e w' ⟨rfl,rfl⟩
    go_wp2_with fail
    go_ret
    exact ⟨rfl,Bl.refl _⟩
theorem eq38 (w:World) (a:Option Addr) (n c:Nat):(binOp .eql 95 (.slice a n c) (.slice none 0 0)).run Tryz.prog w = .ok (.bool a.isNone) w:=Lib.run_eql_slice_nil (P:=Tryz.prog) w 95 112 a n c 0 0 Tryz.underlying95
theorem clone_any {w:World} {base:Nat} {v:Value} {L:List Rg} (h:Row w base v L) (hl:L.length ≤ 1000):Calls Tryz.prog 109 #[v] w (RowPost w L):=by
  by_cases hL:L = []
  · subst hL
    obtain rfl:=h.2 rfl
    clear h
    have hq:=fun W=>eq38 W none 0 0
    simp only [Option.isNone_none] at hq
    go_enter Tryz.func109,Tryz.ntmps109
    go_wp2
    go_ret
    exact ⟨_,rfl,RowG.nil,Bl.refl _⟩
  · obtain ⟨g,cap,cur,rfl,_,hnc,hg,hgl⟩:=h.form hL
    obtain ⟨i0,hi0,hz0,hz1,hz2⟩:=info_parts info51
    have hrow2:=h.bl (Bl.new w (.cells #[] 112))
    have hown:(w.alloc (.cells #[] 112)).ownsRow w.heap.size 112 3 (.slice (some ⟨w.heap.size,0,none⟩) 0 0) 0 []:=World.ownsRow_made w #[] 0 (Nat.le_refl _) (by decide) rfl
    obtain ⟨v',W',hrun,h2,h3,h4,h5⟩:=run_append_own_at (P:=Tryz.prog) (w.alloc (.cells #[] 112)) w.heap.size 95 95 112 i0 _ 3 24 Tryz.underlying95 hi0 hz0 hz1 hz2 rfl (by omega) _ 0 [] hown ⟨g,0,none⟩ L.length cap (flat rgC L) (flat_length rgC_len L) (fun j u hj=>by
      have e1:(⟨g,0,none⟩:Addr).add j = ⟨g,j,none⟩:=by unfold Addr.add;split <;> simp_all
      have hj2:j < L.length * 3:=by rw [← flat_length rgC_len L];exact (List.getElem?_eq_some_iff.1 hj).1
      rw [e1,hrow2.1.cellAt j hj2];exact hj) (fun u hu=>by
        simp only [flat,List.mem_flatMap] at hu
        obtain ⟨x,_,hx⟩:=hu
        exact rgC_one x u hx) (by simp only [maxLen];omega) (by omega) (by simp)
    have hpost:RowPost w L (.returned v') W':=⟨v',rfl,⟨by simpa using h2,fun e=>absurd e hL⟩,Below.grown (Bl.new w _) h3 (by simp) (fun k hk=>by simp [Value.ownBlock] at hk;omega)⟩
    have HP:=hid hpost;clear hpost h2 h3 h4 h5 hrow2 hown h hnc hg hgl hL hl hi0 hz0 hz1 hz2
    have HRUN:=hid hrun;clear hrun
    have hq:=fun W=>eq38 W (some ⟨g,0,none⟩) L.length cap
    simp only [Option.isNone_some] at hq
    go_enter Tryz.func109,Tryz.ntmps109
    go_wp2_with (first | (at_builtin;refine wpl_append_run rfl (.tmp 5) (.tmp 6) 95 rfl _ _ _ rfl rfl HRUN.out ?_))
    go_ret
    exact HP.out
def CopyPost (w:World) (L:List Rg) (e:Ending) (w':World):Prop:=∃ b,e = .returned (addr0 b)∧w.heap.size ≤ b∧ListFrom alone w.heap.size w' b L∧Bl w w'
theorem copy_any {X:Ctx} {w:World} {b:Nat} {L:List Rg} (h:ListAt X w b L) (hl:L.length ≤ 1000):Calls Tryz.prog 64 #[addr0 b] w (CopyPost w L):=by
  obtain ⟨v,hb,hr⟩:=h
  have hcell:w.cell? ⟨b,0,none⟩ = some v:=by rw [cell_of_row w b 0 _ _ (0,0) hb];simp
  obtain ⟨A,cap,rfl⟩:=hr.shape
  have cc:=clone_any hr hl
  have CC:=hid cc;clear cc hb hr
  have HL:=hid hl;clear hl
  unfold addr0
  go_enter Tryz.func64,Tryz.ntmps64
  go_wp2_with fail
  refine CC.out.mono ?_
  rintro e w' ⟨v,rfl,h1,h2⟩
  have H1:=hid h1;clear h1
  have H2:=hid h2;clear h2
  obtain ⟨A2,cap2,hv⟩:=H1.out.shape
  subst hv
  go_wp2_with fail
  go_ret
  exact ⟨_,rfl,H2.out.size,⟨_,heap_alloc_new _ _,H1.out.bl (Bl.new _ _)⟩,H2.out.alloc _⟩
end Go.Proofs.YtlhpodholnfppaaGreatDoor

namespace Go.Proofs.YtlhpodholnfppaaGreatDoor
theorem So.get {lo hi:Int} {L:List Rg} (h:So lo hi L) {i j:Nat} {r q:Rg} (hij:i < j) (hr:L[i]? = some r) (hq:L[j]? = some q):r.e ≤ q.s:=by
  obtain ⟨h1,rfl⟩:=List.getElem?_eq_some_iff.1 hr
  obtain ⟨h2,rfl⟩:=List.getElem?_eq_some_iff.1 hq
  exact List.pairwise_iff_getElem.1 h.1 i j h1 h2 hij
theorem So.take {lo hi:Int} {L:List Rg} (h:So lo hi L) (k:Nat):So lo hi (L.take k):=
  ⟨h.1.sublist (List.take_sublist _ _),fun r hr=>h.2 r (List.mem_of_mem_take hr)⟩
theorem tot_take (L:List Rg) (k:Nat) (r:Rg) (hk:L[k]? = some r):tot (L.take (k + 1)) = tot (L.take k) + (r.e - r.s):=by
  rw [List.take_add_one,hk,tot_append];simp [tot]
theorem seek_end {lo hi x:Int} {L:List Rg} {k:Nat} (h:So lo hi L) (h1:0 < k → ∀ r,L[k - 1]? = some r → r.e ≤ x) (h2:∀ r,L[k]? = some r → x < r.e) (hk:k ≤ L.length) {r:Rg} (hr:r ∈ L) :
    r.e ≤ x ∨ L[k]? = some r ∨ ∃ q,L[k]? = some q∧q.e ≤ r.s∧x < q.e:=by
  obtain ⟨i,hi,hir⟩:=List.mem_iff_getElem.1 hr
  have hir:L[i]? = some r:=by rw [List.getElem?_eq_getElem hi,hir]
  rcases Nat.lt_trichotomy i k with h3 | h3 | h3
  · left
    by_cases h4:i = k - 1
    · subst h4;exact h1 (by omega) r hir
    · have hk1:k - 1 < L.length:=by omega
      have h5:=h1 (by omega) L[k - 1] (List.getElem?_eq_getElem hk1)
      have h6:=h.get (i:=i) (j:=k - 1) (by omega) hir (List.getElem?_eq_getElem hk1)
      have h7:=h.2 L[k - 1] (List.getElem_mem hk1)
      omega
  · subst h3;exact .inr (.inl hir)
  · have hk1:k < L.length:=by omega
    exact .inr (.inr ⟨L[k],List.getElem?_eq_getElem hk1,h.get h3 (List.getElem?_eq_getElem hk1) hir,h2 _ (List.getElem?_eq_getElem hk1)⟩)
theorem in_seek {lo hi x p:Int} {L:List Rg} {k:Nat} (h:So lo hi L) (h1:0 < k → ∀ r,L[k - 1]? = some r → r.e ≤ x) (h2:∀ r,L[k]? = some r → x < r.e) (hk:k ≤ L.length) :
    In L x p ↔ ∃ r,L[k]? = some r∧r.s ≤ x∧r.p = p:=by
  constructor
  · rintro ⟨r,hr,a1,a2,a3⟩
    rcases seek_end h h1 h2 hk hr with b | b | ⟨q,b1,b2,b3⟩
    · omega
    · exact ⟨r,b,a1,a3⟩
    · omega
  · rintro ⟨r,hr,a1,a3⟩
    exact ⟨r,List.mem_of_getElem? hr,a1,h2 r hr,a3⟩
end Go.Proofs.YtlhpodholnfppaaGreatDoor

namespace Go.Proofs.YtlhpodholnfppaaGreatDoor
open Go.RowKit
set_option maxRecDepth 100000
def IntPost (w:World) (n:Int) (e:Ending) (w':World):Prop:=e = .returned (.int .i64 n)∧Bl w w'
theorem pages_any {X:Ctx} {w:World} {b:Nat} {L:List Rg} (h:ListAt X w b L) (hs:So 0 274877906944 L) (hl:L.length ≤ 1000) :
    Calls Tryz.prog 66 #[addr0 b] w (IntPost w (tot L / 4096)):=by
  obtain ⟨v,hb,hr⟩:=h
  obtain ⟨A,cap,rfl⟩:=hr.shape
  have hcell:w.cell? ⟨b,0,none⟩ = some (.slice A L.length cap):=by rw [cell_of_row w b 0 _ _ (0,0) hb];simp
  have hlI:(L.length:Int) ≤ 1000:=by omega
  have HR:=hid hr;clear hr
  have HB:=hid hb;clear hb
  have HSO:=hid hs;clear hs
  obtain ⟨n,hn⟩:∃ n,n = L.length:=⟨_,rfl⟩
  rw [← hn] at hcell hlI HR
  have HN:=hid hn;clear hn
  have HL:=hid hl;clear hl
  unfold addr0
  go_enter Tryz.func66,Tryz.ntmps66
  go_wp2_with fail
  go_loopw [3,5,13] (fun v3 _ i wr=>∃ k:Nat,k ≤ n∧i = .int .i64 k∧v3 = .int .u64 (tot (L.take k))∧Bl w wr) (fun _ _ i _=>n - (intOf i).toNat)
  case atStart=>exact ⟨0,by omega,rfl,rfl,Bl.refl _⟩
  case round =>
    obtain ⟨k,hk,rfl,rfl,hbl⟩:=hrel
    have HBL:=hid hbl;clear hbl
    have ht:=(HSO.out.take k).tot_le (by omega)
    obtain ⟨t1,t2⟩:=ht
    by_cases hlt:k < n
    · have hltL:k < L.length:=by have:=HN.out;omega
      obtain ⟨r,hr⟩:∃ r,L[k]? = some r:=⟨L[k],List.getElem?_eq_getElem hltL⟩
      have hne:L ≠ []:=by intro e;rw [e] at hltL;simp at hltL
      obtain ⟨g,cap',cur,hA,_,hnc,hg,_⟩:=HR.out.form hne
      have hA':A = some ⟨g,0,none⟩:=by injection hA
      subst hA'
      obtain ⟨c0,c1,c2⟩:=row_cells (HR.out.bl HBL.out) k r hr
      clear hA hnc hg hne hltL
      obtain ⟨s0,s1,s2⟩:=HSO.out.2 r (List.mem_of_getElem? hr)
      have hstep:=tot_take L k r hr
      have HS:=hid hstep;clear hstep
      have hkI:(k:Int) < (n:Int):=by omega
      clear hr
      generalize tot (L.take k) = T at *
      go_wp2_with fail
      refine ⟨⟨k + 1,by omega,by go_num,by rw [HS.out],HBL.out.alloc _⟩,?_⟩
      simp only [intOf];omega
    · obtain rfl:k = n:=by omega
      rw [HN.out,List.take_length] at t1 t2 ⊢
      generalize tot L = T at *
      go_wp2_with fail
      go_ret
      exact ⟨rfl,HBL.out⟩
theorem is42_any (r:Rg) (c:Nat) (x:Int) (w:World) (hc:w.cell? ⟨c,0,none⟩ = some (.int .u64 x)) :
    Calls Tryz.prog 69 #[.agg #[.int .u64 r.s,.int .u64 r.e,.int .i64 r.p],.pointer (some ⟨c,0,none⟩)] w fun e w'=>e = .returned (.bool (decide (x < r.e)))∧Bl w w':=by
  have hlt:=block_lt_of_cell hc
  go_enter Tryz.func69,Tryz.ntmps69
  go_wp2
  go_ret
  exact ⟨rfl,Bl.new _ _⟩
def Ask (F c:Nat) (x:Int) (q:Rg → Bool):Prop:=∀ (r:Rg) (w:World),w.cell? ⟨c,0,none⟩ = some (.int .u64 x) →
  Calls Tryz.prog F #[.agg #[.int .u64 r.s,.int .u64 r.e,.int .i64 r.p],.pointer (some ⟨c,0,none⟩)] w fun e w'=>e = .returned (.bool (q r))∧Bl w w'
def asks (F c:Nat):Value:=.func (.func F) #[] #[.pointer (some ⟨c,0,none⟩)]
structure Seek (X:Ctx) (w:World) (b bi bl c F:Nat) (x:Int) (L:List Rg):Prop where
  list:ListAt X w b L
  is:w.cell? ⟨bi,0,none⟩ = some (asks F c)
  me:w.cell? ⟨bl,0,none⟩ = some (addr0 b)
  place:w.cell? ⟨c,0,none⟩ = some (.int .u64 x)
theorem Seek.bl {X:Ctx} {w w':World} {b bi bl c F:Nat} {x:Int} {L:List Rg} (h:Seek X w b bi bl c F x L) (k:Bl w w'):Seek X w' b bi bl c F x L:=
  ⟨h.list.bl k,k.cell' h.is,k.cell' h.me,k.cell' h.place⟩
def BoolPost (w:World) (v:Bool) (e:Ending) (w':World):Prop:=e = .returned (.bool v)∧Bl w w'
theorem keepK {w w8 w9:World} {p1 p2 p3 p4 p5 p6 p7:Addr} {v1 v2 v3 v4 v5 v6 v7:Value} (h:w8.cell? p1 = some v1∧w8.cell? p2 = some v2∧w8.cell? p3 = some v3∧w8.cell? p4 = some v4∧w8.cell? p5 = some v5∧w8.cell? p6 = some v6∧w8.cell? p7 = some v7∧Bl w w8) (k:Bl w8 w9) :
    w9.cell? p1 = some v1∧w9.cell? p2 = some v2∧w9.cell? p3 = some v3∧w9.cell? p4 = some v4∧w9.cell? p5 = some v5∧w9.cell? p6 = some v6∧w9.cell? p7 = some v7∧Bl w w9:=by
  obtain ⟨h1,h2,h3,h4,h5,h6,h7,h8⟩:=h
  exact ⟨k.cell' h1,k.cell' h2,k.cell' h3,k.cell' h4,k.cell' h5,k.cell' h6,k.cell' h7,h8.trans k⟩
theorem seek1_42 {X:Ctx} {w:World} {b bi bl c:Nat} {x:Int} {L:List Rg} {q:Rg → Bool} (h:Seek X w b bi bl c 69 x L) (hq:Ask 69 c x q) (k:Nat) (r:Rg) (hk:L[k]? = some r) (hl:L.length ≤ 1000) :
    Calls Tryz.prog 120 #[.int .i64 (k:Int),.pointer (some ⟨bi,0,none⟩),.pointer (some ⟨bl,0,none⟩)] w (BoolPost w (q r)):=by
  obtain ⟨v,hb,hr⟩:=h.list
  have hlt:k < L.length:=(List.getElem?_eq_some_iff.1 hk).1
  have hne:L ≠ []:=by intro e;rw [e] at hlt;simp at hlt
  obtain ⟨g,cap,cur,rfl,_,hnc,hg,_⟩:=hr.form hne
  obtain ⟨c0,c1,c2⟩:=row_cells hr k r hk
  have hcell:w.cell? ⟨b,0,none⟩ = some (.slice (some ⟨g,0,none⟩) L.length cap):=by rw [cell_of_row w b 0 _ _ (0,0) hb];simp
  have h1:=h.is
  have h2:=h.me
  have h3:=h.place
  have hkI:(k:Int) < (L.length:Int):=by omega
  have hlI:(L.length:Int) ≤ 1000:=by omega
  have HQ:=hid hq;clear hq hb hr hnc hg hne h hk hl
  generalize L.length = n at *
  unfold asks addr0 at *
  have hS:w.cell? ⟨bi,0,none⟩ = some (.func (.func 69) #[] #[.pointer (some ⟨c,0,none⟩)])∧w.cell? ⟨bl,0,none⟩ = some (.pointer (some ⟨b,0,none⟩))∧w.cell? ⟨c,0,none⟩ = some (.int .u64 x)∧w.cell? ⟨b,0,none⟩ = some (.slice (some ⟨g,0,none⟩) n cap)∧w.cell? ⟨g,k * 3,none⟩ = some (.int .u64 r.s)∧w.cell? ⟨g,k * 3 + 1,none⟩ = some (.int .u64 r.e)∧w.cell? ⟨g,k * 3 + 2,none⟩ = some (.int .i64 r.p)∧Bl w w:=⟨h1,h2,h3,hcell,c0,c1,c2,Bl.refl _⟩
  have HS:=hid hS;clear hS h1 h2 h3 hcell c0 c1 c2
  obtain ⟨rs,re,rp⟩:=r
  simp only at HS ⊢
  go_enter Tryz.func120,Tryz.ntmps120
  go_wp2_with fail
  go_region_held3 (fun w'=>w'.cell? ⟨bi,0,none⟩ = some (.func (.func 69) #[] #[.pointer (some ⟨c,0,none⟩)])∧w'.cell? ⟨bl,0,none⟩ = some (.pointer (some ⟨b,0,none⟩))∧w'.cell? ⟨c,0,none⟩ = some (.int .u64 x)∧w'.cell? ⟨b,0,none⟩ = some (.slice (some ⟨g,0,none⟩) n cap)∧w'.cell? ⟨g,k * 3,none⟩ = some (.int .u64 rs)∧w'.cell? ⟨g,k * 3 + 1,none⟩ = some (.int .u64 re)∧w'.cell? ⟨g,k * 3 + 2,none⟩ = some (.int .i64 rp)∧Bl w w') (first | assumption | exact HS.out | exact keepK HS.out ((Bl.refl w).drewN 1)) ((go_at_call 69;refine (HQ.out ⟨rs,re,rp⟩ _ (by first | exact HS.out.2.2.1 | (rename_i hh;exact hh.2.2.1))).mono ?_;rintro e w9 ⟨rfl,k9⟩;have hkk:=keepK (by first | assumption | exact HS.out) k9))
  all_goals go_wp2
  all_goals go_ret
  all_goals exact ⟨rfl,hkk.2.2.2.2.2.2.2⟩
end Go.Proofs.YtlhpodholnfppaaGreatDoor
