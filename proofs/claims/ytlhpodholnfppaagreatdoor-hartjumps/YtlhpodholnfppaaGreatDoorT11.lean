/-
  Lay: a span is mapped anew, page by page.
  A space of the reference in memory: its block, its row of pages, each page's bytes; at, prot, get, set.
  A space of the reference: prot, get, set.
  A space of the reference: First, Bytes, Lays, Load, Probe, Store.
  A space of the reference: Lays, Load, Probe, Store.
-/
import Derived.Test.YtlhpodholnfppaaGreatDoorT10
import Derived.Deep.Cut
import Derived.Test.YtlhpodholnfppaaGreatDoorT4
import Derived.Test.YtlhpodholnfppaaGreatDoorT7
import Derived.Lib.Hide
set_option linter.unusedVariables false
set_option linter.unusedSimpArgs false
set_option maxHeartbeats 16000000
open Go.Lib (hid)
namespace Go.Proofs.YtlhpodholnfppaaGreatDoor
open Go.RowKit
set_option maxRecDepth 100000
def zero4:Obj:=.cells (asBytes (List.replicate 4096 0)).toArray 5 (0,0)
structure Zs (w1 wr:World) (N:List Pg):Prop where
  z:∀ x,x ∈ N → w1.heap.size ≤ x.b∧wr.heap[x.b]? = some zero4
  d:N.Pairwise fun x y=>x.b ≠ y.b
def SpaceFrom (base:Nat) (mo b0 b1:Int) (w:World) (b:Nat) (P:List Pg):Prop:=∃ v,w.heap[b]? = some (.cells #[v,.int .i64 mo,.int .u64 b0,.int .u64 b1] 83 (0,0))∧PRow w base v P
theorem SpaceAt.setFrom {mo b0 b1:Int} {w:World} {b:Nat} {L L':List Pg} {v:Value} (h:SpaceAt mo b0 b1 w b L) {base ba:Nat} (hr:PRow w base v L') (hb:ba ≤ base):SpaceFrom ba mo b0 b1 (w.setCell ⟨b,0,none⟩ v) b L':=by
  obtain ⟨v0,h1,h2⟩:=h
  refine ⟨v,by simpa using heap_setCell_same w b 0 _ 83 v h1,(hr.base_ (b2:=ba) (fun g hg=>Nat.le_trans hb (hr.lt g hg).1)).kept fun g hg=>Below.heap_setCell _ _ _ _ (fun e=>?_)⟩
  obtain ⟨cur,hcur⟩:=hr.type hg
  rw [show g = b from e,h1] at hcur
  exact absurd (cells_ty hcur) (by decide)
theorem Zs.nil (w1 wr:World):Zs w1 wr []:=⟨fun x h=>(by cases h),List.Pairwise.nil⟩
theorem Zs.bl {w1 wr w':World} {N:List Pg} (h:Zs w1 wr N) (k:Bl wr w'):Zs w1 w' N:=⟨fun x hx=>⟨(h.z x hx).1,k.at_ (h.z x hx).2⟩,h.d⟩
theorem Zs.grown {w1 wr w':World} {N L:List Pg} {base:Nat} {v:Value} (h:Zs w1 wr N) (hrow:PRow wr base v L) (hg:wr.grownBy w' v.ownBlock):Zs w1 w' N:=by
  refine ⟨fun x hx=>⟨(h.z x hx).1,?_⟩,h.d⟩
  obtain ⟨h1,h2⟩:=h.z x hx
  rw [hg.block x.b (lt_at h2) (fun e=>by
    obtain ⟨cur,hcur⟩:=hrow.type e.symm
    rw [h2] at hcur
    exact absurd (cells_ty hcur) (by decide))]
  exact h2
theorem Zs.set {w1 wr:World} {N:List Pg} (h:Zs w1 wr N) {p:Addr} (hp:p.block < w1.heap.size) (u:Value):Zs w1 (wr.setCell p u) N:=
  ⟨fun x hx=>⟨(h.z x hx).1,by rw [Below.heap_setCell _ _ _ _ (by have:=(h.z x hx).1;omega)];exact (h.z x hx).2⟩,h.d⟩
theorem Zs.from_ {w w1 wr:World} {N:List Pg} (h:Zs w1 wr N) (hs:w.heap.size ≤ w1.heap.size):Zs w wr N:=⟨fun x hx=>⟨by have:=(h.z x hx).1;omega,(h.z x hx).2⟩,h.d⟩
def LaidP (w w':World) (P P':List Pg) (s t p:Int):Prop:=∃ k N,P' = (outP P s t).take k ++ N ++ (outP P s t).drop k∧News p s t N∧Zs w w' N
def SetAs (P P':List Pg) (s t p:Int):Prop:=∀ a q,OnP P' a q ↔ (s ≤ a∧a < t∧p = q) ∨ ((a < s ∨ t ≤ a)∧OnP P a q)
def LayOk (mo b0 b1:Int) (w:World) (sb:Nat) (P:List Pg) (s t p:Int) (w':World):Prop:=∃ P',SpaceFrom w.heap.size mo b0 b1 w' sb P'∧Pgs 67108864 P'∧SetAs P P' s t p∧LaidP w w' P P' s t p∧Fr (only sb) w w'∧(P'.length:Int) ≤ mo∧(regs P').length ≤ 256∧(P'.length:Int) = (outP P s t).length + (t - s) / 4096
def LayNo (mo:Int) (w:World) (P:List Pg) (s t p:Int) (w':World):Prop:=Bl w w'∧(mo < (outP P s t).length + (t - s) / 4096 ∨ ∃ P',Pgs 67108864 P'∧SetAs P P' s t p∧256 < (regs P').length)
def RLayPost (mo b0 b1:Int) (w:World) (sb:Nat) (P:List Pg) (s t p:Int) (e:Ending) (w':World):Prop:=∃ r,e = .returned (.int .i64 r)∧((r = 0∧LayOk mo b0 b1 w sb P s t p w') ∨ (r = 12∧LayNo mo w P s t p w'))
structure LR (w1:World) (R:List Pg) (s:Int) (k:Nat) (v:Value) (wr:World):Prop where
  row:PRow wr w1.heap.size v (R.take k)
  low:∀ x,x ∈ R.take k → x.no * 4096 < s
  bl:Bl w1 wr
structure LN (w1:World) (R:List Pg) (p s:Int) (k:Nat) (a:Int) (v:Value) (wr:World):Prop where
  row:∃ N,News p s a N∧PRow wr w1.heap.size v (R.take k ++ N)∧Zs w1 wr N
  bl:Bl w1 wr
theorem LN.push {w1 wr:World} {R:List Pg} {p s a:Int} {k:Nat} {v:Value} (h:LN w1 R p s k a v wr) (hs:s % 4096 = 0) (ha:a < s + 33554432) (hR:R.length ≤ 5000) :
    ∃ v' W',(Builtin.append_ #[81,81] 81 #[v,.slice (some ⟨wr.heap.size + 1,0,none⟩) 1 1]).run Tryz.prog ((wr.alloc (.cells (asBytes (List.replicate 4096 0)).toArray 5)).alloc (.cells #[.int .u64 (a / 4096),.int .i64 p,.slice (some ⟨wr.heap.size,0,none⟩) 4096 4096] 87)) = .ok v' W'∧LN w1 R p s k (a + 4096) v' W':=by
  obtain ⟨⟨N,hN,hrow,hz⟩,hbl⟩:=h
  have k2:Bl wr ((wr.alloc (.cells (asBytes (List.replicate 4096 0)).toArray 5)).alloc (.cells #[.int .u64 (a / 4096),.int .i64 p,.slice (some ⟨wr.heap.size,0,none⟩) 4096 4096] 87)):=(Bl.new _ _).trans (Bl.new _ _)
  have hrow2:=hrow.bl k2
  have hb2:=hbl.trans k2
  have hz2:=hz.bl k2
  have h1:=hN.1
  have hnew:((wr.alloc (.cells (asBytes (List.replicate 4096 0)).toArray 5)).alloc (.cells #[.int .u64 (a / 4096),.int .i64 p,.slice (some ⟨wr.heap.size,0,none⟩) 4096 4096] 87)).heap[wr.heap.size]? = some zero4:=(Bl.new _ _).at_ (heap_alloc_new wr _)
  have hz3:Zs w1 ((wr.alloc (.cells (asBytes (List.replicate 4096 0)).toArray 5)).alloc (.cells #[.int .u64 (a / 4096),.int .i64 p,.slice (some ⟨wr.heap.size,0,none⟩) 4096 4096] 87)) (N ++ [⟨a / 4096,p,wr.heap.size⟩]):=by
    refine ⟨fun x hx=>?_,List.pairwise_append.2 ⟨hz2.d,List.pairwise_singleton _ _,fun x hx y hy=>?_⟩⟩
    · rcases List.mem_append.1 hx with hx | hx
      · exact hz2.z x hx
      · simp only [List.mem_singleton] at hx
        subst hx
        exact ⟨hbl.size,hnew⟩
    · simp only [List.mem_singleton] at hy
      subst hy
      have:=lt_at (hz.z x hx).2
      simp only;omega
  obtain ⟨v',W',hrun,hrow3,hgr,_⟩:=prow_push hrow2 ⟨a / 4096,p,wr.heap.size⟩ (wr.heap.size + 1) 81 (by
    have:=heap_alloc_new (wr.alloc (.cells (asBytes (List.replicate 4096 0)).toArray 5)) (.cells #[.int .u64 (a / 4096),.int .i64 p,.slice (some ⟨wr.heap.size,0,none⟩) 4096 4096] 87)
    rw [show (wr.alloc (.cells (asBytes (List.replicate 4096 0)).toArray 5)).heap.size = wr.heap.size + 1 by simp] at this
    exact this) (by rw [List.length_append,List.length_take];omega) hb2.size
  refine ⟨v',W',hrun,⟨⟨N ++ [⟨a / 4096,p,wr.heap.size⟩],hN.push _ (by simp only;omega) rfl,by rw [← List.append_assoc];exact hrow3,hz3.grown hrow2 hgr⟩,Below.grown hb2 hgr hb2.size (fun q hq=>(hrow2.lt q hq).1)⟩⟩
theorem rlay_far {mo b0 b1:Int} {w:World} (sb:Nat) (P:List Pg) (s t p:Int) (h0:0 ≤ s) (hst:s ≤ t) (ht:t ≤ 274877906944) (hd:8192 < (t - s) / 4096) (hmo:mo ≤ 4096) :
    Calls Tryz.prog 25 #[addr0 sb,.int .u64 s,.int .u64 t,.int .i64 p] w (RLayPost mo b0 b1 w sb P s t p):=by
  have hfin:LayNo mo w P s t p w:=⟨Bl.refl _,.inl (by omega)⟩
  have HF:=hid hfin;clear hfin
  unfold addr0 at *
  go_enter Tryz.func25,Tryz.ntmps25
  go_wp2_with fail
  go_ret
  exact ⟨12,rfl,.inr ⟨rfl,HF.out⟩⟩
theorem rlay_full {mo b0 b1:Int} {w:World} {sb:Nat} {P:List Pg} (h:SpaceAt mo b0 b1 w sb P) (hp:Pgs 67108864 P) (hl:P.length ≤ 5000) (s t p:Int) (h0:0 ≤ s) (hst:s ≤ t) (ht:t ≤ 274877906944) (hd:(t - s) / 4096 ≤ 8192) (hmo:0 ≤ mo) (hmo1:mo ≤ 4096) (hf:mo < (outP P s t).length + (t - s) / 4096) :
    Calls Tryz.prog 25 #[addr0 sb,.int .u64 s,.int .u64 t,.int .i64 p] w (RLayPost mo b0 b1 w sb P s t p):=by
  have cw:=without_any h hp hl s t
  have ho:=outP_len P s t
  have HH:=hid h;clear h
  have HCW:=hid cw;clear cw
  have HFF:=hid hf
  have HP:=hid hp;clear hp
  have HHL:=hid hl
  have hd0:0 ≤ (t - s) / 4096:=by omega
  unfold addr0 at *
  go_enter Tryz.func25,Tryz.ntmps25
  go_wp2_with fail
  refine HCW.out.mono ?_
  rintro e w1 ⟨v1,rfl,r1,k1⟩
  obtain ⟨A,cap,hv1⟩:=r1.shape
  subst hv1
  obtain ⟨n,hn⟩:∃ n,n = (outP P s t).length:=⟨_,rfl⟩
  rw [← hn] at r1 hf ho ⊢
  have HN:=hid hn;clear hn
  obtain ⟨AS,capS,e0,e1,_⟩:=(HH.out.bl k1).cells
  clear e0
  have hnI:(n:Int) ≤ 5000:=by omega
  have K1:=hid k1;clear k1 r1 hl ho
  go_wp2_with fail
  go_ret
  exact ⟨12,rfl,.inr ⟨rfl,K1.out,.inl HFF.out⟩⟩
theorem rlay_in {mo b0 b1:Int} {w:World} {sb:Nat} {P:List Pg} (h:SpaceAt mo b0 b1 w sb P) (hp:Pgs 67108864 P) (hl:P.length ≤ 5000) (s t p:Int) (h0:0 ≤ s) (hs:Span s t) (hmo:mo ≤ 4096) (hcnt:(outP P s t).length + (t - s) / 4096 ≤ mo) :
    Calls Tryz.prog 25 #[addr0 sb,.int .u64 s,.int .u64 t,.int .i64 p] w (RLayPost mo b0 b1 w sb P s t p):=by
  obtain ⟨s1,s2,s3,s4⟩:=hs
  have hfz:=h.frozen 0
  have cw:=without_any h hp hl s t
  have hsblt:=h.lt
  have HH:=hid h;clear h
  have HP:=hid hp;clear hp
  have HS1:=hid s1;clear s1
  have HS2:=hid s2;clear s2
  have HCW:=hid cw;clear cw
  have HCNT:=hid hcnt;clear hcnt
  have HHL:=hid hl;clear hl
  have hd0:0 ≤ (t - s) / 4096:=by omega
  have hdd:(t - s) / 4096 ≤ 4096:=by have:=HCNT.out;omega
  have hst:s ≤ t:=by omega
  have HFZ:=hid hfz;clear hfz
  have HLT:=hid hsblt;clear hsblt
  have hmk:∀ W,(Instr.makeSlice 22 (.int .i64 4096) (.int .i64 4096)).run Tryz.prog W = .ok (.slice (some ⟨W.heap.size,0,none⟩) 4096 4096) (W.alloc (.cells (asBytes (List.replicate 4096 0)).toArray 5)):=fun W=>made29 4096 (by omega) W
  have HMK:=hid hmk;clear hmk
  unfold addr0 at *
  go_enter Tryz.func25,Tryz.ntmps25
  go_wp2_with fail
  refine HCW.out.mono ?_
  rintro e w1 ⟨v1,rfl,r1,k1⟩
  obtain ⟨R,hR⟩:∃ R,R = outP P s t:=⟨_,rfl⟩
  rw [← hR] at r1 HCNT
  have HR:=hid hR;clear hR
  obtain ⟨A,cap,hv1⟩:=r1.shape
  subst hv1
  obtain ⟨n,hn⟩:∃ n,n = R.length:=⟨_,rfl⟩
  rw [← hn] at r1 HCNT ⊢
  have HN:=hid hn;clear hn
  have hcI:=HCNT.out
  have hnI:(n:Int) ≤ 4096:=by omega
  have hcI2:(n:Int) + (t - s) / 4096 ≤ mo:=by omega
  have hmo0:0 ≤ mo:=by omega
  clear hcI
  obtain ⟨AS,capS,e0,e1,_⟩:=(HH.out.bl k1).cells
  clear e0
  have R1:=hid r1;clear r1
  have K1:=hid k1;clear k1
  go_wp2_with fail
  clear e1
  go_loopw [10,11] (fun v10 i wr=>∃ k:Nat,k ≤ n∧i = .int .i64 k∧LR w1 R s k v10 wr) (fun _ i _=>n - (intOf i).toNat)
  case atStart=>exact ⟨0,by omega,rfl,⟨RowG.nil,fun x hx=>by simp at hx,Bl.refl _⟩⟩
  case round =>
    obtain ⟨k,hk,rfl,hlr⟩:=hrel
    have HLR:=hid hlr;clear hlr
    have hkI:(k:Int) ≤ (n:Int):=by omega
    by_cases hlt:k < n
    · have hltL:k < R.length:=by have:=HN.out;omega
      obtain ⟨x,hx⟩:∃ x,R[k]? = some x:=⟨R[k],List.getElem?_eq_getElem hltL⟩
      have hne:R ≠ []:=by intro e;rw [e] at hltL;simp at hltL
      obtain ⟨g,cap',cur,hA,_,hnc,hg,_⟩:=R1.out.form hne
      have hA':A = some ⟨g,0,none⟩:=by injection hA
      subst hA'
      obtain ⟨c0,c1,c2⟩:=prow_cells (R1.out.bl HLR.out.bl) k x hx
      clear hA hnc hg hne hltL
      have hxm:x ∈ outP P s t:=by rw [← HR.out];exact List.mem_of_getElem? hx
      obtain ⟨x1,x2⟩:=HP.out.2 x (outP_mem.1 hxm).1
      have x3:x.no < 67108864:=x2
      clear hxm x2
      have hltI:(k:Int) < (n:Int):=by omega
      by_cases hc:x.no * 4096 < s
      · have hrow2:=HLR.out.row.bl (Bl.new _ (.cells #[.int .u64 x.no,.int .i64 x.p,.slice (some ⟨x.b,0,none⟩) 4096 4096] 87))
        have hb2:Bl w1 (wr.alloc (.cells #[.int .u64 x.no,.int .i64 x.p,.slice (some ⟨x.b,0,none⟩) 4096 4096] 87)):=HLR.out.bl.alloc _
        obtain ⟨v',W',hrun,hrow3,hgr,_⟩:=prow_push hrow2 x wr.heap.size 81 (heap_alloc_new wr _) (by rw [List.length_take];omega) hb2.size
        have hlr2:LR w1 R s (k + 1) v' W':=⟨by rw [List.take_add_one,hx];exact hrow3,fun y hy=>by
          rw [List.take_add_one,hx] at hy
          rcases List.mem_append.1 hy with hy | hy
          · exact HLR.out.low y hy
          · simp at hy;subst hy;exact hc,Below.grown hb2 hgr hb2.size (fun q hq=>(hrow2.lt q hq).1)⟩
        have HLR2:=hid hlr2;clear hlr2 hrow3 hrow2 hb2 hgr hx
        have HRUN:=hid hrun;clear hrun
        go_wp2_with (first | (at_builtin;refine wpl_append_run rfl (.tmp 52) (.tmp 57) 81 rfl _ _ _ rfl rfl HRUN.out ?_))
        refine ⟨⟨k + 1,by omega,by go_num,HLR2.out⟩,?_⟩
        simp only [intOf];omega
      · have hc2:s ≤ x.no * 4096:=by omega
        have hsp:∀ y,y ∈ R.drop k → t ≤ y.no * 4096:=fun y hy=>by
          have h1:=split_at (by rw [HR.out];exact outP_pgs HP.out) s k (fun z hz=>by rw [hx] at hz;cases hz;exact hc2) y hy
          have h2:=(outP_mem.1 (by rw [← HR.out];exact List.mem_of_mem_drop hy:y ∈ outP P s t)).2
          omega
        have HSP:=hid hsp;clear hsp hx
        go_upto_region 11 with (fail)
        clear c0 c1 c2 hc hc2 x1 x3
        obtain ⟨V,hV⟩:∃ V,V = wr:=⟨_,rfl⟩
        subst hV
        have hln0:LN w1 R p s k s _ V:=⟨⟨[],News.nil p s,by simpa using HLR.out.row,Zs.nil _ _⟩,HLR.out.bl⟩
        have HLN0:=hid hln0;clear hln0
        have HLOW:=hid HLR.out.low;clear HLR
        go_wp2_with fail
        go_loopw [10,12] (fun v10 v12 wr=>∃ a:Int,v12 = .int .u64 a∧s ≤ a∧a ≤ t∧a % 4096 = 0∧LN w1 R p s k a v10 wr) (fun _ v12 _=>(t - intOf v12).toNat)
        case atStart=>exact ⟨s,rfl,by omega,hst,HS1.out,HLN0.out⟩
        case round =>
          obtain ⟨a,rfl,a1,a2,a3,hln⟩:=hrel
          clear HLN0
          have HLN:=hid hln;clear hln
          have HA3:=hid a3;clear a3
          by_cases hat:a < t
          · obtain ⟨v',W',hrun,hln2⟩:=HLN.out.push HS1.out (by omega) (by have:=HN.out;omega)
            have HLN2:=hid hln2;clear hln2
            have HRUN:=hid hrun;clear hrun
            have hm:=HMK.out
            go_wp2_with (first | (at_builtin;refine wpl_append_run rfl (.tmp 65) (.tmp 71) 81 rfl _ _ _ rfl rfl HRUN.out ?_))
            refine ⟨⟨a + 4096,rfl,by omega,by have:=HA3.out;have:=HS2.out;omega,by have:=HA3.out;omega,HLN2.out⟩,?_⟩
            simp only [intOf];omega
          · obtain rfl:a = t:=by omega
            obtain ⟨⟨N,hN,hrow,hzs⟩,hbl⟩:=HLN.out
            obtain ⟨p1,p2,p3,p4⟩:=part_cells (k:=k) (R1.out.bl hbl) hk
            have hsl:=fun W=>sliceFromP (some (⟨g,0,none⟩:Addr)) n cap k hk p2 W
            obtain ⟨A',hA'⟩:∃ A',A' = (if cap = k then (some (⟨g,0,none⟩:Addr)) else Option.map (·.add (k * 3)) (some (⟨g,0,none⟩:Addr))):=⟨_,rfl⟩
            obtain ⟨mm,hmm⟩:∃ mm,mm = n - k:=⟨_,rfl⟩
            obtain ⟨cc,hcc⟩:∃ cc,cc = cap - k:=⟨_,rfl⟩
            rw [← hA'] at p3 p4
            rw [← hcc] at p3
            simp only [← hA',← hmm,← hcc] at hsl
            have hN1:=hN.1
            obtain ⟨v5,W5,hrun,hrow5,hgr,_⟩:=prow_append hrow 81 A' (R.drop k) mm cc (by rw [List.length_drop,hmm,p1]) p3 p4 (by rw [List.length_append,List.length_take,List.length_drop];omega) hbl.size
            have hbl5:Bl w1 W5:=Below.grown hbl hgr hbl.size (fun q hq=>(hrow.lt q hq).1)
            have hzs5:=hzs.grown hrow hgr
            have hpg:=laid_pgs (p:=p) HP.out h0 HS1.out HS2.out s3 (by omega:a ≤ ((67108864:Nat):Int) * 4096) hN k (by rw [← HR.out];exact HLOW.out) (by rw [← HR.out];exact HSP.out)
            rw [← HR.out] at hpg
            obtain ⟨P',hP'⟩:∃ P',P' = R.take k ++ N ++ R.drop k:=⟨_,rfl⟩
            have hcount:(P'.length:Int) = n + (a - s) / 4096:=by
              rw [hP',List.length_append,List.length_append,List.length_take,List.length_drop]
              omega
            rw [← hP'] at hpg hrow5
            have HSL:=hid hsl;clear hsl
            have HRUN:=hid hrun;clear hrun
            have HROW5:=hid hrow5;clear hrow5
            have HBL5:=hid (K1.out.trans hbl5)
            have HZS:=hid (hzs5.from_ K1.out.size);clear hzs hzs5 hbl5
            have HPG:=hid hpg;clear hpg
            have HP2:=hid hP'
            have HNN:=hid hN
            clear hP' p1 p2 p3 p4 hN hN1 hrow hbl hgr hA' hmm hcc
            have hm:=HSL.out
            go_upto_region 16 with (first | (at_builtin;refine wpl_append_run rfl (.tmp 73) (.tmp 76) 81 rfl _ _ _ rfl rfl HRUN.out ?_))
            clear hm
            obtain ⟨A5,cap5,hv5⟩:=HROW5.out.shape
            have hl5:P'.length ≤ 5000:=by omega
            have hl5m:(P'.length:Int) ≤ mo:=by omega
            have HC5:=hid hcount
            have HL5:=hid hl5
            have HL5M:=hid hl5m
            obtain ⟨n5,hn5⟩:∃ n5,n5 = P'.length:=⟨_,rfl⟩
            rw [← hn5] at hv5 hl5 hl5m
            subst hv5
            clear hn5 hcount
            obtain ⟨rl,hrl⟩:∃ rl,rl = (regs P').length:=⟨_,rfl⟩
            have hrl5:=(regs_all HPG.out.1 (by omega)).2.2.2
            rw [← hrl] at hrl5
            have hrlI:(rl:Int) ≤ 5000:=by have:=HL5.out;omega
            have HRL:=hid hrl;clear hrl hrl5
            go_wp2_with fail
            refine (regions_any HROW5.out HPG.out.1 HL5.out).mono ?_
            rintro e W6 ⟨v6,rfl,r6,k6⟩
            obtain ⟨A6,cap6,hv6⟩:=r6.shape
            rw [← HRL.out] at hv6
            subst hv6
            have HBL6:=hid (HBL5.out.trans k6)
            have HZS6:=hid (HZS.out.bl k6)
            have HROW6:=hid (HROW5.out.bl k6);clear k6 r6
            obtain ⟨AS,capS,e0,e1,_⟩:=(HH.out.bl HBL6.out).cells
            have f0:W6.frozen? ⟨sb,0,none⟩ = false:=by rw [HBL6.out.frozen (p:=⟨sb,0,none⟩) HLT.out];exact HFZ.out
            by_cases hfew:rl ≤ 256
            · have hfewI:(rl:Int) ≤ 256:=by omega
              go_wp2_with fail
              go_ret
              refine ⟨0,rfl,.inl ⟨rfl,P',(HH.out.bl HBL6.out).setFrom HROW6.out K1.out.size,HPG.out.1,HPG.out.2,⟨k,N,by rw [← HR.out];exact HP2.out,HNN.out,HZS6.out.set (by exact HLT.out) _⟩,(Fr.of_bl HBL6.out).trans (Fr.set (by exact rfl) _),HL5M.out,by rw [← HRL.out];exact hfew,by rw [HC5.out,← HR.out,← HN.out]⟩⟩
            · have hfewI:256 < (rl:Int):=by omega
              go_wp2_with fail
              go_ret
              exact ⟨12,rfl,.inr ⟨rfl,HBL6.out,.inr ⟨P',HPG.out.1,HPG.out.2,by rw [← HRL.out];omega⟩⟩⟩
    · have hge:n ≤ k:=by omega
      have hgeI:(n:Int) ≤ (k:Int):=by omega
      have hsp:∀ y,y ∈ R.drop k → t ≤ y.no * 4096:=fun y hy=>by
        rw [List.drop_of_length_le (by rw [← HN.out];exact hge)] at hy
        cases hy
      have HSP:=hid hsp;clear hsp
      go_upto_region 11 with (fail)
      obtain ⟨V,hV⟩:∃ V,V = wr:=⟨_,rfl⟩
      subst hV
      have hln0:LN w1 R p s k s _ V:=⟨⟨[],News.nil p s,by simpa using HLR.out.row,Zs.nil _ _⟩,HLR.out.bl⟩
      have HLN0:=hid hln0;clear hln0
      have HLOW:=hid HLR.out.low;clear HLR
      go_wp2_with fail
      go_loopw [10,12] (fun v10 v12 wr=>∃ a:Int,v12 = .int .u64 a∧s ≤ a∧a ≤ t∧a % 4096 = 0∧LN w1 R p s k a v10 wr) (fun _ v12 _=>(t - intOf v12).toNat)
      case atStart=>exact ⟨s,rfl,by omega,hst,HS1.out,HLN0.out⟩
      case round =>
        obtain ⟨a,rfl,a1,a2,a3,hln⟩:=hrel
        clear HLN0
        have HLN:=hid hln;clear hln
        have HA3:=hid a3;clear a3
        by_cases hat:a < t
        · obtain ⟨v',W',hrun,hln2⟩:=HLN.out.push HS1.out (by omega) (by have:=HN.out;omega)
          have HLN2:=hid hln2;clear hln2
          have HRUN:=hid hrun;clear hrun
          have hm:=HMK.out
          go_wp2_with (first | (at_builtin;refine wpl_append_run rfl (.tmp 65) (.tmp 71) 81 rfl _ _ _ rfl rfl HRUN.out ?_))
          refine ⟨⟨a + 4096,rfl,by omega,by have:=HA3.out;have:=HS2.out;omega,by have:=HA3.out;omega,HLN2.out⟩,?_⟩
          simp only [intOf];omega
        · obtain rfl:a = t:=by omega
          obtain ⟨⟨N,hN,hrow,hzs⟩,hbl⟩:=HLN.out
          obtain ⟨p1,p2,p3,p4⟩:=part_cells (k:=k) (R1.out.bl hbl) hk
          have hsl:=fun W=>sliceFromP A n cap k hk p2 W
          obtain ⟨A',hA'⟩:∃ A',A' = (if cap = k then A else Option.map (·.add (k * 3)) A):=⟨_,rfl⟩
          obtain ⟨mm,hmm⟩:∃ mm,mm = n - k:=⟨_,rfl⟩
          obtain ⟨cc,hcc⟩:∃ cc,cc = cap - k:=⟨_,rfl⟩
          rw [← hA'] at p3 p4
          rw [← hcc] at p3
          simp only [← hA',← hmm,← hcc] at hsl
          have hN1:=hN.1
          obtain ⟨v5,W5,hrun,hrow5,hgr,_⟩:=prow_append hrow 81 A' (R.drop k) mm cc (by rw [List.length_drop,hmm,p1]) p3 p4 (by rw [List.length_append,List.length_take,List.length_drop];omega) hbl.size
          have hbl5:Bl w1 W5:=Below.grown hbl hgr hbl.size (fun q hq=>(hrow.lt q hq).1)
          have hzs5:=hzs.grown hrow hgr
          have hpg:=laid_pgs (p:=p) HP.out h0 HS1.out HS2.out s3 (by omega:a ≤ ((67108864:Nat):Int) * 4096) hN k (by rw [← HR.out];exact HLOW.out) (by rw [← HR.out];exact HSP.out)
          rw [← HR.out] at hpg
          obtain ⟨P',hP'⟩:∃ P',P' = R.take k ++ N ++ R.drop k:=⟨_,rfl⟩
          have hcount:(P'.length:Int) = n + (a - s) / 4096:=by
            rw [hP',List.length_append,List.length_append,List.length_take,List.length_drop]
            omega
          rw [← hP'] at hpg hrow5
          have HSL:=hid hsl;clear hsl
          have HRUN:=hid hrun;clear hrun
          have HROW5:=hid hrow5;clear hrow5
          have HBL5:=hid (K1.out.trans hbl5)
          have HZS:=hid (hzs5.from_ K1.out.size);clear hzs hzs5 hbl5
          have HPG:=hid hpg;clear hpg
          have HP2:=hid hP'
          have HNN:=hid hN
          clear hP' p1 p2 p3 p4 hN hN1 hrow hbl hgr hA' hmm hcc
          have hm:=HSL.out
          go_upto_region 16 with (first | (at_builtin;refine wpl_append_run rfl (.tmp 73) (.tmp 76) 81 rfl _ _ _ rfl rfl HRUN.out ?_))
          clear hm
          obtain ⟨A5,cap5,hv5⟩:=HROW5.out.shape
          have hl5:P'.length ≤ 5000:=by omega
          have hl5m:(P'.length:Int) ≤ mo:=by omega
          have HC5:=hid hcount
          have HL5:=hid hl5
          have HL5M:=hid hl5m
          obtain ⟨n5,hn5⟩:∃ n5,n5 = P'.length:=⟨_,rfl⟩
          rw [← hn5] at hv5 hl5 hl5m
          subst hv5
          clear hn5 hcount
          obtain ⟨rl,hrl⟩:∃ rl,rl = (regs P').length:=⟨_,rfl⟩
          have hrl5:=(regs_all HPG.out.1 (by omega)).2.2.2
          rw [← hrl] at hrl5
          have hrlI:(rl:Int) ≤ 5000:=by have:=HL5.out;omega
          have HRL:=hid hrl;clear hrl hrl5
          go_wp2_with fail
          refine (regions_any HROW5.out HPG.out.1 HL5.out).mono ?_
          rintro e W6 ⟨v6,rfl,r6,k6⟩
          obtain ⟨A6,cap6,hv6⟩:=r6.shape
          rw [← HRL.out] at hv6
          subst hv6
          have HBL6:=hid (HBL5.out.trans k6)
          have HZS6:=hid (HZS.out.bl k6)
          have HROW6:=hid (HROW5.out.bl k6);clear k6 r6
          obtain ⟨AS,capS,e0,e1,_⟩:=(HH.out.bl HBL6.out).cells
          have f0:W6.frozen? ⟨sb,0,none⟩ = false:=by rw [HBL6.out.frozen (p:=⟨sb,0,none⟩) HLT.out];exact HFZ.out
          by_cases hfew:rl ≤ 256
          · have hfewI:(rl:Int) ≤ 256:=by omega
            go_wp2_with fail
            go_ret
            refine ⟨0,rfl,.inl ⟨rfl,P',(HH.out.bl HBL6.out).setFrom HROW6.out K1.out.size,HPG.out.1,HPG.out.2,⟨k,N,by rw [← HR.out];exact HP2.out,HNN.out,HZS6.out.set (by exact HLT.out) _⟩,(Fr.of_bl HBL6.out).trans (Fr.set (by exact rfl) _),HL5M.out,by rw [← HRL.out];exact hfew,by rw [HC5.out,← HR.out,← HN.out]⟩⟩
          · have hfewI:256 < (rl:Int):=by omega
            go_wp2_with fail
            go_ret
            exact ⟨12,rfl,.inr ⟨rfl,HBL6.out,.inr ⟨P',HPG.out.1,HPG.out.2,by rw [← HRL.out];omega⟩⟩⟩
theorem rlay_any {mo b0 b1:Int} {w:World} {sb:Nat} {P:List Pg} (h:SpaceAt mo b0 b1 w sb P) (hp:Pgs 67108864 P) (hl:P.length ≤ 5000) (s t p:Int) (h0:0 ≤ s) (hs:Span s t) (hmo0:0 ≤ mo) (hmo:mo ≤ 4096) :
    Calls Tryz.prog 25 #[addr0 sb,.int .u64 s,.int .u64 t,.int .i64 p] w (RLayPost mo b0 b1 w sb P s t p):=by
  have hs2:=hs
  obtain ⟨s1,s2,s3,s4⟩:=hs2
  by_cases h1:8192 < (t - s) / 4096
  · exact rlay_far sb P s t p h0 (by omega) (by omega) h1 hmo
  · by_cases h2:mo < (outP P s t).length + (t - s) / 4096
    · exact rlay_full h hp hl s t p h0 (by omega) (by omega) (by omega) hmo0 hmo h2
    · exact rlay_in h hp hl s t p h0 hs hmo (by omega)
end Go.Proofs.YtlhpodholnfppaaGreatDoor

namespace Go.Proofs.YtlhpodholnfppaaGreatDoor
open Go.RowKit
set_option maxRecDepth 100000
def byteRow (M:Nat → Int) (no:Int):Obj:=.cells (asBytes (pageOf M no.toNat)).toArray 5 (0,0)
structure RP (S:Nat → Prop) (w:World) (rb:Nat) (P:List Pg) (M:Nat → Int) (mo b0 b1:Int):Prop where
  sp:∃ v,w.heap[rb]? = some (.cells #[v,.int .i64 mo,.int .u64 b0,.int .u64 b1] 83 (0,0))∧PRow w 0 v P∧∀ g,v.ownBlock = some g → S g
  own:S rb
  pgs:Pgs 67108864 P
  pr:∀ x,x ∈ P → 0 ≤ x.p∧x.p ≤ 7
  len:(P.length:Int) ≤ mo
  mo_:0 ≤ mo∧mo ≤ 4096
  by_:∀ x,0 ≤ M x∧M x ≤ 255
  pages:∀ x,x ∈ P → S x.b∧w.heap[x.b]? = some (byteRow M x.no)
  apart:P.Pairwise fun x y=>x.b ≠ y.b
  out:∀ a:Nat,(∀ q,¬ OnP P a q) → M a = 0
section
variable {S:Nat → Prop} {w w':World} {rb:Nat} {P:List Pg} {M:Nat → Int} {mo b0 b1:Int}
theorem RP.space (h:RP S w rb P M mo b0 b1):SpaceAt mo b0 b1 w rb P:=by
  obtain ⟨v,h1,h2,_⟩:=h.sp
  exact ⟨v,h1,h2⟩
theorem RP.lt (h:RP S w rb P M mo b0 b1):rb < w.heap.size:=h.space.lt
theorem RP.few (h:RP S w rb P M mo b0 b1):P.length ≤ 4096:=by have:=h.len;have:=h.mo_;omega
theorem RP.block (h:RP S w rb P M mo b0 b1) (hb:∀ b,b < w.heap.size → S b → w'.heap[b]? = w.heap[b]?):RP S w' rb P M mo b0 b1:=by
  obtain ⟨v,h1,h2,h3⟩:=h.sp
  refine ⟨⟨v,by rw [hb rb h.lt h.own];exact h1,h2.kept fun g hg=>hb g (h2.lt g hg).2 (h3 g hg),h3⟩,h.own,h.pgs,h.pr,h.len,h.mo_,h.by_,fun x hx=>?_,h.apart,h.out⟩
  obtain ⟨h4,h5⟩:=h.pages x hx
  exact ⟨h4,by rw [hb x.b (lt_at h5) h4];exact h5⟩
theorem RP.bl (h:RP S w rb P M mo b0 b1) (k:Bl w w'):RP S w' rb P M mo b0 b1:=h.block fun b hb _=>k.block b hb
theorem RP.kept (h:RP S w rb P M mo b0 b1) {U:Nat → Prop} (hf:Fr U w w') (hd:∀ b,b < w.heap.size → S b → ¬ U b):RP S w' rb P M mo b0 b1:=h.block fun b hb hS=>hf.block b hb (hd b hb hS)
theorem RP.among (h:RP S w rb P M mo b0 b1) {U:Nat → Prop} (hs:∀ b,b < w.heap.size → S b → U b):RP U w rb P M mo b0 b1:=by
  obtain ⟨v,h1,h2,h3⟩:=h.sp
  refine ⟨⟨v,h1,h2,fun g hg=>hs g (h2.lt g hg).2 (h3 g hg)⟩,hs rb h.lt h.own,h.pgs,h.pr,h.len,h.mo_,h.by_,fun x hx=>?_,h.apart,h.out⟩
  obtain ⟨h4,h5⟩:=h.pages x hx
  exact ⟨hs _ (lt_at h5) h4,h5⟩
end
def AtIs (P:List Pg) (no:Int) (j:Nat) (ok:Bool):Prop:=(ok = true∧∃ x,P[j]? = some x∧x.no = no) ∨ (ok = false∧∀ x,x ∈ P → x.no ≠ no)
def RAtPost (w:World) (P:List Pg) (no:Int) (e:Ending) (w':World):Prop:=∃ (j:Nat) (ok:Bool),e = .returned (.tuple #[.int .i64 j,.bool ok])∧AtIs P no j ok∧Bl w w'
def Halved (P:List Pg) (no:Int) (lo hi:Nat):Prop:=∀ i x,P[i]? = some x → (i < lo → x.no < no)∧(hi ≤ i → no ≤ x.no)
theorem Halved.low {P:List Pg} {no:Int} {lo hi m:Nat} {x:Pg} (h:Halved P no lo hi) (hp:Pgs 67108864 P) (hx:P[m]? = some x) (hn:x.no < no):Halved P no (m + 1) hi:=fun i y hy=>by
  refine ⟨fun hi'=>?_,(h i y hy).2⟩
  rcases Nat.lt_or_ge i m with h1 | h1
  · have h2:=(List.getElem?_eq_some_iff.1 hy).1
    have h3:=(List.getElem?_eq_some_iff.1 hx).1
    have:=List.pairwise_iff_getElem.1 hp.1 i m h2 h3 h1
    rw [(List.getElem?_eq_some_iff.1 hy).2,(List.getElem?_eq_some_iff.1 hx).2] at this
    omega
  · obtain rfl:i = m:=by omega
    rw [hx] at hy;cases hy;exact hn
theorem Halved.high {P:List Pg} {no:Int} {lo hi m:Nat} {x:Pg} (h:Halved P no lo hi) (hp:Pgs 67108864 P) (hx:P[m]? = some x) (hn:no ≤ x.no):Halved P no lo m:=fun i y hy=>by
  refine ⟨(h i y hy).1,fun hi'=>?_⟩
  rcases Nat.lt_or_ge m i with h1 | h1
  · have h2:=(List.getElem?_eq_some_iff.1 hy).1
    have h3:=(List.getElem?_eq_some_iff.1 hx).1
    have:=List.pairwise_iff_getElem.1 hp.1 m i h3 h2 h1
    rw [(List.getElem?_eq_some_iff.1 hy).2,(List.getElem?_eq_some_iff.1 hx).2] at this
    omega
  · obtain rfl:i = m:=by omega
    rw [hx] at hy;cases hy;exact hn
theorem Halved.yes {P:List Pg} {no:Int} {k:Nat} {x:Pg} (hx:P[k]? = some x) (e:x.no = no):AtIs P no k true:=.inl ⟨rfl,x,hx,e⟩
theorem Halved.no_ {P:List Pg} {no:Int} {k:Nat} (h:Halved P no k k) (hp:Pgs 67108864 P) (hx:∀ x,P[k]? = some x → x.no ≠ no):AtIs P no k false:=by
  refine .inr ⟨rfl,fun x hm e=>?_⟩
  obtain ⟨i,hi,rfl⟩:=List.mem_iff_getElem.1 hm
  have hg:P[i]? = some P[i]:=List.getElem?_eq_getElem hi
  obtain ⟨h1,h2⟩:=h i _ hg
  rcases Nat.lt_trichotomy i k with h3 | h3 | h3
  · have:=h1 h3;omega
  · subst h3;exact hx _ hg e
  · have hk:k < P.length:=by omega
    have hgk:P[k]? = some P[k]:=List.getElem?_eq_getElem hk
    have h4:=(h k _ hgk).2 (Nat.le_refl _)
    have h5:=List.pairwise_iff_getElem.1 hp.1 k i hk hi h3
    omega
theorem rp_at {mo b0 b1:Int} {w:World} {rb:Nat} {P:List Pg} (h:SpaceAt mo b0 b1 w rb P) (hp:Pgs 67108864 P) (hl:P.length ≤ 5000) (no:Int) :
    Calls Tryz.prog 73 #[addr0 rb,.int .u64 no] w (RAtPost w P no):=by
  obtain ⟨A,cap,c0,_,hrow⟩:=h.cells
  have HROW:=hid hrow;clear hrow h
  have HP:=hid hp;clear hp
  obtain ⟨n,hn⟩:∃ n,n = P.length:=⟨_,rfl⟩
  rw [← hn] at c0 HROW hl
  have HN:=hid hn;clear hn
  have hlI:(n:Int) ≤ 5000:=by omega
  unfold addr0
  go_enter Tryz.func73,Tryz.ntmps73
  go_wp2_with fail
  go_loop [6,7,8] (fun i j _=>∃ lo hi:Nat,lo ≤ hi∧hi ≤ n∧i = .int .i64 lo∧j = .int .i64 hi∧Halved P no lo hi) (fun i j _=>(intOf j - intOf i).toNat)
  case atStart=>exact ⟨0,n,by omega,by omega,rfl,rfl,fun i x hx=>⟨fun h=>absurd h (by omega),fun h=>absurd (List.getElem?_eq_some_iff.1 hx).1 (by have:=HN.out;omega)⟩⟩
  case round =>
    obtain ⟨lo,hi,h1,h2,rfl,rfl,hh⟩:=hrel
    have HH:=hid hh;clear hh
    have hiI:(hi:Int) ≤ 5000:=by omega
    by_cases hlt:lo < hi
    · obtain ⟨m,hm⟩:∃ m,m = (lo + hi) / 2:=⟨_,rfl⟩
      have hm1:((lo:Int) + (hi:Int)) / 2 = (m:Int):=by omega
      have hmlo:lo ≤ m:=by omega
      have hmhi:m < hi:=by omega
      have hltL:m < P.length:=by have:=HN.out;omega
      obtain ⟨x,hx⟩:∃ x,P[m]? = some x:=⟨P[m],List.getElem?_eq_getElem hltL⟩
      have hne:P ≠ []:=by intro e;rw [e] at hltL;simp at hltL
      obtain ⟨g,cap',cur,hA,_,hnc,hg,_⟩:=HROW.out.form hne
      have hA':A = some ⟨g,0,none⟩:=by injection hA
      subst hA'
      obtain ⟨d0,d1,d2⟩:=prow_cells HROW.out m x hx
      clear hA hnc hg hne hltL hm d1 d2
      have hltI:(lo:Int) < (hi:Int):=by omega
      have hmI:(m:Int) < (n:Int):=by omega
      have hmI0:(0:Int) ≤ (m:Int):=by omega
      by_cases hc:x.no < no
      · have hh2:=HH.out.low HP.out hx hc
        have HH2:=hid hh2;clear hh2 hx
        go_wp2_with fail
        go_round
        case rel=>exact ⟨m + 1,hi,by omega,h2,by go_num,rfl,HH2.out⟩
        case measure=>simp only [intOf];omega
      · have hc2:no ≤ x.no:=by omega
        have hh2:=HH.out.high HP.out hx hc2
        have HH2:=hid hh2;clear hh2 hx
        go_wp2_with fail
        go_round
        case rel=>exact ⟨lo,m,hmlo,by omega,rfl,by go_num,HH2.out⟩
        case measure=>simp only [intOf];omega
    · obtain rfl:lo = hi:=by omega
      have hloI:(lo:Int) ≤ (n:Int):=by omega
      by_cases hln:lo < n
      · have hltL:lo < P.length:=by have:=HN.out;omega
        obtain ⟨x,hx⟩:∃ x,P[lo]? = some x:=⟨P[lo],List.getElem?_eq_getElem hltL⟩
        have hne:P ≠ []:=by intro e;rw [e] at hltL;simp at hltL
        obtain ⟨g,cap',cur,hA,_,hnc,hg,_⟩:=HROW.out.form hne
        have hA':A = some ⟨g,0,none⟩:=by injection hA
        subst hA'
        obtain ⟨d0,d1,d2⟩:=prow_cells HROW.out lo x hx
        clear hA hnc hg hne hltL d1 d2
        have hlnI:(lo:Int) < (n:Int):=by omega
        by_cases hc:x.no = no
        · have hat:=Halved.yes hx hc
          have HAT:=hid hat;clear hat hx
          have t1:(x.no == no) = true:=by simp [hc]
          clear hc
          go_wp2_with fail
          go_quiet (fail)
          go_wp2_with fail
          go_ret2
          exact ⟨lo,true,rfl,HAT.out,(Bl.refl _).drewN _⟩
        · have hat:=HH.out.no_ HP.out (fun y hy e=>by rw [hx] at hy;cases hy;exact hc e)
          have HAT:=hid hat;clear hat hx
          have t1:(x.no == no) = false:=by simp [hc]
          clear hc
          go_wp2_with fail
          go_quiet (fail)
          go_wp2_with fail
          go_ret2
          exact ⟨lo,false,rfl,HAT.out,(Bl.refl _).drewN _⟩
      · have hlnI:(n:Int) ≤ (lo:Int):=by omega
        have hat:=HH.out.no_ HP.out (fun y hy=>absurd (List.getElem?_eq_some_iff.1 hy).1 (by have:=HN.out;omega))
        have HAT:=hid hat;clear hat
        go_wp2_with fail
        go_quiet (fail)
        go_wp2_with fail
        go_ret2
        exact ⟨lo,false,rfl,HAT.out,(Bl.refl _).drewN _⟩
end Go.Proofs.YtlhpodholnfppaaGreatDoor

namespace Go.Proofs.YtlhpodholnfppaaGreatDoor
open Go.RowKit
set_option maxRecDepth 100000
theorem at_on {P:List Pg} {a:Int} {x:Pg} (hx:x ∈ P) (e:x.no = a / 4096):OnP P a x.p:=⟨x,hx,by omega,by omega,rfl⟩
theorem at_off {P:List Pg} {a:Int} (h:∀ x,x ∈ P → x.no ≠ a / 4096):∀ q,¬ OnP P a q:=fun q ⟨x,hx,h1,h2,_⟩=>h x hx (by omega)
theorem byte_at {w:World} {M:Nat → Int} {b o:Nat} {no:Int} (h:w.heap[b]? = some (byteRow M no)) (ho:o < 4096):w.cell? ⟨b,o,none⟩ = some (.int .u8 (M (no.toNat * 4096 + o))):=by
  rw [cell_of_row w b o _ 5 (0,0) h]
  have:=asBytes_at (pageOf M no.toNat) o (by rw [pageOf_length];exact ho)
  rw [List.getD_eq_getElem?_getD,pageOf_get _ _ _ ho] at this
  simpa using this
theorem rp_get {S:Nat → Prop} {mo b0 b1:Int} {w:World} {rb:Nat} {P:List Pg} {M:Nat → Int} (h:RP S w rb P M mo b0 b1) (a:Nat) (ha:a < 2 ^ 64) :
    Calls Tryz.prog 136 #[addr0 rb,.int .u64 (a:Int)] w fun e w'=>e = .returned (.int .u8 (M a))∧Bl w w':=by
  have ca:=rp_at h.space h.pgs (by have:=h.few;omega) ((a:Int) / 4096)
  have CA:=hid ca;clear ca
  have H:=hid h;clear h
  have hfew:=H.out.few
  have haI:(a:Int) ≤ 18446744073709551615:=by omega
  have haI0:(0:Int) ≤ (a:Int):=by omega
  have hlI:(P.length:Int) ≤ 5000:=by omega
  unfold addr0 at *
  go_enter Tryz.func136,Tryz.ntmps136
  go_wp2_with fail
  with_reducible refine CA.out.mono ?_
  rintro e w1 ⟨j,ok,rfl,hat,k⟩
  have K:=hid k;clear k
  rcases hat with ⟨rfl,x,hx,hn⟩ | ⟨rfl,hno⟩
  · have h1:=H.out.bl K.out
    obtain ⟨A,cap,c0,_,hrow⟩:=h1.space.cells
    have hltL:j < P.length:=(List.getElem?_eq_some_iff.1 hx).1
    have hne:P ≠ []:=by intro e;rw [e] at hltL;simp at hltL
    obtain ⟨g,cap',cur,hA,_,hnc,hg,_⟩:=hrow.form hne
    have hA':A = some ⟨g,0,none⟩:=by injection hA
    subst hA'
    obtain ⟨d0,d1,d2⟩:=prow_cells hrow j x hx
    obtain ⟨o,ho⟩:∃ o,o = a % 4096:=⟨_,rfl⟩
    have hb:=byte_at (o:=o) (h1.pages x (List.mem_of_getElem? hx)).2 (by omega)
    have hoI:(a:Int) % 4096 = (o:Int):=by omega
    have hea:x.no.toNat * 4096 + o = a:=by omega
    rw [hea] at hb
    have ho4:(o:Int) < 4096:=by omega
    clear hx hn hrow hA hnc hg hne d0 d1 h1 hea ho
    generalize P.length = n at *
    have hltI:(j:Int) < (n:Int):=by omega
    go_wp2_with fail
    go_ret
    exact ⟨rfl,K.out⟩
  · have h0:=H.out.out a (at_off hno)
    have H0:=hid h0;clear h0 hno
    go_wp2_with fail
    go_ret
    exact ⟨by rw [H0.out];rfl,K.out⟩
def upd (M:Nat → Int) (a:Nat) (c:Int):Nat → Int:=fun x=>if x = a then c else M x
theorem pageOf_upd (M:Nat → Int) (p o:Nat) (c:Int):pageOf (upd M (p * 4096 + o) c) p = (pageOf M p).set o c:=by
  apply List.ext_getElem?
  intro i
  by_cases hi:i < 4096
  · rw [pageOf_get _ _ _ hi,List.getElem?_set,pageOf_length]
    simp only [upd]
    by_cases e:o = i
    · subst e;rw [if_pos rfl,if_pos rfl,if_pos hi]
    · rw [if_neg (by omega),if_neg e,pageOf_get _ _ _ hi]
  · rw [List.getElem?_eq_none (by rw [pageOf_length];omega),List.getElem?_eq_none (by rw [List.length_set,pageOf_length];omega)]
theorem asBytes_set (xs:List Int) (o:Nat) (c:Int):(asBytes (xs.set o c)).toArray = (asBytes xs).toArray.setIfInBounds o (.int .u8 c):=by
  simp [asBytes,List.map_set]
theorem byteRow_set {w:World} {M:Nat → Int} {b o:Nat} {no:Int} (h:w.heap[b]? = some (byteRow M no)) (c:Int):(w.setCell ⟨b,o,none⟩ (.int .u8 c)).heap[b]? = some (byteRow (upd M (no.toNat * 4096 + o) c) no):=by
  rw [heap_setCell_same w b o _ 5 _ h]
  unfold byteRow
  rw [pageOf_upd,asBytes_set]
theorem RP.upd {S:Nat → Prop} {mo b0 b1:Int} {w:World} {rb:Nat} {P:List Pg} {M:Nat → Int} (h:RP S w rb P M mo b0 b1) {x:Pg} (hx:x ∈ P) {o:Nat} (ho:o < 4096) {c:Int} (hc:0 ≤ c∧c ≤ 255):RP S (w.setCell ⟨x.b,o,none⟩ (.int .u8 c)) rb P (YtlhpodholnfppaaGreatDoor.upd M (x.no.toNat * 4096 + o) c) mo b0 b1:=by
  obtain ⟨v,h1,h2,h3⟩:=h.sp
  obtain ⟨hS,hb⟩:=h.pages x hx
  refine ⟨⟨v,?_,h2.kept fun g hg=>?_,h3⟩,h.own,h.pgs,h.pr,h.len,h.mo_,fun y=>?_,fun y hy=>?_,h.apart,fun a ha=>?_⟩
  · rw [Below.heap_setCell _ _ _ _ (fun e=>by rw [show rb = x.b from e,hb] at h1;exact absurd (cells_ty h1) (by decide))]
    exact h1
  · refine Below.heap_setCell _ _ _ _ (fun e=>?_)
    obtain ⟨cur,hcur⟩:=h2.type hg
    rw [show g = x.b from e,hb] at hcur
    exact absurd (cells_ty hcur) (by decide)
  · simp only [YtlhpodholnfppaaGreatDoor.upd];split
    · exact hc
    · exact h.by_ y
  · by_cases e:y.b = x.b
    · have hyx:y = x:=by
        rcases Nat.lt_trichotomy 0 1 with _ | _ | _
        · obtain ⟨i,hi,rfl⟩:=List.mem_iff_getElem.1 hy
          obtain ⟨j,hj,rfl⟩:=List.mem_iff_getElem.1 hx
          rcases Nat.lt_trichotomy i j with h9 | h9 | h9
          · exact absurd e (List.pairwise_iff_getElem.1 h.apart i j hi hj h9)
          · subst h9;rfl
          · exact absurd e.symm (List.pairwise_iff_getElem.1 h.apart j i hj hi h9)
        · omega
        · omega
      subst hyx
      exact ⟨hS,byteRow_set hb c⟩
    · obtain ⟨h4,h5⟩:=h.pages y hy
      refine ⟨h4,?_⟩
      rw [Below.heap_setCell _ _ _ _ (fun e2=>e e2)]
      rw [h5]
      unfold byteRow
      rw [pageOf_other _ _ _ (fun o' ho'=>?_)]
      simp only [YtlhpodholnfppaaGreatDoor.upd]
      rw [if_neg (fun e2=>?_)]
      have h6:x.no.toNat = y.no.toNat:=by omega
      obtain ⟨i,hi,rfl⟩:=List.mem_iff_getElem.1 hy
      obtain ⟨j,hj,rfl⟩:=List.mem_iff_getElem.1 hx
      have h7:=h.pgs.2 _ hy
      have h8:=h.pgs.2 _ hx
      rcases Nat.lt_trichotomy i j with h9 | h9 | h9
      · have:=List.pairwise_iff_getElem.1 h.pgs.1 i j hi hj h9;omega
      · subst h9;exact e rfl
      · have:=List.pairwise_iff_getElem.1 h.pgs.1 j i hj hi h9;omega
  · simp only [YtlhpodholnfppaaGreatDoor.upd]
    rw [if_neg (fun e=>?_)]
    · exact h.out a ha
    · have h8:=h.pgs.2 _ hx
      exact ha x.p ⟨x,hx,by omega,by omega,rfl⟩
theorem rp_set {S:Nat → Prop} {mo b0 b1:Int} {w:World} {rb:Nat} {P:List Pg} {M:Nat → Int} (h:RP S w rb P M mo b0 b1) (a:Nat) (ha:a < 2 ^ 64) (c:Int) (hc:0 ≤ c∧c ≤ 255) (hon:∃ q,OnP P a q) :
    Calls Tryz.prog 49 #[addr0 rb,.int .u64 (a:Int),.int .u8 c] w fun e w'=>e = .returned (.tuple #[])∧RP S w' rb P (upd M a c) mo b0 b1∧Fr S w w':=by
  have ca:=rp_at h.space h.pgs (by have:=h.few;omega) ((a:Int) / 4096)
  have CA:=hid ca;clear ca
  have H:=hid h;clear h
  have hfew:=H.out.few
  have haI:(a:Int) ≤ 18446744073709551615:=by omega
  have haI0:(0:Int) ≤ (a:Int):=by omega
  have hlI:(P.length:Int) ≤ 5000:=by omega
  have HON:=hid hon;clear hon
  have HC:=hid hc;clear hc
  unfold addr0 at *
  go_enter Tryz.func49,Tryz.ntmps49
  go_wp2_with fail
  with_reducible refine CA.out.mono ?_
  rintro e w1 ⟨j,ok,rfl,hat,k⟩
  have K:=hid k;clear k
  rcases hat with ⟨rfl,x,hx,hn⟩ | ⟨rfl,hno⟩
  · have h1:=H.out.bl K.out
    obtain ⟨A,cap,c0,_,hrow⟩:=h1.space.cells
    have hltL:j < P.length:=(List.getElem?_eq_some_iff.1 hx).1
    have hne:P ≠ []:=by intro e;rw [e] at hltL;simp at hltL
    obtain ⟨g,cap',cur,hA,_,hnc,hg,_⟩:=hrow.form hne
    have hA':A = some ⟨g,0,none⟩:=by injection hA
    subst hA'
    obtain ⟨d0,d1,d2⟩:=prow_cells hrow j x hx
    obtain ⟨o,ho⟩:∃ o,o = a % 4096:=⟨_,rfl⟩
    have hxm:=List.mem_of_getElem? hx
    obtain ⟨hS,hxb⟩:=h1.pages x hxm
    have hb:=byte_at (o:=o) hxb (by omega)
    have hfz:w1.frozen? ⟨x.b,o,none⟩ = false:=by simp [World.frozen?,hxb,byteRow]
    have hoI:(a:Int) % 4096 = (o:Int):=by omega
    have hea:x.no.toNat * 4096 + o = a:=by omega
    have h2:=h1.upd hxm (o:=o) (by omega) HC.out
    rw [hea] at h2
    have f2:Fr S w (w1.setCell ⟨x.b,o,none⟩ (.int .u8 c)):=(Fr.of_bl K.out).trans (Fr.set (by exact hS) _)
    have H2:=hid h2;clear h2
    have F2:=hid f2;clear f2
    have ho4:(o:Int) < 4096:=by omega
    clear hx hn hrow hA hnc hg hne d0 d1 h1 hea ho hxm hS hxb
    generalize P.length = n at *
    have hltI:(j:Int) < (n:Int):=by omega
    go_wp2_with fail
    go_end0
    exact ⟨rfl,H2.out,F2.out⟩
  · obtain ⟨q,hq⟩:=HON.out
    exact absurd hq (at_off hno q)
end Go.Proofs.YtlhpodholnfppaaGreatDoor

namespace Go.Proofs.YtlhpodholnfppaaGreatDoor
open Go.RowKit
set_option maxRecDepth 100000
theorem regs_in {P:List Pg} (h:Pgs 67108864 P) {a q:Int}:In (regs P) a q ↔ OnP P a q:=(regs_all h (by omega)).2.1 a q
theorem regs_rs {P:List Pg} (h:Pgs 67108864 P):Rs (regs P):=(regs_all h (by omega)).1
section
variable {S:Nat → Prop} {mo b0 b1:Int} {w:World} {rb:Nat} {P:List Pg} {M:Nat → Int}
end
end Go.Proofs.YtlhpodholnfppaaGreatDoor

namespace Go.Proofs.YtlhpodholnfppaaGreatDoor
open Go.RowKit
set_option maxRecDepth 100000
section
variable {S:Nat → Prop} {mo b0 b1:Int} {w:World} {rb:Nat} {P:List Pg} {M:Nat → Int}
end
end Go.Proofs.YtlhpodholnfppaaGreatDoor
