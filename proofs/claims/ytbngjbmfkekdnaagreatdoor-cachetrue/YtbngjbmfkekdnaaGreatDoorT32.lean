/-
  The contract of a cache's Fetch, on, off and none: what is there now.
  Bytes that are put where something is mapped; the law's answers: what a program that does nothing does not answer.
-/
import Derived.Test.YtbngjbmfkekdnaaGreatDoorT31
import Derived.Test.YtbngjbmfkekdnaaGreatDoorT10
import Derived.Lib.Hide
set_option linter.unusedVariables false
set_option linter.unusedSimpArgs false
set_option maxHeartbeats 16000000
open Go.Lib (hid)
namespace Go.Proofs.YtbngjbmfkekdnaaGreatDoor
open Go.RowKit
set_option maxRecDepth 100000
abbrev Sps:=Nat → List Rg → (Nat → Int) → (Nat → Int) → Prop
def Good (R:Sps) (p:Nat) (e:Ent):Prop:=(e.i.sz = 2 ∨ e.i.sz = 4)∧p < 274877906944∧(∃ L M st,R e.sb L M st)∧∀ L M st,R e.sb L M st → e.f ≤ st (p / 4096)∧e.l ≤ st ((p + e.i.sz.toNat - 1) / 4096)∧(e.f = st (p / 4096) → e.l = st ((p + e.i.sz.toNat - 1) / 4096) → AnsIs L M p ⟨e.i,0,0,0⟩)
def Inv (R:Sps) (g:Nat → Option Ent):Prop:=∀ p e,g p = some e → Good R p e
theorem Inv.none_ (R:Sps):Inv R noEnt:=fun p e h=>by cases h
def Sole (R:Sps) (sb:Nat) (L:List Rg) (M st:Nat → Int):Prop:=R sb L M st∧∀ L' M' st',R sb L' M' st' → L' = L∧M' = M∧st' = st
def Blocks (R:Sps) (w:World):Prop:=∀ b L M st,R b L M st → ∃ cs t,w.heap[b]? = some (.cells cs t (0,0))
theorem Blocks.bl {R:Sps} {w w':World} (h:Blocks R w) (k:Bl w w'):Blocks R w':=fun b L M st hr=>by
  obtain ⟨cs,t,h1⟩:=h b L M st hr
  exact ⟨cs,t,k.at_ h1⟩
theorem Inv.del {R:Sps} {g:Nat → Option Ent} (h:Inv R g) (q:Nat):Inv R (putE g q none):=fun p e he=>by
  by_cases hp:p = q
  · subst hp;rw [putE_same] at he;cases he
  · rw [putE_other _ _ _ hp] at he;exact h p e he
theorem Inv.put {R:Sps} {g:Nat → Option Ent} (h:Inv R g) {q:Nat} {x:Ent} (hx:Good R q x):Inv R (putE g q (some x)):=fun p e he=>by
  by_cases hp:p = q
  · subst hp;rw [putE_same] at he;injection he with he;subst he;exact hx
  · rw [putE_other _ _ _ hp] at he;exact h p e he
theorem inv_put {R:Sps} {g g':Nat → Option Ent} (h:Inv R g) {q:Nat} {x:Ent} (hx:Good R q x) (hg:g' = putE g q (some x) ∨ g' = putE noEnt q (some x)):Inv R g':=by
  rcases hg with rfl | rfl
  · exact h.put hx
  · exact (Inv.none_ R).put hx
theorem good_new {R:Sps} {sb:Nat} {L:List Rg} {M st:Nat → Int} (hR:Sole R sb L M st) {pc:Nat} {i:Td.Ins} (h:AnsIs L M pc ⟨i,0,0,0⟩) (hs:So 0 274877906944 L):Good R pc ⟨i,sb,st (pc / 4096),st ((pc + i.sz.toNat - 1) / 4096)⟩:=by
  obtain ⟨h1,h2⟩:=h.size hs
  refine ⟨h1,h2,⟨L,M,st,hR.1⟩,fun L' M' st' h'=>?_⟩
  obtain ⟨rfl,rfl,rfl⟩:=hR.2 L' M' st' h'
  exact ⟨Int.le_refl _,Int.le_refl _,fun _ _=>h⟩
theorem ans_ok {L:List Rg} {M:Nat → Int} {pc:Nat} {i:Td.Ins} {fk fa:Int} (h:AnsIs L M pc ⟨i,0,fk,fa⟩):fk = 0∧fa = 0:=by
  obtain ⟨y,k,x,_,he⟩:=h
  unfold ansOf at he
  split at he
  · split at he
    · injection he with _ _ h1 h2;exact ⟨h1,h2⟩
    · injection he with _ h1;cases h1
  · injection he with _ h1;cases h1
theorem two_setF {S:Nat → Prop} {w0 w:World} {g g2:Nat} {t t2:TypeId} {a0 a1 a2 a3 a4 a5 a6 c d e:Value} (hne:g ≠ g2) (h:w.heap[g]? = some (.cells #[a0,a1,a2,a3,a4,a5,a6] t (0,0))) (h2:w.heap[g2]? = some (.cells #[c,d,e] t2 (0,0)))
    (x0 x1 x2 x3 x4 x5 x6 p q r:Value) (f:Fr S w0 w) (hg:w0.heap.size ≤ g) (hg2:w0.heap.size ≤ g2) :
    (((((((((((w.setCell ⟨g,0,none⟩ x0).setCell ⟨g,1,none⟩ x1).setCell ⟨g,2,none⟩ x2).setCell ⟨g,3,none⟩ x3).setCell ⟨g,4,none⟩ x4).setCell ⟨g,5,none⟩ x5).setCell ⟨g,6,none⟩ x6).setCell ⟨g2,0,none⟩ p).setCell ⟨g2,1,none⟩ q).setCell ⟨g2,2,none⟩ r)).heap[g]? = some (.cells #[x0,x1,x2,x3,x4,x5,x6] t (0,0)) ∧
    (((((((((((w.setCell ⟨g,0,none⟩ x0).setCell ⟨g,1,none⟩ x1).setCell ⟨g,2,none⟩ x2).setCell ⟨g,3,none⟩ x3).setCell ⟨g,4,none⟩ x4).setCell ⟨g,5,none⟩ x5).setCell ⟨g,6,none⟩ x6).setCell ⟨g2,0,none⟩ p).setCell ⟨g2,1,none⟩ q).setCell ⟨g2,2,none⟩ r)).heap[g2]? = some (.cells #[p,q,r] t2 (0,0))∧Fr S w0 ((((((((((w.setCell ⟨g,0,none⟩ x0).setCell ⟨g,1,none⟩ x1).setCell ⟨g,2,none⟩ x2).setCell ⟨g,3,none⟩ x3).setCell ⟨g,4,none⟩ x4).setCell ⟨g,5,none⟩ x5).setCell ⟨g,6,none⟩ x6).setCell ⟨g2,0,none⟩ p).setCell ⟨g2,1,none⟩ q).setCell ⟨g2,2,none⟩ r):=
  ⟨oth3 (set7 x0 x1 x2 x3 x4 x5 x6 h) (fun e=>hne e.symm) p q r,set3 p q r (oth7 h2 hne x0 x1 x2 x3 x4 x5 x6),(f.bl7 hg x0 x1 x2 x3 x4 x5 x6).bl3 hg2 p q r⟩
theorem two_setF' {S:Nat → Prop} {w0 w:World} {g g2:Nat} {t t2:TypeId} {a0 a1 a2 a3 a4 a5 a6 c d e:Value} (hne:g ≠ g2) (h:w.heap[g]? = some (.cells #[a0,a1,a2,a3,a4,a5,a6] t (0,0))) (h2:w.heap[g2]? = some (.cells #[c,d,e] t2 (0,0)))
    (x0 x1 x2 x3 x4 x5 x6 p q r:Value) (f:Fr S w0 w) (hg:w0.heap.size ≤ g) (hg2:w0.heap.size ≤ g2) :
    (((((((((((w.setCell ⟨g2,0,none⟩ p).setCell ⟨g2,1,none⟩ q).setCell ⟨g2,2,none⟩ r).setCell ⟨g,0,none⟩ x0).setCell ⟨g,1,none⟩ x1).setCell ⟨g,2,none⟩ x2).setCell ⟨g,3,none⟩ x3).setCell ⟨g,4,none⟩ x4).setCell ⟨g,5,none⟩ x5).setCell ⟨g,6,none⟩ x6)).heap[g]? = some (.cells #[x0,x1,x2,x3,x4,x5,x6] t (0,0)) ∧
    (((((((((((w.setCell ⟨g2,0,none⟩ p).setCell ⟨g2,1,none⟩ q).setCell ⟨g2,2,none⟩ r).setCell ⟨g,0,none⟩ x0).setCell ⟨g,1,none⟩ x1).setCell ⟨g,2,none⟩ x2).setCell ⟨g,3,none⟩ x3).setCell ⟨g,4,none⟩ x4).setCell ⟨g,5,none⟩ x5).setCell ⟨g,6,none⟩ x6)).heap[g2]? = some (.cells #[p,q,r] t2 (0,0))∧Fr S w0 ((((((((((w.setCell ⟨g2,0,none⟩ p).setCell ⟨g2,1,none⟩ q).setCell ⟨g2,2,none⟩ r).setCell ⟨g,0,none⟩ x0).setCell ⟨g,1,none⟩ x1).setCell ⟨g,2,none⟩ x2).setCell ⟨g,3,none⟩ x3).setCell ⟨g,4,none⟩ x4).setCell ⟨g,5,none⟩ x5).setCell ⟨g,6,none⟩ x6):=
  ⟨set7 x0 x1 x2 x3 x4 x5 x6 (oth3 h (fun e=>hne e.symm) p q r),oth7 (set3 p q r h2) hne x0 x1 x2 x3 x4 x5 x6,(f.bl3 hg2 p q r).bl7 hg x0 x1 x2 x3 x4 x5 x6⟩
section
variable {R:Sps} {T:Nat → Prop} {w:World} {sb n:Nat} {L:List Rg} {M st:Nat → Int} {mo ba en:Int} {cb B k:Nat} {g:Nat → Option Ent}
def FindAny (R:Sps) (L:List Rg) (M:Nat → Int) (cb B k pc:Nat) (w:World) (e:Ending) (w':World):Prop:=
  (∃ i,AnsIs L M pc ⟨i,0,0,0⟩∧e = .returned (.tuple #[.agg i.cells,.bool true])∧Bl w w'∧∃ g' k',CA w' cb B g' k'∧k' ≤ k∧Inv R g') ∨
  (e = .returned (.tuple #[.agg (Td.I7 0 0 0 0 0 0 0),.bool false])∧∃ g' k',CA w' cb B g' k'∧k' ≤ k∧Inv R g'∧Fr (only B) w w')
theorem cfind_any (h:CA w cb B g k) (hI:Inv R g) (hR:Sole R sb L M st) (hRb:Blocks R w) (hm:MS T w sb n L M st mo ba en) (pc:Nat) (hpc:pc < 2 ^ 64) :
    Calls Tryz.prog 46 #[addr0 cb,addr0 sb,.int .u64 (pc:Int)] w (FindAny R L M cb B k pc w):=by
  cases hg:g pc with
  | none =>
    refine (find_none h sb pc hpc hg).mono ?_
    rintro e w' ⟨rfl,k1⟩
    exact Or.inr ⟨rfl,g,k,h.bl k1,Nat.le_refl _,hI,Fr.of_bl k1⟩
  | some x =>
    obtain ⟨h1,h2,⟨L1,M1,st1,h3⟩,h4⟩:=hI pc x hg
    refine (find_some h hm pc h2 x hg h1 (hRb _ _ _ _ h3)).mono ?_
    rintro e w' (⟨⟨q1,q2,q3⟩,rfl,k1⟩ | ⟨hn,rfl,⟨k',hc,hk'⟩,hf⟩)
    · refine Or.inl ⟨x.i,?_,rfl,k1,g,k,h.bl k1,Nat.le_refl _,hI⟩
      exact (h4 L M st (by rw [q1];exact hR.1)).2.2 q2 q3
    · exact Or.inr ⟨rfl,_,k',hc,hk',hI.del pc,hf⟩
def OnPost (R:Sps) (L:List Rg) (M:Nat → Int) (cb B pc:Nat) (w:World) (e:Ending) (w':World):Prop:=
  ∃ A,AnsIs L M pc A∧e = .returned A.v∧(∃ g' k',CA w' cb B g' k'∧k' ≤ 4096∧Inv R g')∧Fr (only B) w w'
def OffPost (L:List Rg) (M:Nat → Int) (pc:Nat) (w:World) (e:Ending) (w':World):Prop:=∃ A,AnsIs L M pc A∧e = .returned A.v∧Bl w w'
theorem fetch_on (h:CA w cb B g k) (hk:k ≤ 4096) (hI:Inv R g) (hR:Sole R sb L M st) (hRb:Blocks R w) (hTB:¬ T B) (hB:21 ≤ B) (hm:MS T w sb n L M st mo ba en) (hT:Td.TabsS w) (pc:Nat) (hpc:pc < 2 ^ 64) :
    Calls Tryz.prog 23 #[addr0 cb,addr0 sb,.int .u64 (pc:Int)] w (OnPost R L M cb B pc w):=by
  have K0:=hid ((Bl.new w (.cells (Td.I7 0 0 0 0 0 0 0) 47)).alloc (.cells #[.int .i64 0,.int .i64 0,.int .u64 0] 49))
  have A0:=hid ((Bl.new (w.alloc (.cells (Td.I7 0 0 0 0 0 0 0) 47)) (.cells #[.int .i64 0,.int .i64 0,.int .u64 0] 49)).at_ (heap_alloc_new w (.cells (Td.I7 0 0 0 0 0 0 0) 47)))
  have A1:=hid (new_next w (.cells (Td.I7 0 0 0 0 0 0 0) 47) (.cells #[.int .i64 0,.int .i64 0,.int .u64 0] 49))
  have hpcI:(pc:Int) ≤ 18446744073709551615:=by omega
  have cf:=cfind_any (h.bl K0.out) hI hR (hRb.bl K0.out) (hm.bl K0.out) pc hpc
  have hltB:=h.map.lt
  have hltC:=lt_at h.blk
  have cd:=fun W (k:Fr (only B) w W)=>cdecode_any (hm.kept k (fun b hb e=>hTB (by rw [← show b = B from e];exact hb))) (hT.fr k (fun g hg e=>by have e':g = B:=e;omega)) pc hpc
  have ck:=fun W g' k' i (kk:Fr (only B) w W) (hc:CA W cb B g' k') (hk':k' ≤ 4096) (hp:pc < 274877906944) (hs:i.sz = 2 ∨ i.sz = 4)=>keep_on hc hk' (hm.kept kk (fun b hb e=>hTB (by rw [← show b = B from e];exact hb))) hTB pc hp i hs
  have HSO:=hid hm.so
  have HR:=hid hR;clear hR
  have HK:=hid hk;clear hk
  clear h hI hRb hm hT hTB hB
  have CF:=hid cf;clear cf
  have CD:=hid cd;clear cd
  have CK:=hid ck;clear ck
  unfold addr0 at *
  go_enter Tryz.func23,Tryz.ntmps23
  go_wp2_with fail
  with_reducible refine CF.out.mono ?_
  rintro e w1 (⟨⟨a0,a1,a2,a3,a4,a5,a6⟩,han,rfl,hf,hc⟩ | ⟨rfl,g1',k1,hc,hk1,hI1,hf⟩)
  · unfold Td.Ins.cells
    have HAN:=hid han;clear han
    have HC:=hid hc;clear hc
    have F1:=hid ((Fr.of_bl (S:=only B) K0.out).trans (Fr.of_bl hf))
    have B0:=hid (hf.at_ A0.out)
    have B1:=hid (hf.at_ A1.out)
    have hlt1:w.heap.size + 1 < w1.heap.size:=lt_at B1.out
    clear hf CF CD CK
    go_upto_region 2 with (fail)
    have F2:=hid (F1.out.trans (Fr.of_bl (S:=only B) (Bl.new w1 (.cells (Td.I7 a0 a1 a2 a3 a4 a5 a6) 47))))
    have C0:=hid ((Bl.new w1 (.cells (Td.I7 a0 a1 a2 a3 a4 a5 a6) 47)).at_ B0.out)
    have C1:=hid ((Bl.new w1 (.cells (Td.I7 a0 a1 a2 a3 a4 a5 a6) 47)).at_ B1.out)
    have C2:=hid (heap_alloc_new w1 (.cells (Td.I7 a0 a1 a2 a3 a4 a5 a6) 47))
    obtain ⟨g9,k9,HC9⟩:∃ g9 k9,Hid (CA (w1.alloc (.cells (Td.I7 a0 a1 a2 a3 a4 a5 a6) 47)) cb B g9 k9∧k9 ≤ 4096∧Inv R g9):=by
      obtain ⟨g9,k9,q1,q2,q3⟩:=HC.out
      exact ⟨g9,k9,hid ⟨q1.bl (Bl.new _ _),by have:=HK.out;omega,q3⟩⟩
    generalize w1.alloc (.cells (Td.I7 a0 a1 a2 a3 a4 a5 a6) 47) = W at *
    obtain ⟨d0,d1,d2,d3,d4,d5,d6⟩:=seven_at C2.out
    obtain ⟨e0,e1,e2,e3,e4,e5,e6⟩:=seven_at C0.out
    obtain ⟨g0,g1,g2⟩:=three_at C1.out
    have z0:=free_at C0.out
    have z1:=free_at C1.out
    go_wp2_with fail
    (try simp only [Exit.inBlock,Exit.then])
    obtain ⟨s1,s2,s3⟩:=two_setF (S:=only B) (w0:=w) (g:=w.heap.size) (g2:=w.heap.size + 1) (by omega) C0.out C1.out (.int .i64 a0) (.int .i64 a1) (.int .i64 a2) (.int .i64 a3) (.int .i64 a4) (.int .i64 a5) (.int .i64 a6) (.int .i64 0) (.int .i64 0) (.int .u64 0) F2.out (by omega) (by omega)
    refine bodyPost_ret (results_rows2 rfl _ _ w.heap.size (w.heap.size + 1) 47 49 _ _ (0,0) (0,0) _ _ rfl s1 Tryz.underlying47 rfl (by kernel_rfl) rfl s2 Tryz.underlying49 rfl (by kernel_rfl)) rfl ?_
    exact ⟨_,HAN.out,rfl,⟨g9,k9,(HC9.out.1.bl7 (by omega) (by omega) _ _ _ _ _ _ _).bl3 (by omega) (by omega) _ _ _,HC9.out.2.1,HC9.out.2.2⟩,s3⟩
  · have HC:=hid hc;clear hc
    have HI1:=hid hI1;clear hI1
    have hk1':k1 ≤ 4096:=Nat.le_trans hk1 HK.out
    have F1:=hid ((Fr.of_bl (S:=only B) K0.out).trans hf)
    have B0:=hid (hf.at_ A0.out (fun e=>by have e':w.heap.size = B:=e;omega))
    have B1:=hid (hf.at_ A1.out (fun e=>by have e':w.heap.size + 1 = B:=e;omega))
    have hlt1:w.heap.size + 1 < w1.heap.size:=lt_at B1.out
    clear hf CF
    go_upto_region 2 with (fail)
    have F2:=hid (F1.out.trans (Fr.of_bl (S:=only B) (Bl.new w1 (.cells (Td.I7 0 0 0 0 0 0 0) 47))))
    have C0:=hid ((Bl.new w1 (.cells (Td.I7 0 0 0 0 0 0 0) 47)).at_ B0.out)
    have C1:=hid ((Bl.new w1 (.cells (Td.I7 0 0 0 0 0 0 0) 47)).at_ B1.out)
    have HC2:=hid (HC.out.bl (Bl.new w1 (.cells (Td.I7 0 0 0 0 0 0 0) 47)))
    generalize w1.alloc (.cells (Td.I7 0 0 0 0 0 0 0) 47) = W at *
    go_wp2_with fail
    with_reducible refine (CD.out _ F2.out).mono ?_
    rintro e w2 ⟨⟨⟨a0,a1,a2,a3,a4,a5,a6⟩,sk,fk,fa⟩,han,rfl,kk⟩
    unfold Ans.v stopC Td.Ins.cells
    have HAN:=hid han;clear han
    have F3:=hid (F2.out.trans (Fr.of_bl (S:=only B) kk))
    have E0:=hid (kk.at_ C0.out)
    have E1:=hid (kk.at_ C1.out)
    have hlt2:w.heap.size + 1 < w2.heap.size:=lt_at E1.out
    have HC3:=hid (HC2.out.bl kk)
    obtain ⟨e0,e1,e2,e3,e4,e5,e6⟩:=seven_at E0.out
    obtain ⟨g0,g1,g2⟩:=three_at E1.out
    have z0:=free_at E0.out
    have z1:=free_at E1.out
    clear kk CD
    go_upto_region 5 with (fail)
    obtain ⟨s1,s2,s3⟩:=two_setF (S:=only B) (w0:=w) (g:=w.heap.size) (g2:=w.heap.size + 1) (by omega) E0.out E1.out (.int .i64 a0) (.int .i64 a1) (.int .i64 a2) (.int .i64 a3) (.int .i64 a4) (.int .i64 a5) (.int .i64 a6) (.int .i64 sk) (.int .i64 fk) (.int .u64 fa) F3.out (by omega) (by omega)
    have HC4:=hid ((HC3.out.bl7 (b:=w.heap.size) (by omega) (by omega) (.int .i64 a0) (.int .i64 a1) (.int .i64 a2) (.int .i64 a3) (.int .i64 a4) (.int .i64 a5) (.int .i64 a6)).bl3 (b:=w.heap.size + 1) (by omega) (by omega) (.int .i64 sk) (.int .i64 fk) (.int .u64 fa))
    have S1:=hid s1;clear s1
    have S2:=hid s2;clear s2
    have S3:=hid s3;clear s3
    clear e0 e1 e2 e3 e4 e5 e6 g0 g1 g2 z0 z1
    generalize ((((((((((w2.setCell ⟨w.heap.size,0,none⟩ (.int .i64 a0)).setCell ⟨w.heap.size,1,none⟩ (.int .i64 a1)).setCell ⟨w.heap.size,2,none⟩ (.int .i64 a2)).setCell ⟨w.heap.size,3,none⟩ (.int .i64 a3)).setCell ⟨w.heap.size,4,none⟩ (.int .i64 a4)).setCell ⟨w.heap.size,5,none⟩ (.int .i64 a5)).setCell ⟨w.heap.size,6,none⟩ (.int .i64 a6)).setCell ⟨w.heap.size + 1,0,none⟩ (.int .i64 sk)).setCell ⟨w.heap.size + 1,1,none⟩ (.int .i64 fk)).setCell ⟨w.heap.size + 1,2,none⟩ (.int .u64 fa)) = V at *
    obtain ⟨e0,e1,e2,e3,e4,e5,e6⟩:=seven_at S1.out
    obtain ⟨g0,g1,g2⟩:=three_at S2.out
    have z0:=free_at S1.out
    have z1:=free_at S2.out
    by_cases hsk:sk = 0
    · subst hsk
      obtain ⟨rfl,rfl⟩:=ans_ok HAN.out
      obtain ⟨hsz,hpt⟩:=HAN.out.size HSO.out
      go_wp2_with fail
      with_reducible refine (CK.out V g1' k1 ⟨a0,a1,a2,a3,a4,a5,a6⟩ S3.out HC4.out hk1' hpt hsz).mono ?_
      rintro e w4 ⟨rfl,⟨g4,k4,hc4,hk4,hg4⟩,hf4⟩
      have HC5:=hid hc4;clear hc4
      have HI4:Hid (Inv R g4):=hid (inv_put HI1.out (good_new HR.out HAN.out HSO.out) hg4)
      have F5:=hid (S3.out.trans hf4)
      have G1:=hid (hf4.at_ S1.out (fun e=>by have e':w.heap.size = B:=e;omega))
      have G2:=hid (hf4.at_ S2.out (fun e=>by have e':w.heap.size + 1 = B:=e;omega))
      have HK4:=hid hk4
      clear hf4 hg4 hk4
      clear e0 e1 e2 e3 e4 e5 e6 g0 g1 g2 z0 z1
      obtain ⟨e0,e1,e2,e3,e4,e5,e6⟩:=seven_at G1.out
      obtain ⟨g0,g1,g2⟩:=three_at G2.out
      have z0:=free_at G1.out
      have z1:=free_at G2.out
      go_wp2_with fail
      go_region
      all_goals (
        (try go_wp2_with fail)
        (try simp only [Exit.inBlock,Exit.then])
        first
        | (obtain ⟨s1,s2,s3⟩:=two_setF (S:=only B) (w0:=w) (g:=w.heap.size) (g2:=w.heap.size + 1) (by omega) G1.out G2.out (.int .i64 a0) (.int .i64 a1) (.int .i64 a2) (.int .i64 a3) (.int .i64 a4) (.int .i64 a5) (.int .i64 a6) (.int .i64 0) (.int .i64 0) (.int .u64 0) F5.out (by omega) (by omega)
           refine bodyPost_ret (results_rows2 rfl _ _ w.heap.size (w.heap.size + 1) 47 49 _ _ (0,0) (0,0) _ _ rfl (drew_at s1) Tryz.underlying47 rfl (by kernel_rfl) rfl (drew_at s2) Tryz.underlying49 rfl (by kernel_rfl)) rfl ?_
           exact ⟨_,HAN.out,rfl,⟨_,_,((HC5.out.bl7 (by omega) (by omega) _ _ _ _ _ _ _).bl3 (by omega) (by omega) _ _ _).bl ((Bl.refl _).drew),HK4.out,HI4.out⟩,s3.drew⟩)
        | (obtain ⟨s1,s2,s3⟩:=two_setF' (S:=only B) (w0:=w) (g:=w.heap.size) (g2:=w.heap.size + 1) (by omega) G1.out G2.out (.int .i64 a0) (.int .i64 a1) (.int .i64 a2) (.int .i64 a3) (.int .i64 a4) (.int .i64 a5) (.int .i64 a6) (.int .i64 0) (.int .i64 0) (.int .u64 0) F5.out (by omega) (by omega)
           refine bodyPost_ret (results_rows2 rfl _ _ w.heap.size (w.heap.size + 1) 47 49 _ _ (0,0) (0,0) _ _ rfl (drew_at s1) Tryz.underlying47 rfl (by kernel_rfl) rfl (drew_at s2) Tryz.underlying49 rfl (by kernel_rfl)) rfl ?_
           exact ⟨_,HAN.out,rfl,⟨_,_,((HC5.out.bl3 (by omega) (by omega) _ _ _).bl7 (by omega) (by omega) _ _ _ _ _ _ _).bl ((Bl.refl _).drew),HK4.out,HI4.out⟩,s3.drew⟩))
    · have tk:(sk == 0) = false:=by simp [hsk]
      clear hsk CK
      clear e0 e1 e2 e3 e4 e5 e6 g0 g1 g2 z0 z1
      obtain ⟨e0,e1,e2,e3,e4,e5,e6⟩:=seven_at S1.out
      obtain ⟨g0,g1,g2⟩:=three_at S2.out
      have z0:=free_at S1.out
      have z1:=free_at S2.out
      go_wp2_with fail
      go_region
      all_goals (
        (try go_wp2_with fail)
        (try simp only [Exit.inBlock,Exit.then])
        first
        | (obtain ⟨s1,s2,s3⟩:=two_setF (S:=only B) (w0:=w) (g:=w.heap.size) (g2:=w.heap.size + 1) (by omega) S1.out S2.out (.int .i64 a0) (.int .i64 a1) (.int .i64 a2) (.int .i64 a3) (.int .i64 a4) (.int .i64 a5) (.int .i64 a6) (.int .i64 sk) (.int .i64 fk) (.int .u64 fa) S3.out (by omega) (by omega)
           refine bodyPost_ret (results_rows2 rfl _ _ w.heap.size (w.heap.size + 1) 47 49 _ _ (0,0) (0,0) _ _ rfl (drew_at s1) Tryz.underlying47 rfl (by kernel_rfl) rfl (drew_at s2) Tryz.underlying49 rfl (by kernel_rfl)) rfl ?_
           exact ⟨_,HAN.out,rfl,⟨_,_,((HC4.out.bl7 (by omega) (by omega) _ _ _ _ _ _ _).bl3 (by omega) (by omega) _ _ _).bl ((Bl.refl _).drew),hk1',HI1.out⟩,s3.drew⟩)
        | (obtain ⟨s1,s2,s3⟩:=two_setF' (S:=only B) (w0:=w) (g:=w.heap.size) (g2:=w.heap.size + 1) (by omega) S1.out S2.out (.int .i64 a0) (.int .i64 a1) (.int .i64 a2) (.int .i64 a3) (.int .i64 a4) (.int .i64 a5) (.int .i64 a6) (.int .i64 sk) (.int .i64 fk) (.int .u64 fa) S3.out (by omega) (by omega)
           refine bodyPost_ret (results_rows2 rfl _ _ w.heap.size (w.heap.size + 1) 47 49 _ _ (0,0) (0,0) _ _ rfl (drew_at s1) Tryz.underlying47 rfl (by kernel_rfl) rfl (drew_at s2) Tryz.underlying49 rfl (by kernel_rfl)) rfl ?_
           exact ⟨_,HAN.out,rfl,⟨_,_,((HC4.out.bl3 (by omega) (by omega) _ _ _).bl7 (by omega) (by omega) _ _ _ _ _ _ _).bl ((Bl.refl _).drew),hk1',HI1.out⟩,s3.drew⟩))
theorem fetch_off (h:COff w cb) (hm:MS T w sb n L M st mo ba en) (hT:Td.TabsS w) (pc:Nat) (hpc:pc < 2 ^ 64) :
    Calls Tryz.prog 23 #[addr0 cb,addr0 sb,.int .u64 (pc:Int)] w (OffPost L M pc w):=by
  have K0:=hid ((Bl.new w (.cells (Td.I7 0 0 0 0 0 0 0) 47)).alloc (.cells #[.int .i64 0,.int .i64 0,.int .u64 0] 49))
  have A0:=hid ((Bl.new (w.alloc (.cells (Td.I7 0 0 0 0 0 0 0) 47)) (.cells #[.int .i64 0,.int .i64 0,.int .u64 0] 49)).at_ (heap_alloc_new w (.cells (Td.I7 0 0 0 0 0 0 0) 47)))
  have A1:=hid (new_next w (.cells (Td.I7 0 0 0 0 0 0 0) 47) (.cells #[.int .i64 0,.int .i64 0,.int .u64 0] 49))
  have hpcI:(pc:Int) ≤ 18446744073709551615:=by omega
  have cf:=find_off (h.bl K0.out) sb pc hpc
  have cd:=fun W (k:Bl w W)=>cdecode_any (hm.bl k) (hT.bl k) pc hpc
  have ck:=fun W i (kk:Bl w W)=>keep_off (h.bl kk) sb pc i
  clear hm hT h
  have CF:=hid cf;clear cf
  have CD:=hid cd;clear cd
  have CK:=hid ck;clear ck
  unfold addr0 at *
  go_enter Tryz.func23,Tryz.ntmps23
  go_wp2_with fail
  with_reducible refine CF.out.mono ?_
  rintro e w1 ⟨rfl,hf⟩
  · have F1:=hid (K0.out.trans hf)
    have B0:=hid (hf.at_ A0.out)
    have B1:=hid (hf.at_ A1.out)
    have hlt1:w.heap.size + 1 < w1.heap.size:=lt_at B1.out
    clear hf CF
    go_upto_region 2 with (fail)
    have F2:=hid (F1.out.trans (Bl.new w1 (.cells (Td.I7 0 0 0 0 0 0 0) 47)))
    have C0:=hid ((Bl.new w1 (.cells (Td.I7 0 0 0 0 0 0 0) 47)).at_ B0.out)
    have C1:=hid ((Bl.new w1 (.cells (Td.I7 0 0 0 0 0 0 0) 47)).at_ B1.out)
    generalize w1.alloc (.cells (Td.I7 0 0 0 0 0 0 0) 47) = W at *
    go_wp2_with fail
    with_reducible refine (CD.out _ F2.out).mono ?_
    rintro e w2 ⟨⟨⟨a0,a1,a2,a3,a4,a5,a6⟩,sk,fk,fa⟩,han,rfl,kk⟩
    unfold Ans.v stopC Td.Ins.cells
    have HAN:=hid han;clear han
    have F3:=hid (F2.out.trans kk)
    have E0:=hid (kk.at_ C0.out)
    have E1:=hid (kk.at_ C1.out)
    have hlt2:w.heap.size + 1 < w2.heap.size:=lt_at E1.out
    obtain ⟨e0,e1,e2,e3,e4,e5,e6⟩:=seven_at E0.out
    obtain ⟨g0,g1,g2⟩:=three_at E1.out
    have z0:=free_at E0.out
    have z1:=free_at E1.out
    clear kk CD
    go_upto_region 5 with (fail)
    obtain ⟨s1,s2,s3⟩:=two_set (w0:=w) (g:=w.heap.size) (g2:=w.heap.size + 1) (by omega) E0.out E1.out (.int .i64 a0) (.int .i64 a1) (.int .i64 a2) (.int .i64 a3) (.int .i64 a4) (.int .i64 a5) (.int .i64 a6) (.int .i64 sk) (.int .i64 fk) (.int .u64 fa) F3.out (by omega) (by omega)
    have S1:=hid s1;clear s1
    have S2:=hid s2;clear s2
    have S3:=hid s3;clear s3
    clear e0 e1 e2 e3 e4 e5 e6 g0 g1 g2 z0 z1
    generalize ((((((((((w2.setCell ⟨w.heap.size,0,none⟩ (.int .i64 a0)).setCell ⟨w.heap.size,1,none⟩ (.int .i64 a1)).setCell ⟨w.heap.size,2,none⟩ (.int .i64 a2)).setCell ⟨w.heap.size,3,none⟩ (.int .i64 a3)).setCell ⟨w.heap.size,4,none⟩ (.int .i64 a4)).setCell ⟨w.heap.size,5,none⟩ (.int .i64 a5)).setCell ⟨w.heap.size,6,none⟩ (.int .i64 a6)).setCell ⟨w.heap.size + 1,0,none⟩ (.int .i64 sk)).setCell ⟨w.heap.size + 1,1,none⟩ (.int .i64 fk)).setCell ⟨w.heap.size + 1,2,none⟩ (.int .u64 fa)) = V at *
    obtain ⟨e0,e1,e2,e3,e4,e5,e6⟩:=seven_at S1.out
    obtain ⟨g0,g1,g2⟩:=three_at S2.out
    have z0:=free_at S1.out
    have z1:=free_at S2.out
    by_cases hsk:sk = 0
    · subst hsk
      obtain ⟨rfl,rfl⟩:=ans_ok HAN.out
      go_wp2_with fail
      with_reducible refine (CK.out V ⟨a0,a1,a2,a3,a4,a5,a6⟩ S3.out).mono ?_
      rintro e w4 ⟨rfl,kk⟩
      have F5:=hid (S3.out.trans kk)
      have G1:=hid (kk.at_ S1.out)
      have G2:=hid (kk.at_ S2.out)
      clear kk
      clear e0 e1 e2 e3 e4 e5 e6 g0 g1 g2 z0 z1
      obtain ⟨e0,e1,e2,e3,e4,e5,e6⟩:=seven_at G1.out
      obtain ⟨g0,g1,g2⟩:=three_at G2.out
      have z0:=free_at G1.out
      have z1:=free_at G2.out
      go_wp2_with fail
      go_region
      all_goals (
        (try go_wp2_with fail)
        (try simp only [Exit.inBlock,Exit.then])
        first
        | (obtain ⟨s1,s2,s3⟩:=two_set (w0:=w) (g:=w.heap.size) (g2:=w.heap.size + 1) (by omega) G1.out G2.out (.int .i64 a0) (.int .i64 a1) (.int .i64 a2) (.int .i64 a3) (.int .i64 a4) (.int .i64 a5) (.int .i64 a6) (.int .i64 0) (.int .i64 0) (.int .u64 0) F5.out (by omega) (by omega)
           refine bodyPost_ret (results_rows2 rfl _ _ w.heap.size (w.heap.size + 1) 47 49 _ _ (0,0) (0,0) _ _ rfl (drew_at s1) Tryz.underlying47 rfl (by kernel_rfl) rfl (drew_at s2) Tryz.underlying49 rfl (by kernel_rfl)) rfl ?_
           exact ⟨_,HAN.out,rfl,s3.drew⟩)
        | (obtain ⟨s1,s2,s3⟩:=two_set' (w0:=w) (g:=w.heap.size) (g2:=w.heap.size + 1) (by omega) G1.out G2.out (.int .i64 a0) (.int .i64 a1) (.int .i64 a2) (.int .i64 a3) (.int .i64 a4) (.int .i64 a5) (.int .i64 a6) (.int .i64 0) (.int .i64 0) (.int .u64 0) F5.out (by omega) (by omega)
           refine bodyPost_ret (results_rows2 rfl _ _ w.heap.size (w.heap.size + 1) 47 49 _ _ (0,0) (0,0) _ _ rfl (drew_at s1) Tryz.underlying47 rfl (by kernel_rfl) rfl (drew_at s2) Tryz.underlying49 rfl (by kernel_rfl)) rfl ?_
           exact ⟨_,HAN.out,rfl,s3.drew⟩))
    · have tk:(sk == 0) = false:=by simp [hsk]
      clear hsk CK
      clear e0 e1 e2 e3 e4 e5 e6 g0 g1 g2 z0 z1
      obtain ⟨e0,e1,e2,e3,e4,e5,e6⟩:=seven_at S1.out
      obtain ⟨g0,g1,g2⟩:=three_at S2.out
      have z0:=free_at S1.out
      have z1:=free_at S2.out
      go_wp2_with fail
      go_region
      all_goals (
        (try go_wp2_with fail)
        (try simp only [Exit.inBlock,Exit.then])
        first
        | (obtain ⟨s1,s2,s3⟩:=two_set (w0:=w) (g:=w.heap.size) (g2:=w.heap.size + 1) (by omega) S1.out S2.out (.int .i64 a0) (.int .i64 a1) (.int .i64 a2) (.int .i64 a3) (.int .i64 a4) (.int .i64 a5) (.int .i64 a6) (.int .i64 sk) (.int .i64 fk) (.int .u64 fa) S3.out (by omega) (by omega)
           refine bodyPost_ret (results_rows2 rfl _ _ w.heap.size (w.heap.size + 1) 47 49 _ _ (0,0) (0,0) _ _ rfl (drew_at s1) Tryz.underlying47 rfl (by kernel_rfl) rfl (drew_at s2) Tryz.underlying49 rfl (by kernel_rfl)) rfl ?_
           exact ⟨_,HAN.out,rfl,s3.drew⟩)
        | (obtain ⟨s1,s2,s3⟩:=two_set' (w0:=w) (g:=w.heap.size) (g2:=w.heap.size + 1) (by omega) S1.out S2.out (.int .i64 a0) (.int .i64 a1) (.int .i64 a2) (.int .i64 a3) (.int .i64 a4) (.int .i64 a5) (.int .i64 a6) (.int .i64 sk) (.int .i64 fk) (.int .u64 fa) S3.out (by omega) (by omega)
           refine bodyPost_ret (results_rows2 rfl _ _ w.heap.size (w.heap.size + 1) 47 49 _ _ (0,0) (0,0) _ _ rfl (drew_at s1) Tryz.underlying47 rfl (by kernel_rfl) rfl (drew_at s2) Tryz.underlying49 rfl (by kernel_rfl)) rfl ?_
           exact ⟨_,HAN.out,rfl,s3.drew⟩))
theorem fetch_nil (hm:MS T w sb n L M st mo ba en) (hT:Td.TabsS w) (pc:Nat) (hpc:pc < 2 ^ 64) :
    Calls Tryz.prog 23 #[.pointer none,addr0 sb,.int .u64 (pc:Int)] w (OffPost L M pc w):=by
  have K0:=hid ((Bl.new w (.cells (Td.I7 0 0 0 0 0 0 0) 47)).alloc (.cells #[.int .i64 0,.int .i64 0,.int .u64 0] 49))
  have A0:=hid ((Bl.new (w.alloc (.cells (Td.I7 0 0 0 0 0 0 0) 47)) (.cells #[.int .i64 0,.int .i64 0,.int .u64 0] 49)).at_ (heap_alloc_new w (.cells (Td.I7 0 0 0 0 0 0 0) 47)))
  have A1:=hid (new_next w (.cells (Td.I7 0 0 0 0 0 0 0) 47) (.cells #[.int .i64 0,.int .i64 0,.int .u64 0] 49))
  have hpcI:(pc:Int) ≤ 18446744073709551615:=by omega
  have cf:=find_nil sb pc ((w.alloc (.cells (Td.I7 0 0 0 0 0 0 0) 47)).alloc (.cells #[.int .i64 0,.int .i64 0,.int .u64 0] 49))
  have cd:=fun W (k:Bl w W)=>cdecode_any (hm.bl k) (hT.bl k) pc hpc
  have ck:=fun W i (kk:Bl w W)=>keep_nil sb pc i W
  clear hm hT
  have CF:=hid cf;clear cf
  have CD:=hid cd;clear cd
  have CK:=hid ck;clear ck
  unfold addr0 at *
  go_enter Tryz.func23,Tryz.ntmps23
  go_wp2_with fail
  with_reducible refine CF.out.mono ?_
  rintro e w1 ⟨rfl,hf⟩
  · have F1:=hid (K0.out.trans hf)
    have B0:=hid (hf.at_ A0.out)
    have B1:=hid (hf.at_ A1.out)
    have hlt1:w.heap.size + 1 < w1.heap.size:=lt_at B1.out
    clear hf CF
    go_upto_region 2 with (fail)
    have F2:=hid (F1.out.trans (Bl.new w1 (.cells (Td.I7 0 0 0 0 0 0 0) 47)))
    have C0:=hid ((Bl.new w1 (.cells (Td.I7 0 0 0 0 0 0 0) 47)).at_ B0.out)
    have C1:=hid ((Bl.new w1 (.cells (Td.I7 0 0 0 0 0 0 0) 47)).at_ B1.out)
    generalize w1.alloc (.cells (Td.I7 0 0 0 0 0 0 0) 47) = W at *
    go_wp2_with fail
    with_reducible refine (CD.out _ F2.out).mono ?_
    rintro e w2 ⟨⟨⟨a0,a1,a2,a3,a4,a5,a6⟩,sk,fk,fa⟩,han,rfl,kk⟩
    unfold Ans.v stopC Td.Ins.cells
    have HAN:=hid han;clear han
    have F3:=hid (F2.out.trans kk)
    have E0:=hid (kk.at_ C0.out)
    have E1:=hid (kk.at_ C1.out)
    have hlt2:w.heap.size + 1 < w2.heap.size:=lt_at E1.out
    obtain ⟨e0,e1,e2,e3,e4,e5,e6⟩:=seven_at E0.out
    obtain ⟨g0,g1,g2⟩:=three_at E1.out
    have z0:=free_at E0.out
    have z1:=free_at E1.out
    clear kk CD
    go_upto_region 5 with (fail)
    obtain ⟨s1,s2,s3⟩:=two_set (w0:=w) (g:=w.heap.size) (g2:=w.heap.size + 1) (by omega) E0.out E1.out (.int .i64 a0) (.int .i64 a1) (.int .i64 a2) (.int .i64 a3) (.int .i64 a4) (.int .i64 a5) (.int .i64 a6) (.int .i64 sk) (.int .i64 fk) (.int .u64 fa) F3.out (by omega) (by omega)
    have S1:=hid s1;clear s1
    have S2:=hid s2;clear s2
    have S3:=hid s3;clear s3
    clear e0 e1 e2 e3 e4 e5 e6 g0 g1 g2 z0 z1
    generalize ((((((((((w2.setCell ⟨w.heap.size,0,none⟩ (.int .i64 a0)).setCell ⟨w.heap.size,1,none⟩ (.int .i64 a1)).setCell ⟨w.heap.size,2,none⟩ (.int .i64 a2)).setCell ⟨w.heap.size,3,none⟩ (.int .i64 a3)).setCell ⟨w.heap.size,4,none⟩ (.int .i64 a4)).setCell ⟨w.heap.size,5,none⟩ (.int .i64 a5)).setCell ⟨w.heap.size,6,none⟩ (.int .i64 a6)).setCell ⟨w.heap.size + 1,0,none⟩ (.int .i64 sk)).setCell ⟨w.heap.size + 1,1,none⟩ (.int .i64 fk)).setCell ⟨w.heap.size + 1,2,none⟩ (.int .u64 fa)) = V at *
    obtain ⟨e0,e1,e2,e3,e4,e5,e6⟩:=seven_at S1.out
    obtain ⟨g0,g1,g2⟩:=three_at S2.out
    have z0:=free_at S1.out
    have z1:=free_at S2.out
    by_cases hsk:sk = 0
    · subst hsk
      obtain ⟨rfl,rfl⟩:=ans_ok HAN.out
      go_wp2_with fail
      with_reducible refine (CK.out V ⟨a0,a1,a2,a3,a4,a5,a6⟩ S3.out).mono ?_
      rintro e w4 ⟨rfl,kk⟩
      have F5:=hid (S3.out.trans kk)
      have G1:=hid (kk.at_ S1.out)
      have G2:=hid (kk.at_ S2.out)
      clear kk
      clear e0 e1 e2 e3 e4 e5 e6 g0 g1 g2 z0 z1
      obtain ⟨e0,e1,e2,e3,e4,e5,e6⟩:=seven_at G1.out
      obtain ⟨g0,g1,g2⟩:=three_at G2.out
      have z0:=free_at G1.out
      have z1:=free_at G2.out
      go_wp2_with fail
      go_region
      all_goals (
        (try go_wp2_with fail)
        (try simp only [Exit.inBlock,Exit.then])
        first
        | (obtain ⟨s1,s2,s3⟩:=two_set (w0:=w) (g:=w.heap.size) (g2:=w.heap.size + 1) (by omega) G1.out G2.out (.int .i64 a0) (.int .i64 a1) (.int .i64 a2) (.int .i64 a3) (.int .i64 a4) (.int .i64 a5) (.int .i64 a6) (.int .i64 0) (.int .i64 0) (.int .u64 0) F5.out (by omega) (by omega)
           refine bodyPost_ret (results_rows2 rfl _ _ w.heap.size (w.heap.size + 1) 47 49 _ _ (0,0) (0,0) _ _ rfl (drew_at s1) Tryz.underlying47 rfl (by kernel_rfl) rfl (drew_at s2) Tryz.underlying49 rfl (by kernel_rfl)) rfl ?_
           exact ⟨_,HAN.out,rfl,s3.drew⟩)
        | (obtain ⟨s1,s2,s3⟩:=two_set' (w0:=w) (g:=w.heap.size) (g2:=w.heap.size + 1) (by omega) G1.out G2.out (.int .i64 a0) (.int .i64 a1) (.int .i64 a2) (.int .i64 a3) (.int .i64 a4) (.int .i64 a5) (.int .i64 a6) (.int .i64 0) (.int .i64 0) (.int .u64 0) F5.out (by omega) (by omega)
           refine bodyPost_ret (results_rows2 rfl _ _ w.heap.size (w.heap.size + 1) 47 49 _ _ (0,0) (0,0) _ _ rfl (drew_at s1) Tryz.underlying47 rfl (by kernel_rfl) rfl (drew_at s2) Tryz.underlying49 rfl (by kernel_rfl)) rfl ?_
           exact ⟨_,HAN.out,rfl,s3.drew⟩))
    · have tk:(sk == 0) = false:=by simp [hsk]
      clear hsk CK
      clear e0 e1 e2 e3 e4 e5 e6 g0 g1 g2 z0 z1
      obtain ⟨e0,e1,e2,e3,e4,e5,e6⟩:=seven_at S1.out
      obtain ⟨g0,g1,g2⟩:=three_at S2.out
      have z0:=free_at S1.out
      have z1:=free_at S2.out
      go_wp2_with fail
      go_region
      all_goals (
        (try go_wp2_with fail)
        (try simp only [Exit.inBlock,Exit.then])
        first
        | (obtain ⟨s1,s2,s3⟩:=two_set (w0:=w) (g:=w.heap.size) (g2:=w.heap.size + 1) (by omega) S1.out S2.out (.int .i64 a0) (.int .i64 a1) (.int .i64 a2) (.int .i64 a3) (.int .i64 a4) (.int .i64 a5) (.int .i64 a6) (.int .i64 sk) (.int .i64 fk) (.int .u64 fa) S3.out (by omega) (by omega)
           refine bodyPost_ret (results_rows2 rfl _ _ w.heap.size (w.heap.size + 1) 47 49 _ _ (0,0) (0,0) _ _ rfl (drew_at s1) Tryz.underlying47 rfl (by kernel_rfl) rfl (drew_at s2) Tryz.underlying49 rfl (by kernel_rfl)) rfl ?_
           exact ⟨_,HAN.out,rfl,s3.drew⟩)
        | (obtain ⟨s1,s2,s3⟩:=two_set' (w0:=w) (g:=w.heap.size) (g2:=w.heap.size + 1) (by omega) S1.out S2.out (.int .i64 a0) (.int .i64 a1) (.int .i64 a2) (.int .i64 a3) (.int .i64 a4) (.int .i64 a5) (.int .i64 a6) (.int .i64 sk) (.int .i64 fk) (.int .u64 fa) S3.out (by omega) (by omega)
           refine bodyPost_ret (results_rows2 rfl _ _ w.heap.size (w.heap.size + 1) 47 49 _ _ (0,0) (0,0) _ _ rfl (drew_at s1) Tryz.underlying47 rfl (by kernel_rfl) rfl (drew_at s2) Tryz.underlying49 rfl (by kernel_rfl)) rfl ?_
           exact ⟨_,HAN.out,rfl,s3.drew⟩))
end
end Go.Proofs.YtbngjbmfkekdnaaGreatDoor

namespace Go.Proofs.YtbngjbmfkekdnaaGreatDoor
open Go.RowKit
set_option maxRecDepth 100000
def PutRel (L:List Rg) (M:Nat → Int) (a:Nat) (xs:List Int) (t:Nat) (M':Nat → Int):Prop:=
  ∀ x:Nat,((a ≤ x∧x < a + t∧∃ q,In L (x:Int) q) → M' x = xs.getD (x - a) 0)∧(¬ (a ≤ x∧x < a + t∧∃ q,In L (x:Int) q) → M' x = M x)
theorem PutRel.zero (L:List Rg) (M:Nat → Int) (a:Nat) (xs:List Int):PutRel L M a xs 0 M:=fun x=>⟨fun h=>by omega,fun _=>rfl⟩
theorem PutRel.one {L:List Rg} {M M1 M2:Nat → Int} {a t:Nat} {xs:List Int} (h:PutRel L M a xs t M1) (k:PutRel L M a xs t M2):M1 = M2:=by
  funext x
  by_cases hc:a ≤ x∧x < a + t∧∃ q,In L (x:Int) q
  · rw [(h x).1 hc,(k x).1 hc]
  · rw [(h x).2 hc,(k x).2 hc]
theorem put_rel {L:List Rg} {M st:Nat → Int} {a:Nat} {xs:List Int} (hl:Al L) (ha:a + xs.length ≤ 18446744073709551616) :
    PutStep L a xs (fun t M1 st1=>PutRel L M a xs t M1∧Rise st st1 (fun p=>∃ x:Nat,x / 4096 = p∧M1 x ≠ M x)):=by
  intro t M1 st1 c d hp ht hc hd
  obtain ⟨hp,hr⟩:=hp
  obtain rfl:c = a + t:=by omega
  have hpage:∀ x:Nat,a + t ≤ x → x < a + t + d → x / 4096 = (a + t) / 4096:=fun x h1 h2=>by omega
  have hin:∀ x:Nat,a + t ≤ x → x < a + t + d → ((∃ q,In L (x:Int) q) ↔ ∃ q,In L ((a + t:Nat):Int) q):=fun x h1 h2=>by
    have e:(x:Int) / 4096 = ((a + t:Nat):Int) / 4096:=by have:=hpage x h1 h2;omega
    constructor
    · rintro ⟨q,hq⟩
      exact ⟨q,by rw [in_page hl,← e,← in_page hl];exact hq⟩
    · rintro ⟨q,hq⟩
      exact ⟨q,by rw [in_page hl,e,← in_page hl];exact hq⟩
  have hlen:((xs.drop t).take d).length = d:=by rw [List.length_take,List.length_drop];omega
  refine ⟨fun hm st2 hr2=>⟨fun x=>?_,?_⟩,fun hm=>⟨fun x=>?_,hr⟩⟩
  · by_cases h1:a + t ≤ x∧x < a + t + d
    · have hx:=(hin x h1.1 h1.2).2 hm
      refine ⟨fun _=>?_,fun h=>absurd ⟨by omega,by omega,hx⟩ h⟩
      have e1:=lay_at M1 (a + t) ((xs.drop t).take d) (x - (a + t)) (by rw [hlen];omega)
      rw [show a + t + (x - (a + t)) = x by omega] at e1
      rw [e1,List.getD_eq_getElem?_getD,List.getElem?_take_of_lt (by omega),List.getElem?_drop,List.getD_eq_getElem?_getD,show t + (x - (a + t)) = x - a by omega]
    · rw [lay_out _ _ _ _ (by rw [hlen];omega)]
      refine ⟨fun h=>(hp x).1 ⟨h.1,by omega,h.2.2⟩,fun h=>(hp x).2 fun h'=>h ⟨h'.1,by omega,h'.2.2⟩⟩
  · refine (hr.trans hr2).mono fun p ⟨x,hx,hne⟩=>?_
    by_cases h1:lay M1 (a + t) ((xs.drop t).take d) x = M1 x
    · exact .inl ⟨x,hx,by rw [← h1];exact hne⟩
    · have h2:=lay_ne h1
      rw [hlen] at h2
      exact .inr ⟨x,h2.1,by omega,hx.symm⟩
  · refine ⟨fun h=>?_,fun h=>(hp x).2 fun h'=>h ⟨h'.1,by omega,h'.2.2⟩⟩
    rcases Nat.lt_or_ge x (a + t) with h1 | h1
    · exact (hp x).1 ⟨h.1,h1,h.2.2⟩
    · obtain ⟨q,hq⟩:=(hin x h1 (by omega)).1 h.2.2
      exact absurd hq (hm q)
theorem mput_rel {T:Nat → Prop} {w:World} {sb n0:Nat} {L:List Rg} {M st:Nat → Int} {mo ba en:Int} (h:MS T w sb n0 L M st mo ba en) (a:Nat) (A:Option Addr) (len cap:Nat) (xs:List Int) (hr:Rd w A xs) (hl:xs.length = len) (hlc:len ≤ cap) (hb:∀ k,0 ≤ xs.getD k 0∧xs.getD k 0 ≤ 255)
    (hA:0 < len → ∀ ad,A = some ad → ¬ T ad.block) (ha:a + len ≤ 18446744073709551615) (hlen:len ≤ 100000) (hn:n0 < 10000000) (hT:∀ b,w.heap.size ≤ b → T b) :
    Calls Tryz.prog 11 #[addr0 sb,.int .u64 (a:Int),.slice A len cap] w fun e w'=>e = .returned (.tuple #[])∧∃ M' st',MS T w' sb (n0 + 6 * len) L M' st' mo ba en∧PutRel L M a xs len M'∧Step L L M M' st st'∧Fr T w w':=by
  refine (mput_any h a A len cap xs hr hl hlc hb hA (by omega) hlen hn hT _ ⟨PutRel.zero L M a xs,(Rise.refl st).mono fun p ⟨x,_,hx⟩=>absurd rfl hx⟩ (put_rel h.rs.al (by omega))).mono ?_
  rintro e w' ⟨rfl,M',st',h1,⟨h2,h3⟩,h4⟩
  exact ⟨rfl,M',st',h1,h2,Step.bytes h3,h4⟩
def oneR (sb:Nat) (L:List Rg) (M st:Nat → Int):Sps:=fun b L' M' st'=>b = sb∧L' = L∧M' = M∧st' = st
theorem oneR_sole (sb:Nat) (L:List Rg) (M st:Nat → Int):Sole (oneR sb L M st) sb L M st:=⟨⟨rfl,rfl,rfl,rfl⟩,fun _ _ _ h=>h.2⟩
theorem oneR_blocks {T:Nat → Prop} {w:World} {sb n:Nat} {L:List Rg} {M st:Nat → Int} {mo ba en:Int} (h:MS T w sb n L M st mo ba en):Blocks (oneR sb L M st) w:=fun b L' M' st' hr=>by
  rw [hr.1];exact h.block_
theorem can7 {L:List Rg} {x:Int} (h:In L x 7):Can L 4 x:=⟨7,h,by decide⟩
theorem ans_17669 {L:List Rg} {M:Nat → Int} {pc:Nat} {A:Ans} (h:AnsIs L M pc A) (he:pc % 2 = 0) (h0:In L (pc:Int) 7) (h1:In L ((pc:Int) + 1) 7) (hM:M pc = 5) (hM1:M (pc + 1) = 69):A = ⟨⟨22,10,0,0,1,0,2⟩,0,0,0⟩:=by
  have hn:numAt M pc 2 = 17669:=by rw [num2_eq,hM,hM1];rfl
  have hf:FetchIs L M pc (numAt M pc 2) 0 0:=.short he (fun y y1 y2=>by
    rcases (show y = pc ∨ y = pc + 1 by omega) with rfl | rfl
    · exact can7 h0
    · exact can7 h1) (by rw [hn];decide)
  rw [hn] at hf
  have hok:okOf 17669 = true:=by kernel_rfl
  have hi:insOf 17669 = ⟨22,10,0,0,1,0,2⟩:=by kernel_rfl
  have:=h.one ⟨_,_,_,hf,rfl⟩
  rw [this]
  unfold ansOf
  rw [if_pos rfl,show (17669:Int).toNat = 17669 from rfl,if_pos hok,hi]
theorem two_bytes {a b:Int} (ha:0 ≤ a∧a ≤ 255) (hb:0 ≤ b∧b ≤ 255) (k:Nat):0 ≤ ([a,b]:List Int).getD k 0∧([a,b]:List Int).getD k 0 ≤ 255:=by
  rcases k with _ | _ | k
  · exact ha
  · exact hb
  · simp
theorem canswers_any (w:World) (hT:Td.TabsS w):Calls Tryz.prog 8 #[] w fun e w'=>e = .returned (.bool true)∧Bl w w':=by
  have hn:=mnew_any (fun b=>w.heap.size ≤ b) 2 w (Nat.le_refl _) (by omega) (by omega)
  have h21:20 < w.heap.size:=hT.lt (by decide)
  have HT:=hid hT;clear hT
  go_enter Tryz.func8,Tryz.ntmps8
  go_wp2_with fail
  with_reducible refine hn.mono ?_
  rintro e w1 ⟨rfl,h1,k1,s1⟩
  have cm:=mmap_new h1 4096 8192 4096 7 (by omega) (by omega) (by omega) (by omega) (by omega) ⟨by omega,by omega,by omega,by omega⟩ (by omega) (by omega) (fun b hb=>by omega)
  rw [show ((4096:Nat):Int) = 4096 from rfl,show ((8192:Nat):Int) = 8192 from rfl] at cm
  have CM:=hid cm;clear cm
  have K1:=hid k1;clear k1 h1 hn
  have hsz1:w1.heap.size = w.heap.size + 1:=s1
  unfold addr0 at *
  go_wp2_with fail
  with_reducible refine CM.out.mono ?_
  rintro e w2 ⟨rfl,st2,h2,r2,f2⟩
  have K2:=hid (Fr.from_bl K1.out f2);clear f2 r2 CM
  have hs2:w.heap.size ≤ w2.heap.size:=K2.out.size
  obtain ⟨M2,hM2⟩:∃ M2,wiped (fun _=>0) 4096 8192 = M2:=⟨_,rfl⟩
  rw [hM2] at h2
  clear hM2
  have hn2:(0:Nat) + 8192 = 8192:=rfl
  rw [hn2] at h2
  -- the two bytes
  have kb:=Bl.new w2 (.cells #[.int .u8 5,.int .u8 69] 5)
  have h3:=h2.gap kb w2.heap.size (w2.heap.size + 1) (Nat.le_refl _)
  have hrd:Rd (w2.alloc (.cells #[.int .u8 5,.int .u8 69] 5)) (some ⟨w2.heap.size,0,none⟩) [5,69]:=rd_row (heap_alloc_new w2 _)
  have cp:=mput_rel h3 4096 (some ⟨w2.heap.size,0,none⟩) 2 2 [5,69] hrd rfl (by omega) (two_bytes (by omega) (by omega)) (fun _ ad e hTa=>by injection e with e;subst e;exact hTa.2 ⟨Nat.le_refl _,Nat.lt_succ_self _⟩) (by omega) (by omega) (by omega) (fun b hb=>by simp at hb;exact ⟨by show w.heap.size ≤ b;omega,fun e=>by omega⟩)
  rw [show ((4096:Nat):Int) = 4096 from rfl] at cp
  have CP:=hid cp;clear cp h3 hrd h2
  have K3:=hid (K2.out.trans kb);clear kb
  unfold addr0 at *
  go_wp2_with fail
  with_reducible refine CP.out.mono ?_
  rintro e w3 ⟨rfl,M3,st3,h3,hp3,_,f3⟩
  have K4:=hid (Fr.from_bl K3.out (f3.mono fun b _ e=>e.1));clear f3 CP
  have H3:=hid h3;clear h3
  have HP:=hid hp3;clear hp3
  go_wp2_with fail
  with_reducible refine (cnew_on w3).mono ?_
  rintro e w4 ⟨rfl,hc,k5,s5⟩
  have h4:=H3.out.gap k5 w3.heap.size w4.heap.size (Nat.le_refl _)
  have hs3:w.heap.size ≤ w3.heap.size:=K4.out.size
  have cf:=fetch_on hc (by omega) (Inv.none_ _) (oneR_sole _ _ M3 st3) (oneR_blocks h4) (fun e=>e.2 ⟨Nat.le_refl _,by omega⟩) (by omega) h4 (HT.out.bl (K4.out.trans k5)) 4096 (by omega)
  rw [show ((4096:Nat):Int) = 4096 from rfl] at cf
  have CF:=hid cf;clear cf h4 hc H3
  have K5:=hid (K4.out.trans k5);clear k5
  unfold addr0 at *
  go_wp2_with fail
  with_reducible refine CF.out.mono ?_
  rintro e w5 ⟨A,hA,rfl,_,f5⟩
  have hin:∀ x:Int,4096 ≤ x → x < 8192 → In [(⟨4096,8192,7⟩:Rg)] x 7:=fun x h1 h2=>In_one.2 ⟨h1,h2,rfl⟩
  have e0:=(HP.out 4096).1 ⟨by omega,by omega,7,hin _ (by omega) (by omega)⟩
  have e1:=(HP.out 4097).1 ⟨by omega,by omega,7,hin _ (by omega) (by omega)⟩
  obtain rfl:=ans_17669 hA (by decide) (hin _ (by omega) (by omega)) (hin _ (by omega) (by omega)) (by rw [e0];rfl) (by rw [e1];rfl)
  have K6:=hid (Fr.only_new K5.out f5 hs3)
  clear e0 e1 hin hA f5 CF HP
  unfold Ans.v stopC Td.Ins.cells
  go_wp2
  go_ret
  exact ⟨rfl,(K6.out.alloc _).alloc _⟩
end Go.Proofs.YtbngjbmfkekdnaaGreatDoor
