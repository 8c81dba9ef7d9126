/-
  The contract of a cache's Fetch, on, off and none: what is there now.
  Plain facts on whole numbers: long division bit by bit, upper halves of products by halves of 32 bits, signs. No program in sight.
  Contracts of the functions on products, quotients and ranges, of the program and of the reference.
  Contracts of the functions on quotients, remainders and ranges, of the program and of the reference.
-/
import Derived.Test.YtlhpodholnfppaaGreatDoorT24
import Derived.Test.YtlhpodholnfppaaGreatDoorT2
import Derived.Lib.Hide
set_option linter.unusedVariables false
set_option linter.unusedSimpArgs false
set_option maxHeartbeats 16000000
open Go.Lib (hid)
namespace Go.Proofs.YtlhpodholnfppaaGreatDoor
open Go.RowKit
set_option maxRecDepth 100000
abbrev Sps:=Nat → List Rg → (Nat → Int) → (Nat → Int) → Prop
def Good (R:Sps) (p:Nat) (e:Ent):Prop:=(e.i.sz = 2 ∨ e.i.sz = 4)∧p < 274877906944∧(∃ L M st,R e.sb L M st)∧∀ L M st,R e.sb L M st → e.f ≤ st (p / 4096)∧e.l ≤ st ((p + e.i.sz.toNat - 1) / 4096)∧(e.f = st (p / 4096) → e.l = st ((p + e.i.sz.toNat - 1) / 4096) → AnsIs L M p ⟨e.i,0,0,0⟩)
def Inv (R:Sps) (g:Nat → Option Ent):Prop:=∀ p e,g p = some e → Good R p e
theorem Inv.none_ (R:Sps):Inv R noEnt:=fun p e h=>by cases h
def Sole (R:Sps) (sb:Nat) (L:List Rg) (M st:Nat → Int):Prop:=R sb L M st∧∀ L' M' st',R sb L' M' st' → L' = L∧M' = M∧st' = st
def Blocks (R:Sps) (w:World):Prop:=∀ b L M st,R b L M st → ∃ cs t,w.heap[b]? = some (.cells cs t (0,0))
theorem Blocks.bl {R:Sps} {w w':World} (h:Blocks R w) (k:Bl w w'):Blocks R w':=fun b L M st hr=>by
  obtain ⟨cs,t,h1⟩:=h b L M st hr
  exact ⟨cs,t,k.at_ h1⟩
theorem Inv.del {R:Sps} {g:Nat → Option Ent} (h:Inv R g) (q:Nat):Inv R (putE g q none):=fun p e he=>by
  by_cases hp:p = q
  · subst hp;rw [putE_same] at he;cases he
  · rw [putE_other _ _ _ hp] at he;exact h p e he
theorem Inv.put {R:Sps} {g:Nat → Option Ent} (h:Inv R g) {q:Nat} {x:Ent} (hx:Good R q x):Inv R (putE g q (some x)):=fun p e he=>by
  by_cases hp:p = q
  · subst hp;rw [putE_same] at he;injection he with he;subst he;exact hx
  · rw [putE_other _ _ _ hp] at he;exact h p e he
theorem inv_put {R:Sps} {g g':Nat → Option Ent} (h:Inv R g) {q:Nat} {x:Ent} (hx:Good R q x) (hg:g' = putE g q (some x) ∨ g' = putE noEnt q (some x)):Inv R g':=by
  rcases hg with rfl | rfl
  · exact h.put hx
  · exact (Inv.none_ R).put hx
theorem good_new {R:Sps} {sb:Nat} {L:List Rg} {M st:Nat → Int} (hR:Sole R sb L M st) {pc:Nat} {i:Td.Ins} (h:AnsIs L M pc ⟨i,0,0,0⟩) (hs:So 0 274877906944 L):Good R pc ⟨i,sb,st (pc / 4096),st ((pc + i.sz.toNat - 1) / 4096)⟩:=by
  obtain ⟨h1,h2⟩:=h.size hs
  refine ⟨h1,h2,⟨L,M,st,hR.1⟩,fun L' M' st' h'=>?_⟩
  obtain ⟨rfl,rfl,rfl⟩:=hR.2 L' M' st' h'
  exact ⟨Int.le_refl _,Int.le_refl _,fun _ _=>h⟩
theorem ans_ok {L:List Rg} {M:Nat → Int} {pc:Nat} {i:Td.Ins} {fk fa:Int} (h:AnsIs L M pc ⟨i,0,fk,fa⟩):fk = 0∧fa = 0:=by
  obtain ⟨y,k,x,_,he⟩:=h
  unfold ansOf at he
  split at he
  · split at he
    · injection he with _ _ h1 h2;exact ⟨h1,h2⟩
    · injection he with _ h1;cases h1
  · injection he with _ h1;cases h1
theorem two_setF {S:Nat → Prop} {w0 w:World} {g g2:Nat} {t t2:TypeId} {a0 a1 a2 a3 a4 a5 a6 c d e:Value} (hne:g ≠ g2) (h:w.heap[g]? = some (.cells #[a0,a1,a2,a3,a4,a5,a6] t (0,0))) (h2:w.heap[g2]? = some (.cells #[c,d,e] t2 (0,0)))
    (x0 x1 x2 x3 x4 x5 x6 p q r:Value) (f:Fr S w0 w) (hg:w0.heap.size ≤ g) (hg2:w0.heap.size ≤ g2) :
    (((((((((((w.setCell ⟨g,0,none⟩ x0).setCell ⟨g,1,none⟩ x1).setCell ⟨g,2,none⟩ x2).setCell ⟨g,3,none⟩ x3).setCell ⟨g,4,none⟩ x4).setCell ⟨g,5,none⟩ x5).setCell ⟨g,6,none⟩ x6).setCell ⟨g2,0,none⟩ p).setCell ⟨g2,1,none⟩ q).setCell ⟨g2,2,none⟩ r)).heap[g]? = some (.cells #[x0,x1,x2,x3,x4,x5,x6] t (0,0)) ∧
    (((((((((((w.setCell ⟨g,0,none⟩ x0).setCell ⟨g,1,none⟩ x1).setCell ⟨g,2,none⟩ x2).setCell ⟨g,3,none⟩ x3).setCell ⟨g,4,none⟩ x4).setCell ⟨g,5,none⟩ x5).setCell ⟨g,6,none⟩ x6).setCell ⟨g2,0,none⟩ p).setCell ⟨g2,1,none⟩ q).setCell ⟨g2,2,none⟩ r)).heap[g2]? = some (.cells #[p,q,r] t2 (0,0))∧Fr S w0 ((((((((((w.setCell ⟨g,0,none⟩ x0).setCell ⟨g,1,none⟩ x1).setCell ⟨g,2,none⟩ x2).setCell ⟨g,3,none⟩ x3).setCell ⟨g,4,none⟩ x4).setCell ⟨g,5,none⟩ x5).setCell ⟨g,6,none⟩ x6).setCell ⟨g2,0,none⟩ p).setCell ⟨g2,1,none⟩ q).setCell ⟨g2,2,none⟩ r):=
  ⟨oth3 (set7 x0 x1 x2 x3 x4 x5 x6 h) (fun e=>hne e.symm) p q r,set3 p q r (oth7 h2 hne x0 x1 x2 x3 x4 x5 x6),(f.bl7 hg x0 x1 x2 x3 x4 x5 x6).bl3 hg2 p q r⟩
theorem two_setF' {S:Nat → Prop} {w0 w:World} {g g2:Nat} {t t2:TypeId} {a0 a1 a2 a3 a4 a5 a6 c d e:Value} (hne:g ≠ g2) (h:w.heap[g]? = some (.cells #[a0,a1,a2,a3,a4,a5,a6] t (0,0))) (h2:w.heap[g2]? = some (.cells #[c,d,e] t2 (0,0)))
    (x0 x1 x2 x3 x4 x5 x6 p q r:Value) (f:Fr S w0 w) (hg:w0.heap.size ≤ g) (hg2:w0.heap.size ≤ g2) :
    (((((((((((w.setCell ⟨g2,0,none⟩ p).setCell ⟨g2,1,none⟩ q).setCell ⟨g2,2,none⟩ r).setCell ⟨g,0,none⟩ x0).setCell ⟨g,1,none⟩ x1).setCell ⟨g,2,none⟩ x2).setCell ⟨g,3,none⟩ x3).setCell ⟨g,4,none⟩ x4).setCell ⟨g,5,none⟩ x5).setCell ⟨g,6,none⟩ x6)).heap[g]? = some (.cells #[x0,x1,x2,x3,x4,x5,x6] t (0,0)) ∧
    (((((((((((w.setCell ⟨g2,0,none⟩ p).setCell ⟨g2,1,none⟩ q).setCell ⟨g2,2,none⟩ r).setCell ⟨g,0,none⟩ x0).setCell ⟨g,1,none⟩ x1).setCell ⟨g,2,none⟩ x2).setCell ⟨g,3,none⟩ x3).setCell ⟨g,4,none⟩ x4).setCell ⟨g,5,none⟩ x5).setCell ⟨g,6,none⟩ x6)).heap[g2]? = some (.cells #[p,q,r] t2 (0,0))∧Fr S w0 ((((((((((w.setCell ⟨g2,0,none⟩ p).setCell ⟨g2,1,none⟩ q).setCell ⟨g2,2,none⟩ r).setCell ⟨g,0,none⟩ x0).setCell ⟨g,1,none⟩ x1).setCell ⟨g,2,none⟩ x2).setCell ⟨g,3,none⟩ x3).setCell ⟨g,4,none⟩ x4).setCell ⟨g,5,none⟩ x5).setCell ⟨g,6,none⟩ x6):=
  ⟨set7 x0 x1 x2 x3 x4 x5 x6 (oth3 h (fun e=>hne e.symm) p q r),oth7 (set3 p q r h2) hne x0 x1 x2 x3 x4 x5 x6,(f.bl3 hg2 p q r).bl7 hg x0 x1 x2 x3 x4 x5 x6⟩
section
variable {R:Sps} {T:Nat → Prop} {w:World} {sb n:Nat} {L:List Rg} {M st:Nat → Int} {mo ba en:Int} {cb B k:Nat} {g:Nat → Option Ent}
def FindAny (R:Sps) (L:List Rg) (M:Nat → Int) (cb B k pc:Nat) (w:World) (e:Ending) (w':World):Prop:=
  (∃ i,AnsIs L M pc ⟨i,0,0,0⟩∧e = .returned (.tuple #[.agg i.cells,.bool true])∧Bl w w'∧∃ g' k',CA w' cb B g' k'∧k' ≤ k∧Inv R g') ∨
  (e = .returned (.tuple #[.agg (Td.I7 0 0 0 0 0 0 0),.bool false])∧∃ g' k',CA w' cb B g' k'∧k' ≤ k∧Inv R g'∧Fr (only B) w w')
theorem cfind_any (h:CA w cb B g k) (hI:Inv R g) (hR:Sole R sb L M st) (hRb:Blocks R w) (hm:MS T w sb n L M st mo ba en) (pc:Nat) (hpc:pc < 2 ^ 64) :
    Calls Tryz.prog 74 #[addr0 cb,addr0 sb,.int .u64 (pc:Int)] w (FindAny R L M cb B k pc w):=by
  cases hg:g pc with
  | none =>
    refine (find_none h sb pc hpc hg).mono ?_
    rintro e w' ⟨rfl,k1⟩
    exact Or.inr ⟨rfl,g,k,h.bl k1,Nat.le_refl _,hI,Fr.of_bl k1⟩
  | some x =>
    obtain ⟨h1,h2,⟨L1,M1,st1,h3⟩,h4⟩:=hI pc x hg
    refine (find_some h hm pc h2 x hg h1 (hRb _ _ _ _ h3)).mono ?_
    rintro e w' (⟨⟨q1,q2,q3⟩,rfl,k1⟩ | ⟨hn,rfl,⟨k',hc,hk'⟩,hf⟩)
    · refine Or.inl ⟨x.i,?_,rfl,k1,g,k,h.bl k1,Nat.le_refl _,hI⟩
      exact (h4 L M st (by rw [q1];exact hR.1)).2.2 q2 q3
    · exact Or.inr ⟨rfl,_,k',hc,hk',hI.del pc,hf⟩
def OnPost (R:Sps) (L:List Rg) (M:Nat → Int) (cb B pc:Nat) (w:World) (e:Ending) (w':World):Prop:=
  ∃ A,AnsIs L M pc A∧e = .returned A.v∧(∃ g' k',CA w' cb B g' k'∧k' ≤ 4096∧Inv R g')∧Fr (only B) w w'
def OffPost (L:List Rg) (M:Nat → Int) (pc:Nat) (w:World) (e:Ending) (w':World):Prop:=∃ A,AnsIs L M pc A∧e = .returned A.v∧Bl w w'
theorem fetch_on (h:CA w cb B g k) (hk:k ≤ 4096) (hI:Inv R g) (hR:Sole R sb L M st) (hRb:Blocks R w) (hTB:¬ T B) (hB:21 ≤ B) (hm:MS T w sb n L M st mo ba en) (hT:Td.TabsS w) (pc:Nat) (hpc:pc < 2 ^ 64) :
    Calls Tryz.prog 50 #[addr0 cb,addr0 sb,.int .u64 (pc:Int)] w (OnPost R L M cb B pc w):=by
  have K0:=hid ((Bl.new w (.cells (Td.I7 0 0 0 0 0 0 0) 38)).alloc (.cells #[.int .i64 0,.int .i64 0,.int .u64 0] 33))
  have A0:=hid ((Bl.new (w.alloc (.cells (Td.I7 0 0 0 0 0 0 0) 38)) (.cells #[.int .i64 0,.int .i64 0,.int .u64 0] 33)).at_ (heap_alloc_new w (.cells (Td.I7 0 0 0 0 0 0 0) 38)))
  have A1:=hid (new_next w (.cells (Td.I7 0 0 0 0 0 0 0) 38) (.cells #[.int .i64 0,.int .i64 0,.int .u64 0] 33))
  have hpcI:(pc:Int) ≤ 18446744073709551615:=by omega
  have cf:=cfind_any (h.bl K0.out) hI hR (hRb.bl K0.out) (hm.bl K0.out) pc hpc
  have hltB:=h.map.lt
  have hltC:=lt_at h.blk
  have cd:=fun W (k:Fr (only B) w W)=>cdecode_any (hm.kept k (fun b hb e=>hTB (by rw [← show b = B from e];exact hb))) (hT.fr k (fun g hg e=>by have e':g = B:=e;omega)) pc hpc
  have ck:=fun W g' k' i (kk:Fr (only B) w W) (hc:CA W cb B g' k') (hk':k' ≤ 4096) (hp:pc < 274877906944) (hs:i.sz = 2 ∨ i.sz = 4)=>keep_on hc hk' (hm.kept kk (fun b hb e=>hTB (by rw [← show b = B from e];exact hb))) hTB pc hp i hs
  have HSO:=hid hm.so
  have HR:=hid hR;clear hR
  have HK:=hid hk;clear hk
  clear h hI hRb hm hT hTB hB
  have CF:=hid cf;clear cf
  have CD:=hid cd;clear cd
  have CK:=hid ck;clear ck
  unfold addr0 at *
  go_enter Tryz.func50,Tryz.ntmps50
  go_wp2_with fail
  with_reducible refine CF.out.mono ?_
  rintro e w1 (⟨⟨a0,a1,a2,a3,a4,a5,a6⟩,han,rfl,hf,hc⟩ | ⟨rfl,g1',k1,hc,hk1,hI1,hf⟩)
  · unfold Td.Ins.cells
    have HAN:=hid han;clear han
    have HC:=hid hc;clear hc
    have F1:=hid ((Fr.of_bl (S:=only B) K0.out).trans (Fr.of_bl hf))
    have B0:=hid (hf.at_ A0.out)
    have B1:=hid (hf.at_ A1.out)
    have hlt1:w.heap.size + 1 < w1.heap.size:=lt_at B1.out
    clear hf CF CD CK
    go_upto_region 2 with (fail)
    have F2:=hid (F1.out.trans (Fr.of_bl (S:=only B) (Bl.new w1 (.cells (Td.I7 a0 a1 a2 a3 a4 a5 a6) 38))))
    have C0:=hid ((Bl.new w1 (.cells (Td.I7 a0 a1 a2 a3 a4 a5 a6) 38)).at_ B0.out)
    have C1:=hid ((Bl.new w1 (.cells (Td.I7 a0 a1 a2 a3 a4 a5 a6) 38)).at_ B1.out)
    have C2:=hid (heap_alloc_new w1 (.cells (Td.I7 a0 a1 a2 a3 a4 a5 a6) 38))
    obtain ⟨g9,k9,HC9⟩:∃ g9 k9,Hid (CA (w1.alloc (.cells (Td.I7 a0 a1 a2 a3 a4 a5 a6) 38)) cb B g9 k9∧k9 ≤ 4096∧Inv R g9):=by
      obtain ⟨g9,k9,q1,q2,q3⟩:=HC.out
      exact ⟨g9,k9,hid ⟨q1.bl (Bl.new _ _),by have:=HK.out;omega,q3⟩⟩
    generalize w1.alloc (.cells (Td.I7 a0 a1 a2 a3 a4 a5 a6) 38) = W at *
    obtain ⟨d0,d1,d2,d3,d4,d5,d6⟩:=seven_at C2.out
    obtain ⟨e0,e1,e2,e3,e4,e5,e6⟩:=seven_at C0.out
    obtain ⟨g0,g1,g2⟩:=three_at C1.out
    have z0:=free_at C0.out
    have z1:=free_at C1.out
    go_wp2_with fail
    (try simp only [Exit.inBlock,Exit.then])
    obtain ⟨s1,s2,s3⟩:=two_setF (S:=only B) (w0:=w) (g:=w.heap.size) (g2:=w.heap.size + 1) (by omega) C0.out C1.out (.int .i64 a0) (.int .i64 a1) (.int .i64 a2) (.int .i64 a3) (.int .i64 a4) (.int .i64 a5) (.int .i64 a6) (.int .i64 0) (.int .i64 0) (.int .u64 0) F2.out (by omega) (by omega)
    refine bodyPost_ret (results_rows2 rfl _ _ w.heap.size (w.heap.size + 1) 38 33 _ _ (0,0) (0,0) _ _ rfl s1 Tryz.underlying38 rfl (by kernel_rfl) rfl s2 Tryz.underlying33 rfl (by kernel_rfl)) rfl ?_
    exact ⟨_,HAN.out,rfl,⟨g9,k9,(HC9.out.1.bl7 (by omega) (by omega) _ _ _ _ _ _ _).bl3 (by omega) (by omega) _ _ _,HC9.out.2.1,HC9.out.2.2⟩,s3⟩
  · have HC:=hid hc;clear hc
    have HI1:=hid hI1;clear hI1
    have hk1':k1 ≤ 4096:=Nat.le_trans hk1 HK.out
    have F1:=hid ((Fr.of_bl (S:=only B) K0.out).trans hf)
    have B0:=hid (hf.at_ A0.out (fun e=>by have e':w.heap.size = B:=e;omega))
    have B1:=hid (hf.at_ A1.out (fun e=>by have e':w.heap.size + 1 = B:=e;omega))
    have hlt1:w.heap.size + 1 < w1.heap.size:=lt_at B1.out
    clear hf CF
    go_upto_region 2 with (fail)
    have F2:=hid (F1.out.trans (Fr.of_bl (S:=only B) (Bl.new w1 (.cells (Td.I7 0 0 0 0 0 0 0) 38))))
    have C0:=hid ((Bl.new w1 (.cells (Td.I7 0 0 0 0 0 0 0) 38)).at_ B0.out)
    have C1:=hid ((Bl.new w1 (.cells (Td.I7 0 0 0 0 0 0 0) 38)).at_ B1.out)
    have HC2:=hid (HC.out.bl (Bl.new w1 (.cells (Td.I7 0 0 0 0 0 0 0) 38)))
    generalize w1.alloc (.cells (Td.I7 0 0 0 0 0 0 0) 38) = W at *
    go_wp2_with fail
    with_reducible refine (CD.out _ F2.out).mono ?_
    rintro e w2 ⟨⟨⟨a0,a1,a2,a3,a4,a5,a6⟩,sk,fk,fa⟩,han,rfl,kk⟩
    unfold Ans.v stopC Td.Ins.cells
    have HAN:=hid han;clear han
    have F3:=hid (F2.out.trans (Fr.of_bl (S:=only B) kk))
    have E0:=hid (kk.at_ C0.out)
    have E1:=hid (kk.at_ C1.out)
    have hlt2:w.heap.size + 1 < w2.heap.size:=lt_at E1.out
    have HC3:=hid (HC2.out.bl kk)
    obtain ⟨e0,e1,e2,e3,e4,e5,e6⟩:=seven_at E0.out
    obtain ⟨g0,g1,g2⟩:=three_at E1.out
    have z0:=free_at E0.out
    have z1:=free_at E1.out
    clear kk CD
    go_upto_region 5 with (fail)
    obtain ⟨s1,s2,s3⟩:=two_setF (S:=only B) (w0:=w) (g:=w.heap.size) (g2:=w.heap.size + 1) (by omega) E0.out E1.out (.int .i64 a0) (.int .i64 a1) (.int .i64 a2) (.int .i64 a3) (.int .i64 a4) (.int .i64 a5) (.int .i64 a6) (.int .i64 sk) (.int .i64 fk) (.int .u64 fa) F3.out (by omega) (by omega)
    have HC4:=hid ((HC3.out.bl7 (b:=w.heap.size) (by omega) (by omega) (.int .i64 a0) (.int .i64 a1) (.int .i64 a2) (.int .i64 a3) (.int .i64 a4) (.int .i64 a5) (.int .i64 a6)).bl3 (b:=w.heap.size + 1) (by omega) (by omega) (.int .i64 sk) (.int .i64 fk) (.int .u64 fa))
    have S1:=hid s1;clear s1
    have S2:=hid s2;clear s2
    have S3:=hid s3;clear s3
    clear e0 e1 e2 e3 e4 e5 e6 g0 g1 g2 z0 z1
    generalize ((((((((((w2.setCell ⟨w.heap.size,0,none⟩ (.int .i64 a0)).setCell ⟨w.heap.size,1,none⟩ (.int .i64 a1)).setCell ⟨w.heap.size,2,none⟩ (.int .i64 a2)).setCell ⟨w.heap.size,3,none⟩ (.int .i64 a3)).setCell ⟨w.heap.size,4,none⟩ (.int .i64 a4)).setCell ⟨w.heap.size,5,none⟩ (.int .i64 a5)).setCell ⟨w.heap.size,6,none⟩ (.int .i64 a6)).setCell ⟨w.heap.size + 1,0,none⟩ (.int .i64 sk)).setCell ⟨w.heap.size + 1,1,none⟩ (.int .i64 fk)).setCell ⟨w.heap.size + 1,2,none⟩ (.int .u64 fa)) = V at *
    obtain ⟨e0,e1,e2,e3,e4,e5,e6⟩:=seven_at S1.out
    obtain ⟨g0,g1,g2⟩:=three_at S2.out
    have z0:=free_at S1.out
    have z1:=free_at S2.out
    by_cases hsk:sk = 0
    · subst hsk
      obtain ⟨rfl,rfl⟩:=ans_ok HAN.out
      obtain ⟨hsz,hpt⟩:=HAN.out.size HSO.out
      go_wp2_with fail
      with_reducible refine (CK.out V g1' k1 ⟨a0,a1,a2,a3,a4,a5,a6⟩ S3.out HC4.out hk1' hpt hsz).mono ?_
      rintro e w4 ⟨rfl,⟨g4,k4,hc4,hk4,hg4⟩,hf4⟩
      have HC5:=hid hc4;clear hc4
      have HI4:Hid (Inv R g4):=hid (inv_put HI1.out (good_new HR.out HAN.out HSO.out) hg4)
      have F5:=hid (S3.out.trans hf4)
      have G1:=hid (hf4.at_ S1.out (fun e=>by have e':w.heap.size = B:=e;omega))
      have G2:=hid (hf4.at_ S2.out (fun e=>by have e':w.heap.size + 1 = B:=e;omega))
      have HK4:=hid hk4
      clear hf4 hg4 hk4
      clear e0 e1 e2 e3 e4 e5 e6 g0 g1 g2 z0 z1
      obtain ⟨e0,e1,e2,e3,e4,e5,e6⟩:=seven_at G1.out
      obtain ⟨g0,g1,g2⟩:=three_at G2.out
      have z0:=free_at G1.out
      have z1:=free_at G2.out
      go_wp2_with fail
      go_region
      all_goals (
        (try go_wp2_with fail)
        (try simp only [Exit.inBlock,Exit.then])
        first
        | (obtain ⟨s1,s2,s3⟩:=two_setF (S:=only B) (w0:=w) (g:=w.heap.size) (g2:=w.heap.size + 1) (by omega) G1.out G2.out (.int .i64 a0) (.int .i64 a1) (.int .i64 a2) (.int .i64 a3) (.int .i64 a4) (.int .i64 a5) (.int .i64 a6) (.int .i64 0) (.int .i64 0) (.int .u64 0) F5.out (by omega) (by omega)
           refine bodyPost_ret (results_rows2 rfl _ _ w.heap.size (w.heap.size + 1) 38 33 _ _ (0,0) (0,0) _ _ rfl (drew_at s1) Tryz.underlying38 rfl (by kernel_rfl) rfl (drew_at s2) Tryz.underlying33 rfl (by kernel_rfl)) rfl ?_
           exact ⟨_,HAN.out,rfl,⟨_,_,((HC5.out.bl7 (by omega) (by omega) _ _ _ _ _ _ _).bl3 (by omega) (by omega) _ _ _).bl ((Bl.refl _).drew),HK4.out,HI4.out⟩,s3.drew⟩)
        | (obtain ⟨s1,s2,s3⟩:=two_setF' (S:=only B) (w0:=w) (g:=w.heap.size) (g2:=w.heap.size + 1) (by omega) G1.out G2.out (.int .i64 a0) (.int .i64 a1) (.int .i64 a2) (.int .i64 a3) (.int .i64 a4) (.int .i64 a5) (.int .i64 a6) (.int .i64 0) (.int .i64 0) (.int .u64 0) F5.out (by omega) (by omega)
           refine bodyPost_ret (results_rows2 rfl _ _ w.heap.size (w.heap.size + 1) 38 33 _ _ (0,0) (0,0) _ _ rfl (drew_at s1) Tryz.underlying38 rfl (by kernel_rfl) rfl (drew_at s2) Tryz.underlying33 rfl (by kernel_rfl)) rfl ?_
           exact ⟨_,HAN.out,rfl,⟨_,_,((HC5.out.bl3 (by omega) (by omega) _ _ _).bl7 (by omega) (by omega) _ _ _ _ _ _ _).bl ((Bl.refl _).drew),HK4.out,HI4.out⟩,s3.drew⟩))
    · have tk:(sk == 0) = false:=by simp [hsk]
      clear hsk CK
      clear e0 e1 e2 e3 e4 e5 e6 g0 g1 g2 z0 z1
      obtain ⟨e0,e1,e2,e3,e4,e5,e6⟩:=seven_at S1.out
      obtain ⟨g0,g1,g2⟩:=three_at S2.out
      have z0:=free_at S1.out
      have z1:=free_at S2.out
      go_wp2_with fail
      go_region
      all_goals (
        (try go_wp2_with fail)
        (try simp only [Exit.inBlock,Exit.then])
        first
        | (obtain ⟨s1,s2,s3⟩:=two_setF (S:=only B) (w0:=w) (g:=w.heap.size) (g2:=w.heap.size + 1) (by omega) S1.out S2.out (.int .i64 a0) (.int .i64 a1) (.int .i64 a2) (.int .i64 a3) (.int .i64 a4) (.int .i64 a5) (.int .i64 a6) (.int .i64 sk) (.int .i64 fk) (.int .u64 fa) S3.out (by omega) (by omega)
           refine bodyPost_ret (results_rows2 rfl _ _ w.heap.size (w.heap.size + 1) 38 33 _ _ (0,0) (0,0) _ _ rfl (drew_at s1) Tryz.underlying38 rfl (by kernel_rfl) rfl (drew_at s2) Tryz.underlying33 rfl (by kernel_rfl)) rfl ?_
           exact ⟨_,HAN.out,rfl,⟨_,_,((HC4.out.bl7 (by omega) (by omega) _ _ _ _ _ _ _).bl3 (by omega) (by omega) _ _ _).bl ((Bl.refl _).drew),hk1',HI1.out⟩,s3.drew⟩)
        | (obtain ⟨s1,s2,s3⟩:=two_setF' (S:=only B) (w0:=w) (g:=w.heap.size) (g2:=w.heap.size + 1) (by omega) S1.out S2.out (.int .i64 a0) (.int .i64 a1) (.int .i64 a2) (.int .i64 a3) (.int .i64 a4) (.int .i64 a5) (.int .i64 a6) (.int .i64 sk) (.int .i64 fk) (.int .u64 fa) S3.out (by omega) (by omega)
           refine bodyPost_ret (results_rows2 rfl _ _ w.heap.size (w.heap.size + 1) 38 33 _ _ (0,0) (0,0) _ _ rfl (drew_at s1) Tryz.underlying38 rfl (by kernel_rfl) rfl (drew_at s2) Tryz.underlying33 rfl (by kernel_rfl)) rfl ?_
           exact ⟨_,HAN.out,rfl,⟨_,_,((HC4.out.bl3 (by omega) (by omega) _ _ _).bl7 (by omega) (by omega) _ _ _ _ _ _ _).bl ((Bl.refl _).drew),hk1',HI1.out⟩,s3.drew⟩))
theorem fetch_off (h:COff w cb) (hm:MS T w sb n L M st mo ba en) (hT:Td.TabsS w) (pc:Nat) (hpc:pc < 2 ^ 64) :
    Calls Tryz.prog 50 #[addr0 cb,addr0 sb,.int .u64 (pc:Int)] w (OffPost L M pc w):=by
  have K0:=hid ((Bl.new w (.cells (Td.I7 0 0 0 0 0 0 0) 38)).alloc (.cells #[.int .i64 0,.int .i64 0,.int .u64 0] 33))
  have A0:=hid ((Bl.new (w.alloc (.cells (Td.I7 0 0 0 0 0 0 0) 38)) (.cells #[.int .i64 0,.int .i64 0,.int .u64 0] 33)).at_ (heap_alloc_new w (.cells (Td.I7 0 0 0 0 0 0 0) 38)))
  have A1:=hid (new_next w (.cells (Td.I7 0 0 0 0 0 0 0) 38) (.cells #[.int .i64 0,.int .i64 0,.int .u64 0] 33))
  have hpcI:(pc:Int) ≤ 18446744073709551615:=by omega
  have cf:=find_off (h.bl K0.out) sb pc hpc
  have cd:=fun W (k:Bl w W)=>cdecode_any (hm.bl k) (hT.bl k) pc hpc
  have ck:=fun W i (kk:Bl w W)=>keep_off (h.bl kk) sb pc i
  clear hm hT h
  have CF:=hid cf;clear cf
  have CD:=hid cd;clear cd
  have CK:=hid ck;clear ck
  unfold addr0 at *
  go_enter Tryz.func50,Tryz.ntmps50
  go_wp2_with fail
  with_reducible refine CF.out.mono ?_
  rintro e w1 ⟨rfl,hf⟩
  · have F1:=hid (K0.out.trans hf)
    have B0:=hid (hf.at_ A0.out)
    have B1:=hid (hf.at_ A1.out)
    have hlt1:w.heap.size + 1 < w1.heap.size:=lt_at B1.out
    clear hf CF
    go_upto_region 2 with (fail)
    have F2:=hid (F1.out.trans (Bl.new w1 (.cells (Td.I7 0 0 0 0 0 0 0) 38)))
    have C0:=hid ((Bl.new w1 (.cells (Td.I7 0 0 0 0 0 0 0) 38)).at_ B0.out)
    have C1:=hid ((Bl.new w1 (.cells (Td.I7 0 0 0 0 0 0 0) 38)).at_ B1.out)
    generalize w1.alloc (.cells (Td.I7 0 0 0 0 0 0 0) 38) = W at *
    go_wp2_with fail
    with_reducible refine (CD.out _ F2.out).mono ?_
    rintro e w2 ⟨⟨⟨a0,a1,a2,a3,a4,a5,a6⟩,sk,fk,fa⟩,han,rfl,kk⟩
    unfold Ans.v stopC Td.Ins.cells
    have HAN:=hid han;clear han
    have F3:=hid (F2.out.trans kk)
    have E0:=hid (kk.at_ C0.out)
    have E1:=hid (kk.at_ C1.out)
    have hlt2:w.heap.size + 1 < w2.heap.size:=lt_at E1.out
    obtain ⟨e0,e1,e2,e3,e4,e5,e6⟩:=seven_at E0.out
    obtain ⟨g0,g1,g2⟩:=three_at E1.out
    have z0:=free_at E0.out
    have z1:=free_at E1.out
    clear kk CD
    go_upto_region 5 with (fail)
    obtain ⟨s1,s2,s3⟩:=two_set (w0:=w) (g:=w.heap.size) (g2:=w.heap.size + 1) (by omega) E0.out E1.out (.int .i64 a0) (.int .i64 a1) (.int .i64 a2) (.int .i64 a3) (.int .i64 a4) (.int .i64 a5) (.int .i64 a6) (.int .i64 sk) (.int .i64 fk) (.int .u64 fa) F3.out (by omega) (by omega)
    have S1:=hid s1;clear s1
    have S2:=hid s2;clear s2
    have S3:=hid s3;clear s3
    clear e0 e1 e2 e3 e4 e5 e6 g0 g1 g2 z0 z1
    generalize ((((((((((w2.setCell ⟨w.heap.size,0,none⟩ (.int .i64 a0)).setCell ⟨w.heap.size,1,none⟩ (.int .i64 a1)).setCell ⟨w.heap.size,2,none⟩ (.int .i64 a2)).setCell ⟨w.heap.size,3,none⟩ (.int .i64 a3)).setCell ⟨w.heap.size,4,none⟩ (.int .i64 a4)).setCell ⟨w.heap.size,5,none⟩ (.int .i64 a5)).setCell ⟨w.heap.size,6,none⟩ (.int .i64 a6)).setCell ⟨w.heap.size + 1,0,none⟩ (.int .i64 sk)).setCell ⟨w.heap.size + 1,1,none⟩ (.int .i64 fk)).setCell ⟨w.heap.size + 1,2,none⟩ (.int .u64 fa)) = V at *
    obtain ⟨e0,e1,e2,e3,e4,e5,e6⟩:=seven_at S1.out
    obtain ⟨g0,g1,g2⟩:=three_at S2.out
    have z0:=free_at S1.out
    have z1:=free_at S2.out
    by_cases hsk:sk = 0
    · subst hsk
      obtain ⟨rfl,rfl⟩:=ans_ok HAN.out
      go_wp2_with fail
      with_reducible refine (CK.out V ⟨a0,a1,a2,a3,a4,a5,a6⟩ S3.out).mono ?_
      rintro e w4 ⟨rfl,kk⟩
      have F5:=hid (S3.out.trans kk)
      have G1:=hid (kk.at_ S1.out)
      have G2:=hid (kk.at_ S2.out)
      clear kk
      clear e0 e1 e2 e3 e4 e5 e6 g0 g1 g2 z0 z1
      obtain ⟨e0,e1,e2,e3,e4,e5,e6⟩:=seven_at G1.out
      obtain ⟨g0,g1,g2⟩:=three_at G2.out
      have z0:=free_at G1.out
      have z1:=free_at G2.out
      go_wp2_with fail
      go_region
      all_goals (
        (try go_wp2_with fail)
        (try simp only [Exit.inBlock,Exit.then])
        first
        | (obtain ⟨s1,s2,s3⟩:=two_set (w0:=w) (g:=w.heap.size) (g2:=w.heap.size + 1) (by omega) G1.out G2.out (.int .i64 a0) (.int .i64 a1) (.int .i64 a2) (.int .i64 a3) (.int .i64 a4) (.int .i64 a5) (.int .i64 a6) (.int .i64 0) (.int .i64 0) (.int .u64 0) F5.out (by omega) (by omega)
           refine bodyPost_ret (results_rows2 rfl _ _ w.heap.size (w.heap.size + 1) 38 33 _ _ (0,0) (0,0) _ _ rfl (drew_at s1) Tryz.underlying38 rfl (by kernel_rfl) rfl (drew_at s2) Tryz.underlying33 rfl (by kernel_rfl)) rfl ?_
           exact ⟨_,HAN.out,rfl,s3.drew⟩)
        | (obtain ⟨s1,s2,s3⟩:=two_set' (w0:=w) (g:=w.heap.size) (g2:=w.heap.size + 1) (by omega) G1.out G2.out (.int .i64 a0) (.int .i64 a1) (.int .i64 a2) (.int .i64 a3) (.int .i64 a4) (.int .i64 a5) (.int .i64 a6) (.int .i64 0) (.int .i64 0) (.int .u64 0) F5.out (by omega) (by omega)
           refine bodyPost_ret (results_rows2 rfl _ _ w.heap.size (w.heap.size + 1) 38 33 _ _ (0,0) (0,0) _ _ rfl (drew_at s1) Tryz.underlying38 rfl (by kernel_rfl) rfl (drew_at s2) Tryz.underlying33 rfl (by kernel_rfl)) rfl ?_
           exact ⟨_,HAN.out,rfl,s3.drew⟩))
    · have tk:(sk == 0) = false:=by simp [hsk]
      clear hsk CK
      clear e0 e1 e2 e3 e4 e5 e6 g0 g1 g2 z0 z1
      obtain ⟨e0,e1,e2,e3,e4,e5,e6⟩:=seven_at S1.out
      obtain ⟨g0,g1,g2⟩:=three_at S2.out
      have z0:=free_at S1.out
      have z1:=free_at S2.out
      go_wp2_with fail
      go_region
      all_goals (
        (try go_wp2_with fail)
        (try simp only [Exit.inBlock,Exit.then])
        first
        | (obtain ⟨s1,s2,s3⟩:=two_set (w0:=w) (g:=w.heap.size) (g2:=w.heap.size + 1) (by omega) S1.out S2.out (.int .i64 a0) (.int .i64 a1) (.int .i64 a2) (.int .i64 a3) (.int .i64 a4) (.int .i64 a5) (.int .i64 a6) (.int .i64 sk) (.int .i64 fk) (.int .u64 fa) S3.out (by omega) (by omega)
           refine bodyPost_ret (results_rows2 rfl _ _ w.heap.size (w.heap.size + 1) 38 33 _ _ (0,0) (0,0) _ _ rfl (drew_at s1) Tryz.underlying38 rfl (by kernel_rfl) rfl (drew_at s2) Tryz.underlying33 rfl (by kernel_rfl)) rfl ?_
           exact ⟨_,HAN.out,rfl,s3.drew⟩)
        | (obtain ⟨s1,s2,s3⟩:=two_set' (w0:=w) (g:=w.heap.size) (g2:=w.heap.size + 1) (by omega) S1.out S2.out (.int .i64 a0) (.int .i64 a1) (.int .i64 a2) (.int .i64 a3) (.int .i64 a4) (.int .i64 a5) (.int .i64 a6) (.int .i64 sk) (.int .i64 fk) (.int .u64 fa) S3.out (by omega) (by omega)
           refine bodyPost_ret (results_rows2 rfl _ _ w.heap.size (w.heap.size + 1) 38 33 _ _ (0,0) (0,0) _ _ rfl (drew_at s1) Tryz.underlying38 rfl (by kernel_rfl) rfl (drew_at s2) Tryz.underlying33 rfl (by kernel_rfl)) rfl ?_
           exact ⟨_,HAN.out,rfl,s3.drew⟩))
end
end Go.Proofs.YtlhpodholnfppaaGreatDoor

namespace Go.Proofs.YtlhpodholnfppaaGreatDoor
open Go.RowKit

theorem quo_le (a b:Int) (h0:0 ≤ a) (hb:0 < b):0 ≤ a / b∧a / b ≤ a:=⟨Int.ediv_nonneg h0 (by omega),Int.ediv_le_self _ h0⟩
theorem and32 (x:Int) (h0:0 ≤ x) (h:x < 18446744073709551616):bits .and .u64 x 4294967295 = x % 4294967296:=by
  obtain ⟨X,rfl⟩:=Int.eq_ofNat_of_zero_le h0
  have e:X &&& 4294967295 = X % 4294967296:=Nat.and_two_pow_sub_one_eq_mod X 32
  have:=u64_and_nat X 4294967295 (by omega) (by decide)
  rw [e] at this
  exact this
theorem mul_bd (x y:Int) (hx0:0 ≤ x) (hx:x ≤ 4294967295) (hy0:0 ≤ y) (hy:y ≤ 4294967295):0 ≤ x * y∧x * y ≤ 18446744065119617025:=by
  refine ⟨Int.mul_nonneg hx0 hy0,?_⟩
  have h1:=Int.mul_le_mul hx hy hy0 (by omega:(0:Int) ≤ 4294967295)
  omega
theorem mul_parts (a b:Int):a * b = a / 4294967296 * (b / 4294967296) * 18446744073709551616 + (a / 4294967296 * (b % 4294967296) + a % 4294967296 * (b / 4294967296)) * 4294967296 + a % 4294967296 * (b % 4294967296):=by
  have ea:=Int.emod_add_mul_ediv a 4294967296
  have eb:=Int.emod_add_mul_ediv b 4294967296
  generalize a / 4294967296 = a1 at *
  generalize b / 4294967296 = b1 at *
  generalize a % 4294967296 = a0 at *
  generalize b % 4294967296 = b0 at *
  rw [← ea,← eb,Int.add_mul,Int.mul_add,Int.mul_add]
  have e1:a0 * (4294967296 * b1) = a0 * b1 * 4294967296:=by rw [Int.mul_comm 4294967296 b1,Int.mul_assoc]
  have e2:4294967296 * a1 * b0 = a1 * b0 * 4294967296:=by rw [Int.mul_assoc,Int.mul_comm]
  have e3:4294967296 * a1 * (4294967296 * b1) = a1 * b1 * 18446744073709551616:=by
    rw [Int.mul_comm 4294967296 b1,Int.mul_comm 4294967296 a1,Int.mul_assoc,← Int.mul_assoc 4294967296,Int.mul_comm 4294967296 b1,← Int.mul_assoc,← Int.mul_assoc,Int.mul_assoc (a1 * b1)]
    rfl
  rw [e1,e2,e3]
  omega
theorem mulhi (a b:Int) (ha0:0 ≤ a) (ha:a < 18446744073709551616) (hb0:0 ≤ b) (hb:b < 18446744073709551616) :
    IntKind.u64.wrap (IntKind.u64.wrap (IntKind.u64.wrap (a / 4294967296 * (b / 4294967296)) +
      IntKind.u64.wrap (IntKind.u64.wrap (a / 4294967296 * bits .and .u64 b 4294967295) + IntKind.u64.wrap (bits .and .u64 a 4294967295 * bits .and .u64 b 4294967295) / 4294967296) / 4294967296) +
      IntKind.u64.wrap (bits .and .u64 (IntKind.u64.wrap (IntKind.u64.wrap (a / 4294967296 * bits .and .u64 b 4294967295) + IntKind.u64.wrap (bits .and .u64 a 4294967295 * bits .and .u64 b 4294967295) / 4294967296)) 4294967295 +
        IntKind.u64.wrap (bits .and .u64 a 4294967295 * (b / 4294967296))) / 4294967296) = a * b / 18446744073709551616:=by
  have hp:=mul_parts a b
  have b1:=mul_bd (a / 4294967296) (b / 4294967296) (by omega) (by omega) (by omega) (by omega)
  have b2:=mul_bd (a / 4294967296) (b % 4294967296) (by omega) (by omega) (by omega) (by omega)
  have b3:=mul_bd (a % 4294967296) (b / 4294967296) (by omega) (by omega) (by omega) (by omega)
  have b4:=mul_bd (a % 4294967296) (b % 4294967296) (by omega) (by omega) (by omega) (by omega)
  rw [and32 a ha0 ha,and32 b hb0 hb,hp]
  generalize a / 4294967296 * (b / 4294967296) = s at *
  generalize a / 4294967296 * (b % 4294967296) = q at *
  generalize a % 4294967296 * (b / 4294967296) = r at *
  generalize a % 4294967296 * (b % 4294967296) = p at *
  simp only [IntKind.wrap_u64]
  have e1:s % 18446744073709551616 = s:=by omega
  have e2:q % 18446744073709551616 = q:=by omega
  have e3:r % 18446744073709551616 = r:=by omega
  have e4:p % 18446744073709551616 = p:=by omega
  have e5:(q + p / 4294967296) % 18446744073709551616 = q + p / 4294967296:=by omega
  rw [e1,e2,e3,e4,e5,and32 _ (by omega) (by omega)]
  omega
theorem mulhi' (a b:Int) (ha0:0 ≤ a) (ha:a < 18446744073709551616) (hb0:0 ≤ b) (hb:b < 18446744073709551616) :
    a * b / 18446744073709551616 < 18446744073709551616∧0 ≤ a * b / 18446744073709551616:=by
  have hp:=mul_parts a b
  have b1:=mul_bd (a / 4294967296) (b / 4294967296) (by omega) (by omega) (by omega) (by omega)
  have b2:=mul_bd (a / 4294967296) (b % 4294967296) (by omega) (by omega) (by omega) (by omega)
  have b3:=mul_bd (a % 4294967296) (b / 4294967296) (by omega) (by omega) (by omega) (by omega)
  have b4:=mul_bd (a % 4294967296) (b % 4294967296) (by omega) (by omega) (by omega) (by omega)
  omega

def sizeI (x:Int):Int:=if isNeg x then 18446744073709551616 - x else x
theorem size_wrap (x:Int) (h0:0 ≤ x) (h:x < 18446744073709551616) :
    0 ≤ sizeI x∧sizeI x < 18446744073709551616∧wrap64 x = (if isNeg x then -sizeI x else sizeI x)∧(isNeg x = true → wrap64 x = x - 18446744073709551616)∧(isNeg x = false → wrap64 x = x):=by
  have hi:=isNeg_iff x h0 h
  unfold sizeI wrap64
  cases hn:isNeg x
  · rw [hn] at hi;simp at hi;simp;omega
  · rw [hn] at hi;simp at hi;simp;omega
def mulhI (a b:Int):Int:=wrap64 a * wrap64 b / 18446744073709551616 % 18446744073709551616
def mulhsuI (a b:Int):Int:=wrap64 a * b / 18446744073709551616 % 18446744073709551616
def excessI (a b:Int):Int:=if isNeg a then b else 0
theorem mulhsu_word (a b:Int) (ha0:0 ≤ a) (ha:a < 18446744073709551616) :
    IntKind.u64.wrap (a * b / 18446744073709551616 - excessI a b) = mulhsuI a b:=by
  have hw:=size_wrap a ha0 ha
  rw [IntKind.wrap_u64];unfold excessI mulhsuI
  cases hn:isNeg a
  · rw [hw.2.2.2.2 hn];simp
  · rw [hw.2.2.2.1 hn,Int.sub_mul];simp
    generalize a * b = X
    omega
theorem mulh_word (a b:Int) (ha0:0 ≤ a) (ha:a < 18446744073709551616) (hb0:0 ≤ b) (hb:b < 18446744073709551616) :
    IntKind.u64.wrap (mulhsuI a b - excessI b a) = mulhI a b:=by
  have hw:=size_wrap a ha0 ha
  have hv:=size_wrap b hb0 hb
  rw [IntKind.wrap_u64];unfold excessI mulhsuI mulhI
  cases hm:isNeg b
  · rw [hv.2.2.2.2 hm];simp
  · cases hn:isNeg a
    · rw [hv.2.2.2.1 hm,hw.2.2.2.2 hn,Int.mul_sub];simp
      generalize a * b = X
      omega
    · rw [hv.2.2.2.1 hm,hw.2.2.2.1 hn,Int.mul_sub,Int.sub_mul];simp
      generalize a * b = X
      omega
end Go.Proofs.YtlhpodholnfppaaGreatDoor

namespace Go.Proofs.YtlhpodholnfppaaGreatDoor
open Go.RowKit

theorem ret_pair {k:IntKind} {a b c d:Int} (h:a = b) (h':c = d):Ending.returned (.tuple #[.int k a,.int k c]) = .returned (.tuple #[.int k b,.int k d]):=by rw [h,h']

theorem mul64_any (a b:Int) (w:World) (ha0:0 ≤ a) (ha:a < 18446744073709551616) (hb0:0 ≤ b) (hb:b < 18446744073709551616) :
    Calls Tryz.prog 214 #[.int .u64 a,.int .u64 b] w fun e w'=>e = .returned (.tuple #[.int .u64 (a * b / 18446744073709551616),.int .u64 (a * b % 18446744073709551616)])∧w = w':=by
  go_enter Tryz.func214,Tryz.ntmps214
  go_wp2
  go_ret2
  exact ⟨ret_pair (mulhi a b ha0 ha hb0 hb) (IntKind.wrap_u64 _),rfl⟩

theorem mulhu_any (a b:Int) (w:World) (ha0:0 ≤ a) (ha:a < 18446744073709551616) (hb0:0 ≤ b) (hb:b < 18446744073709551616) :
    Calls Tryz.prog 183 #[.int .u64 a,.int .u64 b] w fun e w'=>e = .returned (.int .u64 (a * b / 18446744073709551616))∧w = w':=by
  go_enter Tryz.func183,Tryz.ntmps183
  go_wp2_with fail
  refine (mul64_any a b _ ha0 ha hb0 hb).mono ?_
  rintro e w' ⟨rfl,rfl⟩
  go_wp2
  go_ret
  exact ⟨rfl,rfl⟩

theorem excess_any (a b:Int) (w:World) (ha0:0 ≤ a) (ha:a < 18446744073709551616) :
    Calls Tryz.prog 213 #[.int .u64 a,.int .u64 b] w fun e w'=>e = .returned (.int .u64 (excessI a b))∧w = w':=by
  have hn:=isNeg_wrap a ha0 ha
  unfold excessI
  cases hi:isNeg a
  · have hw:¬ wrap64 a < 0:=fun h=>by rw [hn.2 h] at hi;cases hi
    clear hn hi
    go_enter Tryz.func213,Tryz.ntmps213
    go_wp2
    go_ret
    exact ⟨rfl,rfl⟩
  · have hw:wrap64 a < 0:=hn.1 hi
    clear hn hi
    go_enter Tryz.func213,Tryz.ntmps213
    go_wp2
    go_ret
    exact ⟨rfl,rfl⟩

theorem mulhsu_any (a b:Int) (w:World) (ha0:0 ≤ a) (ha:a < 18446744073709551616) (hb0:0 ≤ b) (hb:b < 18446744073709551616) :
    Calls Tryz.prog 182 #[.int .u64 a,.int .u64 b] w fun e w'=>e = .returned (.int .u64 (mulhsuI a b))∧w = w':=by
  have fin:=hid (mulhsu_word a b ha0 ha)
  have hm:=mulhi' a b ha0 ha hb0 hb
  go_enter Tryz.func182,Tryz.ntmps182
  go_wp2_with fail
  refine (mulhu_any a b _ ha0 ha hb0 hb).mono ?_
  rintro e w' ⟨rfl,rfl⟩
  generalize a * b / 18446744073709551616 = h at *
  go_wp2_with fail
  refine (excess_any a b _ ha0 ha).mono ?_
  rintro e w' ⟨rfl,rfl⟩
  go_wp2
  go_ret
  exact ⟨ret_int fin.out,rfl⟩

theorem mulhsu_bd (a b:Int):0 ≤ mulhsuI a b∧mulhsuI a b < 18446744073709551616:=by unfold mulhsuI;omega
theorem mulh_bd (a b:Int):0 ≤ mulhI a b∧mulhI a b < 18446744073709551616:=by unfold mulhI;omega
theorem mulhu_bd (a b:Int) (ha0:0 ≤ a) (ha:a < 18446744073709551616) (hb0:0 ≤ b) (hb:b < 18446744073709551616):0 ≤ a * b / 18446744073709551616∧a * b / 18446744073709551616 < 18446744073709551616:=by
  have:=mulhi' a b ha0 ha hb0 hb;omega

theorem mulh_any (a b:Int) (w:World) (ha0:0 ≤ a) (ha:a < 18446744073709551616) (hb0:0 ≤ b) (hb:b < 18446744073709551616) :
    Calls Tryz.prog 181 #[.int .u64 a,.int .u64 b] w fun e w'=>e = .returned (.int .u64 (mulhI a b))∧w = w':=by
  have fin:=hid (mulh_word a b ha0 ha hb0 hb)
  go_enter Tryz.func181,Tryz.ntmps181
  go_wp2_with fail
  refine (mulhsu_any a b _ ha0 ha hb0 hb).mono ?_
  rintro e w' ⟨rfl,rfl⟩
  go_wp2_with fail
  refine (excess_any b a _ hb0 hb).mono ?_
  rintro e w' ⟨rfl,rfl⟩
  go_wp2
  go_ret
  exact ⟨ret_int fin.out,rfl⟩

end Go.Proofs.YtlhpodholnfppaaGreatDoor

namespace Go.Proofs.YtlhpodholnfppaaGreatDoor
open Go.RowKit

def divuI (a b:Int):Int:=if b = 0 then 18446744073709551615 else a / b
def remuI (a b:Int):Int:=if b = 0 then a else a % b
def divI (a b:Int):Int:=if b = 0 then 18446744073709551615 else IntKind.u64.wrap (wrap64 ((wrap64 a).tdiv (wrap64 b)))
def remI (a b:Int):Int:=if b = 0 then a else IntKind.u64.wrap ((wrap64 a).tmod (wrap64 b))

theorem wrap_ne (b:Int) (hb0:0 ≤ b) (hb:b < 18446744073709551616) (h:¬ b = 0):¬ wrap64 b = 0:=by unfold wrap64;omega

theorem divu_any (a b:Int) (w:World) (ha0:0 ≤ a) (ha:a < 18446744073709551616) (hb0:0 ≤ b) :
    Calls Tryz.prog 185 #[.int .u64 a,.int .u64 b] w fun e w'=>e = .returned (.int .u64 (divuI a b))∧w = w':=by
  unfold divuI
  by_cases h:b = 0
  · subst h
    go_enter Tryz.func185,Tryz.ntmps185
    go_wp2
    go_ret
    exact ⟨rfl,rfl⟩
  · have h1:1 ≤ b:=by omega
    rw [if_neg h]
    clear h
    go_enter Tryz.func185,Tryz.ntmps185
    go_wp2
    go_ret
    exact ⟨rfl,rfl⟩
theorem remu_any (a b:Int) (w:World) (ha0:0 ≤ a) (ha:a < 18446744073709551616) (hb0:0 ≤ b) :
    Calls Tryz.prog 187 #[.int .u64 a,.int .u64 b] w fun e w'=>e = .returned (.int .u64 (remuI a b))∧w = w':=by
  unfold remuI
  by_cases h:b = 0
  · subst h
    go_enter Tryz.func187,Tryz.ntmps187
    go_wp2
    go_ret
    exact ⟨rfl,rfl⟩
  · have h1:1 ≤ b:=by omega
    rw [if_neg h]
    clear h
    go_enter Tryz.func187,Tryz.ntmps187
    go_wp2
    go_ret
    exact ⟨rfl,rfl⟩
theorem div_any (a b:Int) (w:World) (hb0:0 ≤ b) (hb:b < 18446744073709551616) :
    Calls Tryz.prog 184 #[.int .u64 a,.int .u64 b] w fun e w'=>e = .returned (.int .u64 (divI a b))∧w = w':=by
  unfold divI
  by_cases h:b = 0
  · subst h
    go_enter Tryz.func184,Tryz.ntmps184
    go_wp2
    go_ret
    exact ⟨rfl,rfl⟩
  · have h1:1 ≤ b:=by omega
    have h2:=wrap_ne b hb0 hb h
    rw [if_neg h]
    clear h
    go_enter Tryz.func184,Tryz.ntmps184
    go_wp2
    go_ret
    exact ⟨rfl,rfl⟩
theorem rem_any (a b:Int) (w:World) (hb0:0 ≤ b) (hb:b < 18446744073709551616) :
    Calls Tryz.prog 186 #[.int .u64 a,.int .u64 b] w fun e w'=>e = .returned (.int .u64 (remI a b))∧w = w':=by
  unfold remI
  by_cases h:b = 0
  · subst h
    go_enter Tryz.func186,Tryz.ntmps186
    go_wp2
    go_ret
    exact ⟨rfl,rfl⟩
  · have h1:1 ≤ b:=by omega
    have h2:=wrap_ne b hb0 hb h
    rw [if_neg h]
    clear h
    go_enter Tryz.func186,Tryz.ntmps186
    go_wp2
    go_ret
    exact ⟨rfl,rfl⟩
end Go.Proofs.YtlhpodholnfppaaGreatDoor
