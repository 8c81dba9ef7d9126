/-
  Atomic instructions: a load that holds, a store of what is held, a change, a step.
  Atomic instructions: a change, a step.
-/
import Derived.Test.YtlhpodholnfppaaGreatDoorT7
import Derived.Lib.Hide
set_option linter.unusedVariables false
set_option linter.unusedSimpArgs false
set_option maxHeartbeats 16000000
open Go.Lib (hid)
namespace Go.Proofs.YtlhpodholnfppaaGreatDoor
open Go.RowKit
set_option maxRecDepth 100000
def Grow (M M' st st':Nat → Int):Prop:=Rise st st' (fun p=>∃ x:Nat,x / 4096 = p∧M' x ≠ M x)
theorem Grow.refl (M st:Nat → Int):Grow M M st st:=(Rise.refl st).mono fun _ ⟨_,_,h⟩=>h rfl
theorem grow_lay {M st st':Nat → Int} {a n:Nat} {x:Int} (h:Rise st st' (fun p=>∃ x,a ≤ x∧x < a + n∧p = x / 4096)):Grow M (lay M a (putB x n)) st st':=h.mono fun p ⟨y,h1,h2⟩=>by
  refine ⟨y,?_⟩
  unfold lay at h2
  rw [putB_length] at h2
  split at h2
  · rename_i h3;exact ⟨h3.1,h3.2,h1.symm⟩
  · exact absurd rfl h2
def FirstAt (L:List Rg) (p a:Int) (n:Nat) (z:Int):Prop:=a ≤ z∧z < a + n∧¬ Can L p z∧∀ y,a ≤ y → y < z → Can L p y
def AllCan (L:List Rg) (p a:Int) (n:Nat):Prop:=∀ y,a ≤ y → y < a + n → Can L p y
theorem FirstAt.not {L:List Rg} {p a z:Int} {n:Nat} (h:FirstAt L p a n z) (k:AllCan L p a n):False:=h.2.2.1 (k z h.1 h.2.1)
theorem FirstAt.one {L:List Rg} {p a z y:Int} {n:Nat} (h:FirstAt L p a n z) (k:FirstAt L p a n y):z = y:=by
  rcases Int.lt_trichotomy z y with h1 | h1 | h1
  · exact absurd (k.2.2.2 z h.1 h1) h.2.2.1
  · exact h1
  · exact absurd (h.2.2.2 y k.1 h1) k.2.2.1
structure Out where
  y:Int
  ta:Int
  tn:Int
  k:Int
  fk:Int
  fa:Int
def Out.v (o:Out):Value:=.tuple #[.int .u64 o.y,holdV o.ta o.tn,stopV o.k o.fk o.fa]
def badO (k fk fa:Int):Out:=⟨0,0,0,k,fk,fa⟩
section
variable {T:Nat → Prop} {w:World} {sb n0:Nat} {L:List Rg} {M st:Nat → Int} {mo ba en:Int}
def LoadHPost (w:World) (L:List Rg) (M:Nat → Int) (a n:Nat) (e:Ending) (w':World):Prop:=∃ o:Out,e = .returned o.v∧((∃ z,FirstAt L 1 a n z∧o = badO 4 1 z) ∨ (AllCan L 1 a n∧o = ⟨sextI (numAt M a n) (8 * n),a,n,0,0,0⟩))∧Bl w w'
theorem loadh_any (h:MS T w sb n0 L M st mo ba en) (a n:Nat) (ha:a < 2 ^ 64) (hn:n = 4 ∨ n = 8) :
    Calls Tryz.prog 157 #[addr0 sb,holdV a n] w (LoadHPost w L M a n):=by
  obtain ⟨b0,b1,b2⟩:=three_new w (.cells #[.int .u64 (a:Int),.int .i64 (n:Int)] 45) (.cells #[.int .u64 0,.int .i64 0] 45) (.cells #[.int .i64 0,.int .i64 0,.int .u64 0] 33)
  have k0:Bl w (((w.alloc (.cells #[.int .u64 (a:Int),.int .i64 (n:Int)] 45)).alloc (.cells #[.int .u64 0,.int .i64 0] 45)).alloc (.cells #[.int .i64 0,.int .i64 0,.int .u64 0] 33)):=(((Bl.refl w).alloc _).alloc _).alloc _
  have cl:=load_any (h.bl k0) a n ha (by omega)
  have cf:=fun x w=>filled_any a n x w (by omega)
  have cfa:=fun k x w=>faulty_any k x w
  have CL:=hid cl;clear cl h
  have CF:=hid cf;clear cf
  have CFA:=hid cfa;clear cfa
  have B0:=hid b0;clear b0
  have B1:=hid b1;clear b1
  have B2:=hid b2;clear b2
  have K0:=hid k0;clear k0
  have HN:=hid hn;clear hn
  have HA:=hid ha;clear ha
  unfold addr0 holdV stopV faultV at *
  go_enter Tryz.func157,Tryz.ntmps157
  go_wp2_with fail
  with_reducible refine CL.out.mono ?_
  rintro e w1 ⟨y,k,x,rfl,hh,kk⟩
  have D0:=hid (kk.at_ B0.out)
  have D1:=hid (kk.at_ B1.out)
  have D2:=hid (kk.at_ B2.out)
  have K1:=hid (K0.out.trans kk)
  clear B0 B1 B2 K0 kk CL
  unfold faultV
  rcases hh with ⟨rfl,hy,hh⟩ | ⟨rfl,hx,hy,hh⟩
  · have HH:=hid hh;clear hh
    have HY:=hid hy;clear hy
    go_wp2_with fail
    with_reducible refine (CFA.out 1 x _).mono ?_
    rintro e w2 ⟨rfl,k2⟩
    have E1:=(((Bl.new w1 (.cells #[.int .i64 1,.int .u64 x] 31)).trans k2).at_ D1.out)
    have E2:=(((Bl.new w1 (.cells #[.int .i64 1,.int .u64 x] 31)).trans k2).at_ D2.out)
    have K2:=hid (K1.out.trans ((Bl.new w1 (.cells #[.int .i64 1,.int .u64 x] 31)).trans k2))
    obtain ⟨c0,c1,f0,f1⟩:=row2 E1
    obtain ⟨d0,d1,d2,q0,q1,q2⟩:=row3 E2
    have E1':=hid E1;clear E1
    have E2':=hid E2;clear E2 k2
    go_wp2_with fail
    (try simp only [Exit.inBlock,Exit.then])
    obtain ⟨s1,s2,s3⟩:=set_both (S:=fun _=>False) (by omega) E1'.out E2'.out (.int .u64 0) (.int .i64 0) (.int .i64 4) (.int .i64 1) (.int .u64 x) (Fr.of_bl K2.out) (by omega) (by omega)
    refine bodyPost_ret (results_tmp_rows rfl _ _ (w.heap.size + 1) (w.heap.size + 1 + 1) 45 33 _ _ (0,0) (0,0) _ _ rfl (s1) Tryz.underlying45 rfl (by kernel_rfl) rfl (s2) Tryz.underlying33 rfl (by kernel_rfl)) rfl ?_
    exact ⟨badO 4 1 x,rfl,.inl ⟨x,HH.out,rfl⟩,s3.bl (fun _ _ e=>e)⟩
  · have HH:=hid hh;clear hh
    have HY:=hid hy;clear hy
    have HX:=hid hx;clear hx
    go_wp2_with fail
    have F0:=hid ((Bl.new w1 (.cells #[.int .i64 0,.int .u64 x] 31)).at_ D0.out)
    have F1:=hid ((Bl.new w1 (.cells #[.int .i64 0,.int .u64 x] 31)).at_ D1.out)
    have F2:=hid ((Bl.new w1 (.cells #[.int .i64 0,.int .u64 x] 31)).at_ D2.out)
    have KW:=hid (K1.out.alloc (.cells #[.int .i64 0,.int .u64 x] 31))
    clear D0 D1 D2 K1
    generalize w1.alloc (.cells #[.int .i64 0,.int .u64 x] 31) = W at *
    obtain ⟨c0,c1,g0,g1⟩:=row2 F0.out
    go_region_with (first | (go_at_call 178;refine (CF.out _ _).mono ?_;rintro e w9 ⟨rfl,k9⟩;have G0:=k9.at_ F0.out;obtain ⟨c0,c1,g0,g1⟩:=row2 G0;have E1:=k9.at_ F1.out;have E2:=k9.at_ F2.out;obtain ⟨x0,x1,f0,f1⟩:=row2 E1;obtain ⟨d0,d1,d2,q0,q1,q2⟩:=row3 E2))
    all_goals (
      (try go_wp2_with fail)
      (try simp only [Exit.inBlock,Exit.then])
      obtain ⟨s1,s2,s3⟩:=set_both (S:=fun _=>False) (by omega) E1 E2 (.int .u64 (a:Int)) (.int .i64 (n:Int)) (.int .i64 0) (.int .i64 0) (.int .u64 0) (Fr.of_bl (KW.out.trans ((Bl.refl W).drew.trans k9))) (by omega) (by omega)
      refine bodyPost_ret (results_tmp_rows rfl _ _ (w.heap.size + 1) (w.heap.size + 1 + 1) 45 33 _ _ (0,0) (0,0) _ _ rfl (s1) Tryz.underlying45 rfl (by kernel_rfl) rfl (s2) Tryz.underlying33 rfl (by kernel_rfl)) rfl ?_
      exact ⟨⟨sextI (numAt M a n) (8 * n),a,n,0,0,0⟩,by rw [HY.out];rfl,.inr ⟨HH.out,rfl⟩,s3.bl (fun _ _ e=>e)⟩)
def StoreHPost (T:Nat → Prop) (w:World) (sb n0:Nat) (L:List Rg) (M st:Nat → Int) (mo ba en:Int) (ha hn:Int) (a n:Nat) (x:Int) (e:Ending) (w':World):Prop:=∃ o:Out,e = .returned o.v ∧
  ((∃ z,FirstAt L 2 a n z∧o = badO 4 2 z∧Bl w w') ∨ (AllCan L 2 a n∧¬ (ha = a∧hn = n)∧o = ⟨1,0,0,0,0,0⟩∧Bl w w') ∨
   (AllCan L 2 a n∧(ha = a∧hn = n)∧o = ⟨0,0,0,0,0,0⟩∧(∃ st',Grow M (lay M a (putB x n)) st st'∧MS T w' sb (n0 + 9) L (lay M a (putB x n)) st' mo ba en)∧Fr T w w'))
theorem set_two {w:World} {g g2:Nat} (x y p q r:Value):Fr (fun b=>b = g ∨ b = g2) w (((((w.setCell ⟨g,0,none⟩ x).setCell ⟨g,1,none⟩ y).setCell ⟨g2,0,none⟩ p).setCell ⟨g2,1,none⟩ q).setCell ⟨g2,2,none⟩ r):=
  ((((Fr.set (p:=⟨g,0,none⟩) (.inl rfl) x).trans (Fr.set (p:=⟨g,1,none⟩) (.inl rfl) y)).trans (Fr.set (p:=⟨g2,0,none⟩) (.inr rfl) p)).trans (Fr.set (p:=⟨g2,1,none⟩) (.inr rfl) q)).trans (Fr.set (p:=⟨g2,2,none⟩) (.inr rfl) r)
theorem four_new (w:World) (a b c d:Obj):((((w.alloc a).alloc b).alloc c).alloc d).heap[w.heap.size]? = some a∧((((w.alloc a).alloc b).alloc c).alloc d).heap[w.heap.size + 1]? = some b∧((((w.alloc a).alloc b).alloc c).alloc d).heap[w.heap.size + 2]? = some c∧((((w.alloc a).alloc b).alloc c).alloc d).heap[w.heap.size + 3]? = some d:=by
  obtain ⟨h1,h2,h3⟩:=three_new w a b c
  refine ⟨(Bl.new _ _).at_ h1,(Bl.new _ _).at_ h2,(Bl.new _ _).at_ h3,?_⟩
  have:=heap_alloc_new (((w.alloc a).alloc b).alloc c) d
  rwa [show (((w.alloc a).alloc b).alloc c).heap.size = w.heap.size + 3 by simp] at this
theorem hold_neq (a n b m:Int) (w:World):(Go.binOp .neq 45 (.agg #[.int .u64 a,.int .i64 n]) (.agg #[.int .u64 b,.int .i64 m])).run Tryz.prog w = .ok (.bool (decide (¬ (a = b∧n = m)))) w:=by
  go_simp
  split <;> (try split) <;> simp_all
theorem storeh_any (h:MS T w sb n0 L M st mo ba en) (ha hn:Int) (a n:Nat) (x:Int) (hA:a < 2 ^ 64) (hN:n = 4 ∨ n = 8) (hn0:n0 < 80000000) (hT:∀ b,w.heap.size ≤ b → T b) :
    Calls Tryz.prog 158 #[addr0 sb,holdV ha hn,holdV a n,.int .u64 x] w (StoreHPost T w sb n0 L M st mo ba en ha hn a n x):=by
  obtain ⟨b0,b1,b2,b3⟩:=four_new w (.cells #[.int .u64 ha,.int .i64 hn] 45) (.cells #[.int .u64 (a:Int),.int .i64 (n:Int)] 45) (.cells #[.int .u64 0,.int .i64 0] 45) (.cells #[.int .i64 0,.int .i64 0,.int .u64 0] 33)
  have k0:Bl w ((((w.alloc (.cells #[.int .u64 ha,.int .i64 hn] 45)).alloc (.cells #[.int .u64 (a:Int),.int .i64 (n:Int)] 45)).alloc (.cells #[.int .u64 0,.int .i64 0] 45)).alloc (.cells #[.int .i64 0,.int .i64 0,.int .u64 0] 33)):=((((Bl.refl w).alloc _).alloc _).alloc _).alloc _
  have cl:=probe_any (h.bl k0) a n (by omega) (by omega) (by omega)
  have cs:=fun W (k:Bl w W)=>mstore_any (h.gap k w.heap.size W.heap.size (Nat.le_refl _)) a n x hA (by omega) hn0 (gap_new hT w.heap.size k.size)
  have hq:=hold_neq ha hn a n
  have CL:=hid cl;clear cl
  have CS:=hid cs;clear cs
  have cfa:=fun k x w=>faulty_any k x w
  have CFA:=hid cfa;clear cfa
  have H:=hid h;clear h
  have HT_:=hid hT;clear hT
  have B0:=hid b0;clear b0
  have B1:=hid b1;clear b1
  have B2:=hid b2;clear b2
  have B3:=hid b3;clear b3
  have K0:=hid k0;clear k0
  have HN:=hid hN;clear hN
  have HA:=hid hA;clear hA
  have HQ:=hid hq;clear hq
  have HN0:=hid hn0;clear hn0
  unfold addr0 holdV stopV faultV at *
  go_enter Tryz.func158,Tryz.ntmps158
  go_wp2_with fail
  with_reducible refine CL.out.mono ?_
  rintro e w1 ⟨k,y,rfl,hh,kk⟩
  have D0:=hid (kk.at_ B0.out)
  have D1:=hid (kk.at_ B1.out)
  have D2:=hid (kk.at_ B2.out)
  have D3:=hid (kk.at_ B3.out)
  have K1:=hid (K0.out.trans kk)
  clear B0 B1 B2 B3 K0 kk CL
  unfold faultV
  rcases hh with ⟨rfl,hh⟩ | ⟨rfl,hx,hh⟩
  · have HH:=hid hh;clear hh
    go_wp2_with fail
    with_reducible refine (CFA.out 2 y _).mono ?_
    rintro e w2 ⟨rfl,k2⟩
    have E1:=(((Bl.new w1 (.cells #[.int .i64 2,.int .u64 y] 31)).trans k2).at_ D2.out)
    have E2:=(((Bl.new w1 (.cells #[.int .i64 2,.int .u64 y] 31)).trans k2).at_ D3.out)
    have K2:=hid (K1.out.trans ((Bl.new w1 (.cells #[.int .i64 2,.int .u64 y] 31)).trans k2))
    obtain ⟨c0,c1,f0,f1⟩:=row2 E1
    obtain ⟨d0,d1,d2,q0,q1,q2⟩:=row3 E2
    have E1':=hid E1;clear E1
    have E2':=hid E2;clear E2 k2
    go_wp2_with fail
    (try simp only [Exit.inBlock,Exit.then])
    obtain ⟨s1,s2,s3⟩:=set_both (S:=fun _=>False) (by omega) E1'.out E2'.out (.int .u64 0) (.int .i64 0) (.int .i64 4) (.int .i64 2) (.int .u64 y) (Fr.of_bl K2.out) (by omega) (by omega)
    refine bodyPost_ret (results_tmp_rows rfl _ _ (w.heap.size + 1 + 1) (w.heap.size + 1 + 1 + 1) 45 33 _ _ (0,0) (0,0) _ _ rfl (s1) Tryz.underlying45 rfl (by kernel_rfl) rfl (s2) Tryz.underlying33 rfl (by kernel_rfl)) rfl ?_
    exact ⟨badO 4 2 y,rfl,.inl ⟨y,HH.out,rfl,s3.bl (fun _ _ e=>e)⟩⟩
  · have HH:=hid hh;clear hh
    have HX:=hid hx;clear hx
    have F0:=hid ((Bl.new w1 (.cells #[.int .i64 0,.int .u64 y] 31)).at_ D0.out)
    have F1:=hid ((Bl.new w1 (.cells #[.int .i64 0,.int .u64 y] 31)).at_ D1.out)
    have F2:=hid ((Bl.new w1 (.cells #[.int .i64 0,.int .u64 y] 31)).at_ D2.out)
    have F3:=hid ((Bl.new w1 (.cells #[.int .i64 0,.int .u64 y] 31)).at_ D3.out)
    have KW:=hid (K1.out.alloc (.cells #[.int .i64 0,.int .u64 y] 31))
    clear D0 D1 D2 D3 K1
    go_upto_region 4 with (fail)
    generalize w1.alloc (.cells #[.int .i64 0,.int .u64 y] 31) = W at *
    obtain ⟨c0,c1,g0,g1⟩:=row2 F0.out
    obtain ⟨c2,c3,g2,g3⟩:=row2 F1.out
    by_cases he:ha = a∧hn = n
    · have hq:=HQ.out
      rw [decide_eq_false (fun h=>h he)] at hq
      have HE:=hid he;clear he
      go_wp2_with fail
      with_reducible refine (CS.out _ KW.out).mono ?_
      rintro e w2 ⟨k,z,rfl,hs⟩
      rcases hs with ⟨hk,z1,z2,z3,_⟩ | ⟨hk,hz,_,st',hms,hri,hfr⟩
      · exact absurd (HH.out z z1 z2) z3
      · have HRI:=hid (grow_lay (M:=M) (x:=x) hri);clear hri
        have E1:=hfr.at_ F2.out (fun e=>e.2 ⟨by omega,by have:=lt_at F2.out;omega⟩)
        have E2:=hfr.at_ F3.out (fun e=>e.2 ⟨by omega,by have:=lt_at F3.out;omega⟩)
        obtain ⟨x0,x1,f0,f1⟩:=row2 E1
        obtain ⟨d0,d1,d2,q0,q1,q2⟩:=row3 E2
        have hfr2:Fr T w w2:=(Fr.of_bl KW.out).trans hfr.ungap
        have HFR2:=hid hfr2;clear hfr2 hfr
        have HMS:=hid hms;clear hms
        have E1':=hid E1;clear E1
        have E2':=hid E2;clear E2 hq
        have HSZ:=hid KW.out.size
        go_wp2_with fail
        (try simp only [Exit.inBlock,Exit.then])
        obtain ⟨s1,s2,s3⟩:=set_both (S:=T) (by omega) E1'.out E2'.out (.int .u64 0) (.int .i64 0) (.int .i64 0) (.int .i64 0) (.int .u64 0) HFR2.out (by omega) (by omega)
        have hms2:=HMS.out.kept (set_two (g:=w.heap.size + 1 + 1) (g2:=w.heap.size + 1 + 1 + 1) (.int .u64 0) (.int .i64 0) (.int .i64 0) (.int .i64 0) (.int .u64 0)) (fun b e e2=>e.2 ⟨by omega,by have h8:=lt_at F2.out;have h9:=lt_at F3.out;omega⟩)
        refine bodyPost_ret (results_tmp_rows rfl _ _ (w.heap.size + 1 + 1) (w.heap.size + 1 + 1 + 1) 45 33 _ _ (0,0) (0,0) _ _ rfl (s1) Tryz.underlying45 rfl (by kernel_rfl) rfl (s2) Tryz.underlying33 rfl (by kernel_rfl)) rfl ?_
        exact ⟨⟨0,0,0,0,0,0⟩,rfl,.inr (.inr ⟨HH.out,HE.out,rfl,⟨st',HRI.out,hms2.ungap⟩,s3⟩)⟩
    · have hq:=HQ.out
      rw [decide_eq_true he] at hq
      have HE:=hid he;clear he
      have E1:=F2.out
      have E2:=F3.out
      obtain ⟨x0,x1,f0,f1⟩:=row2 E1
      obtain ⟨d0,d1,d2,q0,q1,q2⟩:=row3 E2
      have E1':=hid E1;clear E1
      have E2':=hid E2;clear E2
      go_wp2_with fail
      (try simp only [Exit.inBlock,Exit.then])
      obtain ⟨s1,s2,s3⟩:=set_both (S:=fun _=>False) (by omega) E1'.out E2'.out (.int .u64 0) (.int .i64 0) (.int .i64 0) (.int .i64 0) (.int .u64 0) (Fr.of_bl KW.out) (by omega) (by omega)
      refine bodyPost_ret (results_tmp_rows rfl _ _ (w.heap.size + 1 + 1) (w.heap.size + 1 + 1 + 1) 45 33 _ _ (0,0) (0,0) _ _ rfl (s1) Tryz.underlying45 rfl (by kernel_rfl) rfl (s2) Tryz.underlying33 rfl (by kernel_rfl)) rfl ?_
      exact ⟨⟨1,0,0,0,0,0⟩,rfl,.inr (.inl ⟨HH.out,HE.out,rfl,s3.bl (fun _ _ e=>e)⟩)⟩
end
end Go.Proofs.YtlhpodholnfppaaGreatDoor

namespace Go.Proofs.YtlhpodholnfppaaGreatDoor
open Go.RowKit
set_option maxRecDepth 100000
section
variable {T:Nat → Prop} {w:World} {sb n0:Nat} {L:List Rg} {M st:Nat → Int} {mo ba en:Int}
theorem numAt_bd {M:Nat → Int} (h:∀ x,0 ≤ M x∧M x ≤ 255) (a n:Nat) (hn:n = 4 ∨ n = 8):0 ≤ numAt M a n∧numAt M a n < 18446744073709551616:=by
  have h1:=getS_bd (bytesAt M a n) (bytesAt_bd h a n) n
  unfold numAt
  rcases hn with rfl | rfl
  · have:(2:Int) ^ (8 * 4) = 4294967296:=rfl
    omega
  · have:(2:Int) ^ (8 * 8) = 18446744073709551616:=rfl
    omega
theorem keep_two {w2:World} {hi g g2:Nat} (hms:MS (gap T w.heap.size hi) w2 sb n0 L M st mo ba en) (hg:w.heap.size ≤ g∧g < hi) (hg2:w.heap.size ≤ g2∧g2 < hi) (x y p q r:Value):MS T (((((w2.setCell ⟨g,0,none⟩ x).setCell ⟨g,1,none⟩ y).setCell ⟨g2,0,none⟩ p).setCell ⟨g2,1,none⟩ q).setCell ⟨g2,2,none⟩ r) sb n0 L M st mo ba en:=
  (hms.kept (set_two (g:=g) (g2:=g2) x y p q r) (fun b e e2=>e.2 (by rcases e2 with e2 | e2 <;> rw [e2];exact hg;exact hg2))).ungap
def ChangePost (T:Nat → Prop) (w:World) (sb n0:Nat) (L:List Rg) (M st:Nat → Int) (mo ba en:Int) (ha hn op:Int) (a n:Nat) (x:Int) (e:Ending) (w':World):Prop:=∃ o:Out,e = .returned o.v ∧
  ((∃ z,FirstAt L 1 a n z∧o = badO 4 1 z∧Bl w w') ∨ (∃ z,AllCan L 1 a n∧FirstAt L 2 a n z∧o = badO 4 2 z∧Bl w w') ∨
   (AllCan L 1 a n∧AllCan L 2 a n∧o = ⟨sextI (numAt M a n) (8 * n),ha,hn,0,0,0⟩∧(∃ st',Grow M (lay M a (putB (amoV op (numAt M a n) x) n)) st st'∧MS T w' sb (n0 + 9) L (lay M a (putB (amoV op (numAt M a n) x) n)) st' mo ba en)∧Fr T w w'))
theorem change_any (h:MS T w sb n0 L M st mo ba en) (ha hn op:Int) (a n:Nat) (x:Int) (hA:a < 2 ^ 64) (hN:n = 4 ∨ n = 8) (hx0:0 ≤ x) (hx1:x < 18446744073709551616) (hn0:n0 < 80000000) (hT:∀ b,w.heap.size ≤ b → T b) :
    Calls Tryz.prog 159 #[addr0 sb,holdV ha hn,holdV a n,.int .i64 op,.int .u64 x] w (ChangePost T w sb n0 L M st mo ba en ha hn op a n x):=by
  obtain ⟨b0,b1,b2,b3⟩:=four_new w (.cells #[.int .u64 ha,.int .i64 hn] 45) (.cells #[.int .u64 (a:Int),.int .i64 (n:Int)] 45) (.cells #[.int .u64 0,.int .i64 0] 45) (.cells #[.int .i64 0,.int .i64 0,.int .u64 0] 33)
  have k0:Bl w ((((w.alloc (.cells #[.int .u64 ha,.int .i64 hn] 45)).alloc (.cells #[.int .u64 (a:Int),.int .i64 (n:Int)] 45)).alloc (.cells #[.int .u64 0,.int .i64 0] 45)).alloc (.cells #[.int .i64 0,.int .i64 0,.int .u64 0] 33)):=((((Bl.refl w).alloc _).alloc _).alloc _).alloc _
  have cl:=load_any (h.bl k0) a n hA (by omega)
  have nb:=numAt_bd h.by_ a n hN
  have cd:=fun w=>do_any op (numAt M a n) x w nb.1 nb.2 hx0 hx1
  have cs:=fun W (k:Bl w W)=>mstore_any (h.gap k w.heap.size W.heap.size (Nat.le_refl _)) a n (amoV op (numAt M a n) x) hA (by omega) hn0 (gap_new hT w.heap.size k.size)
  have cf:=fun x w=>filled_any a n x w (by omega)
  have cfa:=fun k x w=>faulty_any k x w
  have CL:=hid cl;clear cl
  have CD:=hid cd;clear cd
  have CS:=hid cs;clear cs
  have CF:=hid cf;clear cf
  have CFA:=hid cfa;clear cfa
  have H:=hid h;clear h
  have HT_:=hid hT;clear hT
  have B0:=hid b0;clear b0
  have B1:=hid b1;clear b1
  have B2:=hid b2;clear b2
  have B3:=hid b3;clear b3
  have K0:=hid k0;clear k0
  have HN:=hid hN;clear hN
  have HA:=hid hA;clear hA
  have HN0:=hid hn0;clear hn0
  have NB:=hid nb;clear nb hx0 hx1
  unfold addr0 holdV stopV faultV at *
  go_enter Tryz.func159,Tryz.ntmps159
  go_wp2_with fail
  with_reducible refine CL.out.mono ?_
  rintro e w1 ⟨y,k,z,rfl,hh,kk⟩
  have D0:=hid (kk.at_ B0.out)
  have D1:=hid (kk.at_ B1.out)
  have D2:=hid (kk.at_ B2.out)
  have D3:=hid (kk.at_ B3.out)
  have K1:=hid (K0.out.trans kk)
  clear B0 B1 B2 B3 K0 kk CL
  unfold faultV
  rcases hh with ⟨rfl,hy,hh⟩ | ⟨rfl,hx,hy,hh⟩
  · have HH:=hid hh;clear hh
    have HY:=hid hy;clear hy
    go_wp2_with fail
    with_reducible refine (CFA.out 1 z _).mono ?_
    rintro e w2 ⟨rfl,k2⟩
    have E1:=(((Bl.new w1 (.cells #[.int .i64 1,.int .u64 z] 31)).trans k2).at_ D2.out)
    have E2:=(((Bl.new w1 (.cells #[.int .i64 1,.int .u64 z] 31)).trans k2).at_ D3.out)
    have K2:=hid (K1.out.trans ((Bl.new w1 (.cells #[.int .i64 1,.int .u64 z] 31)).trans k2))
    obtain ⟨c0,c1,f0,f1⟩:=row2 E1
    obtain ⟨d0,d1,d2,q0,q1,q2⟩:=row3 E2
    have E1':=hid E1;clear E1
    have E2':=hid E2;clear E2 k2
    go_wp2_with fail
    (try simp only [Exit.inBlock,Exit.then])
    obtain ⟨s1,s2,s3⟩:=set_both (S:=fun _=>False) (by omega) E1'.out E2'.out (.int .u64 0) (.int .i64 0) (.int .i64 4) (.int .i64 1) (.int .u64 z) (Fr.of_bl K2.out) (by omega) (by omega)
    refine bodyPost_ret (results_tmp_rows rfl _ _ (w.heap.size + 1 + 1) (w.heap.size + 1 + 1 + 1) 45 33 _ _ (0,0) (0,0) _ _ rfl (s1) Tryz.underlying45 rfl (by kernel_rfl) rfl (s2) Tryz.underlying33 rfl (by kernel_rfl)) rfl ?_
    exact ⟨badO 4 1 z,rfl,.inl ⟨z,HH.out,rfl,s3.bl (fun _ _ e=>e)⟩⟩
  · have HH:=hid hh;clear hh
    subst hy hx
    have F0:=hid ((Bl.new w1 (.cells #[.int .i64 0,.int .u64 0] 31)).at_ D0.out)
    have F1:=hid ((Bl.new w1 (.cells #[.int .i64 0,.int .u64 0] 31)).at_ D1.out)
    have F2:=hid ((Bl.new w1 (.cells #[.int .i64 0,.int .u64 0] 31)).at_ D2.out)
    have F3:=hid ((Bl.new w1 (.cells #[.int .i64 0,.int .u64 0] 31)).at_ D3.out)
    have KW:=hid (K1.out.alloc (.cells #[.int .i64 0,.int .u64 0] 31))
    clear D0 D1 D2 D3 K1
    go_wp2_with fail
    with_reducible refine (CD.out _).mono ?_
    rintro e w' ⟨rfl,rfl⟩
    generalize w1.alloc (.cells #[.int .i64 0,.int .u64 0] 31) = W at *
    obtain ⟨c0,c1,g0,g1⟩:=row2 F0.out
    obtain ⟨c2,c3,g2,g3⟩:=row2 F1.out
    go_wp2_with fail
    with_reducible refine (CS.out _ KW.out).mono ?_
    rintro e w2 ⟨k,z,rfl,hs⟩
    have HSZ:=hid (lt_at F3.out)
    unfold faultV
    rcases hs with ⟨rfl,z1,z2,z3,z4,k2⟩ | ⟨rfl,rfl,hz,st',hms,hri,hfr⟩
    · have HZ:=hid (show FirstAt L 2 a n z from ⟨z1,z2,z3,z4⟩)
      clear z1 z2 z3 z4
      go_wp2_with fail
      with_reducible refine (CFA.out 2 z _).mono ?_
      rintro e w3 ⟨rfl,k3⟩
      have k4:Bl W w3:=k2.trans ((Bl.new w2 (.cells #[.int .i64 2,.int .u64 z] 31)).trans k3)
      have E1:=k4.at_ F2.out
      have E2:=k4.at_ F3.out
      have K4:=hid (KW.out.trans k4)
      obtain ⟨x0,x1,f0,f1⟩:=row2 E1
      obtain ⟨d0,d1,d2,q0,q1,q2⟩:=row3 E2
      have E1':=hid E1;clear E1
      have E2':=hid E2;clear E2 k2 k3 k4
      go_wp2_with fail
      (try simp only [Exit.inBlock,Exit.then])
      obtain ⟨s1,s2,s3⟩:=set_both (S:=fun _=>False) (by omega) E1'.out E2'.out (.int .u64 0) (.int .i64 0) (.int .i64 4) (.int .i64 2) (.int .u64 z) (Fr.of_bl K4.out) (by omega) (by omega)
      refine bodyPost_ret (results_tmp_rows rfl _ _ (w.heap.size + 1 + 1) (w.heap.size + 1 + 1 + 1) 45 33 _ _ (0,0) (0,0) _ _ rfl (s1) Tryz.underlying45 rfl (by kernel_rfl) rfl (s2) Tryz.underlying33 rfl (by kernel_rfl)) rfl ?_
      exact ⟨badO 4 2 z,rfl,.inr (.inl ⟨z,HH.out,HZ.out,rfl,s3.bl (fun _ _ e=>e)⟩)⟩
    · have HZ:=hid (show AllCan L 2 a n from hz);clear hz
      have HRI:=hid (grow_lay (M:=M) (x:=amoV op (numAt M a n) x) hri);clear hri
      go_wp2_with fail
      have hfr2:Fr (gap T w.heap.size W.heap.size) W (w2.alloc (.cells #[.int .i64 0,.int .u64 0] 31)):=hfr.trans (Fr.of_bl (Bl.new _ _))
      have HMS:=hid (hms.bl (Bl.new w2 (.cells #[.int .i64 0,.int .u64 0] 31)));clear hms
      have G0:=hid (hfr2.at_ F0.out (fun e=>e.2 ⟨by omega,by have:=HSZ.out;omega⟩))
      have G1:=hid (hfr2.at_ F1.out (fun e=>e.2 ⟨by omega,by have:=HSZ.out;omega⟩))
      have G2:=hid (hfr2.at_ F2.out (fun e=>e.2 ⟨by omega,by have:=HSZ.out;omega⟩))
      have G3:=hid (hfr2.at_ F3.out (fun e=>e.2 ⟨by omega,by have:=HSZ.out;omega⟩))
      have HFR:=hid (((Fr.of_bl KW.out).trans hfr2.ungap:Fr T w _));clear hfr hfr2
      generalize w2.alloc (.cells #[.int .i64 0,.int .u64 0] 31) = V at *
      obtain ⟨c0,c1,g0,g1⟩:=row2 G0.out
      obtain ⟨c2,c3,g2,g3⟩:=row2 G1.out
      go_region_with (first | (go_at_call 178;refine (CF.out _ _).mono ?_;rintro e w9 ⟨rfl,k9⟩;have I0:=k9.at_ G0.out;have I1:=k9.at_ G1.out;obtain ⟨c0,c1,g0,g1⟩:=row2 I0;obtain ⟨c2,c3,g2,g3⟩:=row2 I1;have E1:=k9.at_ G2.out;have E2:=k9.at_ G3.out;obtain ⟨x0,x1,f0,f1⟩:=row2 E1;obtain ⟨d0,d1,d2,q0,q1,q2⟩:=row3 E2))
      all_goals (
        (try go_wp2_with fail)
        (try simp only [Exit.inBlock,Exit.then])
        have k9':Bl V w9:=(Bl.refl V).drew.trans k9
        obtain ⟨s1,s2,s3⟩:=set_both (S:=T) (by omega) E1 E2 (.int .u64 ha) (.int .i64 hn) (.int .i64 0) (.int .i64 0) (.int .u64 0) (HFR.out.trans (Fr.of_bl k9')) (by omega) (by omega)
        have hms2:=keep_two (g:=w.heap.size + 1 + 1) (g2:=w.heap.size + 1 + 1 + 1) (HMS.out.bl k9') (by have:=HSZ.out;omega) (by have:=HSZ.out;omega) (.int .u64 ha) (.int .i64 hn) (.int .i64 0) (.int .i64 0) (.int .u64 0)
        refine bodyPost_ret (results_tmp_rows rfl _ _ (w.heap.size + 1 + 1) (w.heap.size + 1 + 1 + 1) 45 33 _ _ (0,0) (0,0) _ _ rfl (s1) Tryz.underlying45 rfl (by kernel_rfl) rfl (s2) Tryz.underlying33 rfl (by kernel_rfl)) rfl ?_
        exact ⟨⟨sextI (numAt M a n) (8 * n),ha,hn,0,0,0⟩,rfl,.inr (.inr ⟨HH.out,HZ.out,rfl,⟨st',HRI.out,hms2⟩,s3⟩)⟩)
end
end Go.Proofs.YtlhpodholnfppaaGreatDoor
