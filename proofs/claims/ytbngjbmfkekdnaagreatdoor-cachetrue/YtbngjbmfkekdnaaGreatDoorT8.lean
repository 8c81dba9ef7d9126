/-
  lay of a space: a span is mapped anew.
  Which places lack what is asked; faults; numbers that are loaded and stored; bytes that are peeked at.
  A space of the reference: First, Bytes, Lays, Load, Probe, Store.
  Store of a space.
  A space of the reference: Lays, Load, Probe, Store.
-/
import Derived.Test.YtbngjbmfkekdnaaGreatDoorT7
import Derived.Test.YtbngjbmfkekdnaaGreatDoorT6
import Derived.Deep.RegionWith
import Derived.Lib.Hide
set_option linter.unusedVariables false
set_option linter.unusedSimpArgs false
set_option maxHeartbeats 16000000
open Go.Lib (hid)
namespace Go.Proofs.YtbngjbmfkekdnaaGreatDoor
open Go.RowKit
set_option maxRecDepth 100000
theorem tot_joinOne (L:List Rg) (r:Rg):tot (joinOne L r) = tot L + (r.e - r.s):=by
  rcases last_cases L with rfl | ⟨A,q,rfl⟩
  · rw [joinOne_nil];simp [tot]
  · by_cases h:q.e = r.s∧q.p = r.p
    · rw [joinOne_yes A q r h.1 h.2,tot_append,tot_append]
      simp only [tot]
      omega
    · rw [joinOne_no A q r h,tot_append]
      simp only [tot]
      omega
theorem tot_join (L M:List Rg):tot (join L M) = tot L + tot M:=by
  induction M generalizing L with
  | nil=>simp [join,tot]
  | cons r M ih =>
    have e:join L (r :: M) = join (joinOne L r) M:=rfl
    rw [e,ih,tot_joinOne]
    simp only [tot]
    omega
theorem tot_within_cons (r:Rg) (L:List Rg) (a b:Int):tot (within (r :: L) a b) = max 0 (min r.e b - max r.s a) + tot (within L a b):=by
  unfold within
  rw [List.filterMap_cons]
  by_cases h:max r.s a < min r.e b
  · have e:clip a b r = some ⟨max r.s a,min r.e b,r.p⟩:=by unfold clip;rw [if_pos h]
    rw [e]
    simp only [tot]
    omega
  · have e:clip a b r = none:=by unfold clip;rw [if_neg h]
    rw [e]
    show tot (List.filterMap (clip a b) L) = _
    omega
theorem tot_within_add (L:List Rg) (a b c:Int) (h1:a ≤ b) (h2:b ≤ c):tot (within L a b) + tot (within L b c) = tot (within L a c):=by
  induction L with
  | nil=>simp [within,tot]
  | cons r L ih =>
    rw [tot_within_cons,tot_within_cons,tot_within_cons]
    omega
theorem tot_within_all {L:List Rg} (h:So 0 274877906944 L):tot (within L 0 274877906944) = tot L:=by
  induction L with
  | nil=>simp [within,tot]
  | cons r L ih =>
    rw [tot_within_cons,ih (h.tail.mono (by have:=h.2 r (by simp);omega) (Int.le_refl _))]
    have:=h.2 r (by simp)
    simp only [tot]
    omega
theorem tot_layL {L M:List Rg} {s e:Int} (h:So 0 274877906944 L) (h0:0 ≤ s) (h1:s ≤ e) (h2:e ≤ 274877906944):tot (layL L s e M) = tot L - tot (within L s e) + tot M:=by
  unfold layL
  rw [tot_join,tot_join,tot_join]
  have a1:=tot_within_add L 0 s e h0 h1
  have a2:=tot_within_add L 0 e 274877906944 (by omega) h2
  have a3:=tot_within_all h
  have a4:tot ([]:List Rg) = 0:=rfl
  omega
theorem tot_within_le (L:List Rg) (a b:Int):0 ≤ tot (within L a b):=by
  induction L with
  | nil=>simp [within,tot]
  | cons r L ih=>rw [tot_within_cons];omega
def ClearPost (T:Nat → Prop) (w:World) (sb n:Nat) (L:List Rg) (M st:Nat → Int) (mo ba en:Int) (a b:Nat) (w':World):Prop:=
  ∃ st',MS T w' sb (n + 8192) L (wiped M a b) st' mo ba en∧Rise st st' (fun p=>a ≤ p * 4096∧p * 4096 < b)∧Fr T w w'
theorem wiped_bd {M:Nat → Int} (h:∀ x,0 ≤ M x∧M x ≤ 255) (a b:Nat):∀ x,0 ≤ wiped M a b x∧wiped M a b x ≤ 255:=fun x=>by
  simp only [wiped]
  split
  · omega
  · exact h x
theorem mclear_any {T:Nat → Prop} {w:World} {sb n:Nat} {L:List Rg} {M st:Nat → Int} {mo ba en:Int} (h:MS T w sb n L M st mo ba en) (a b:Nat) (ha:a % 4096 = 0) (hb:b % 4096 = 0) (hab:a < b) (hbt:b ≤ 274877906944) (hnar:b - a ≤ 16777216) (hn:n < 80000000) (hT:∀ b,w.heap.size ≤ b → T b) :
    Calls Tryz.prog 43 #[.pointer (some ⟨sb,1,none⟩),.int .u64 (a:Int),.int .u64 (b:Int)] w fun e w'=>e = .returned (.tuple #[])∧ClearPost T w sb n L M st mo ba en a b w':=by
  obtain ⟨rg,f,k0,h1,h2,h3⟩:=h.ex
  have cc:=clear_narrow h1 (a / 4096) (b / 4096 - 1) (by omega) (by omega) (by omega) hn (off_new h2 hT)
  rw [show a / 4096 * 4096 = a by omega,show (b / 4096 - 1 + 1) * 4096 = b by omega] at cc
  refine cc.mono ?_
  rintro e w' ⟨rfl,⟨k',st',h4,_,hr⟩,hf⟩
  exact ⟨rfl,st',h.stored h2 h3 h4 hf (wiped_bd h.by_ a b),hr.mono fun p hp=>by omega,hf.off_of⟩
theorem keepM {w w8 w9:World} {p:Addr} {v:Value} (h:w8.cell? p = some v∧Bl w w8) (k:Bl w8 w9):w9.cell? p = some v∧Bl w w9:=⟨k.cell' h.1,h.2.trans k⟩
def MLayPost (T:Nat → Prop) (w:World) (sb n:Nat) (L:List Rg) (M st:Nat → Int) (mo ba en:Int) (a b:Nat) (e:Ending) (w':World):Prop:=
  e = .returned (.int .i64 0)∧ClearPost T w sb n L M st mo ba en a b w'
theorem mlay_ok {T:Nat → Prop} {w:World} {sb n:Nat} {L:List Rg} {M st:Nat → Int} {mo ba en:Int} (h:MS T w sb n L M st mo ba en) (a b:Nat) (p:Int) (hs:Span (a:Int) (b:Int)) (hp0:0 ≤ p) (hp1:p ≤ 7)
    (hc:(layL L a b [⟨a,b,p⟩]).length ≤ 256) (ht:tot (layL L a b [⟨a,b,p⟩]) ≤ mo * 4096) (hn:n < 80000000) (hT:∀ b,w.heap.size ≤ b → T b) :
    Calls Tryz.prog 28 #[addr0 sb,.int .u64 (a:Int),.int .u64 (b:Int),.int .i64 p] w (MLayPost T w sb n (layL L a b [⟨a,b,p⟩]) M st mo ba en a b):=by
  have hrs:Rs (layL L a b [⟨a,b,p⟩]):=h.rs.lay (by omega) hs
  obtain ⟨X,hX⟩:=h.list
  have ccp:=copy_any hX (by have:=h.few;omega)
  have htl:=tot_layL (M:=[⟨a,b,p⟩]) h.so (show (0:Int) ≤ a by omega) (Int.le_of_lt hs.2.2.1) hs.2.2.2
  have hwl:=So.tot_le (within_so h.so (a:=0) (b:=(a:Int))) (by omega)
  have hnar:b - a ≤ 16777216:=by
    have h1:=h.mo_
    have h2:=tot_within_add L 0 a b (by omega) (Int.le_of_lt hs.2.2.1)
    have h3:=tot_within_add L 0 b 274877906944 (by omega) hs.2.2.2
    have h4:=tot_within_all h.so
    have h5:=tot_within_le L b 274877906944
    have h6:=tot_within_le L 0 a
    simp only [tot] at htl
    omega
  have hpg:tot (layL L a b [⟨a,b,p⟩]) / 4096 ≤ mo:=by omega
  have hs1:=hs.1
  have hs2:=hs.2.1
  have hs3:=hs.2.2.1
  have hs4:=hs.2.2.2
  have HSP:=hid hs;clear hs
  have HX:=hid hX;clear hX
  have HRS:=hid hrs;clear hrs
  have HC:=hid hc;clear hc
  have H:=hid h;clear h
  have HT:=hid hT;clear hT
  have HF:=hid H.out.few
  have CCP:=hid ccp;clear ccp htl hwl ht
  obtain ⟨L',hL'⟩:∃ L',L' = layL L a b [⟨a,b,p⟩]:=⟨_,rfl⟩
  rw [← hL'] at hpg HRS HC ⊢
  have HL':=hid hL';clear hL'
  have HHS:=hid (⟨hs1,hs2,hs3,hs4⟩:(a:Int) % 4096 = 0∧(b:Int) % 4096 = 0∧(a:Int) < b∧(b:Int) ≤ 274877906944)
  clear hs1 hs2 hs3 hs4
  unfold addr0 at *
  go_enter Tryz.func28,Tryz.ntmps28
  go_wp2_with fail
  refine CCP.out.mono ?_
  rintro e w1 ⟨nb,rfl,hnb,l1,k1⟩
  unfold addr0
  clear CCP
  have L1:=hid l1;clear l1
  have K1:=hid k1;clear k1
  have HNB:=hid hnb;clear hnb
  go_wp2_with fail
  have cm:=map_ok L1.out.at0 (a:Int) (b:Int) p (by omega) HSP.out hp0 hp1 HF.out (by rw [← HL'.out];exact HC.out)
  unfold addr0 at cm
  rw [← HL'.out] at cm
  refine cm.mono ?_
  rintro e w2 ⟨rfl,l2,f2⟩
  have k2:Bl w w2:=Fr.only_new K1.out f2 HNB.out
  have L2:=hid l2;clear l2
  have K2:=hid k2;clear k2 f2 cm
  obtain ⟨m0,m1,m2⟩:=(H.out.bl K2.out).cells
  have cp:=fun W (hW:Bl w2 W)=>pages_any (L2.out.bl hW).at0 HRS.out.nm.so (by have:=HC.out;omega)
  have CP:=hid cp;clear cp m1 m2
  have hS:w2.cell? ⟨sb,5,none⟩ = some (.int .i64 mo)∧Bl w2 w2:=⟨m0,Bl.refl _⟩
  have HS:=hid hS;clear hS m0
  unfold addr0 at CP
  generalize tot L' / 4096 = q at *
  go_wp2_with fail
  go_region_held3 (fun w'=>w'.cell? ⟨sb,5,none⟩ = some (.int .i64 mo)∧Bl w2 w') (first | assumption | exact HS.out | exact keepM HS.out ((Bl.refl w2).drewN 1)) ((go_at_call 56;refine (CP.out _ (by first | exact HS.out.2 | exact And.right (a:=World.cell? _ ⟨sb,5,none⟩ = some (.int .i64 mo)) (by assumption))).mono ?_;rintro e w9 ⟨rfl,k9⟩;have hkk:=keepM (by first | assumption | exact HS.out) k9))
  all_goals (
    have hL9:=L2.out.bl hkk.2
    have k9':=K2.out.trans hkk.2
    obtain ⟨v,hvb,hvr⟩:=hL9
    obtain ⟨A,cap,hv⟩:=hvr.shape
    subst hv
    have d0:w9.cell? ⟨nb,0,none⟩ = some (.slice A L'.length cap):=by rw [cell_of_row w9 nb 0 _ _ (0,0) hvb];simp
    have d1:=(H.out.bl k9').free 0
    obtain ⟨v0,d2⟩:=(H.out.bl k9').cell0
    have r9:Row w9 w.heap.size (.slice A L'.length cap) L':=hvr.base_ (fun g hg=>Nat.le_trans K1.out.size (hvr.lt g hg).1)
    have h10:=H.out.laid HX.out ((HX.out.bl k9').set r9) ((Fr.of_bl k9').trans (Fr.set (show only sb sb from rfl) _)) HRS.out HC.out HT.out
    have f10:Fr T w (w9.setCell ⟨sb,0,none⟩ (.slice A L'.length cap)):=(Fr.of_bl k9').trans (Fr.set H.out.own _)
    have H10:=hid h10
    have F10:=hid f10
    have D0:=hid d0
    clear h10 f10 hvb hvr r9
    have hN:=hn
    clear hkk HS
    go_wp2_with fail
    refine (mclear_any H10.out a b (by have:=HHS.out;omega) (by have:=HHS.out;omega) (by have:=HHS.out;omega) (by have:=HHS.out;omega) hnar hn (fun b hb=>HT.out b (Nat.le_trans F10.out.size hb))).mono ?_
    rintro e w11 ⟨rfl,st',h11,hr11,f11⟩
    have H11:=hid h11;clear h11
    have R11:=hid hr11;clear hr11
    have F11:=hid f11;clear f11
    clear d0 d1 d2 k9'
    go_wp2_with fail
    go_ret
    exact ⟨rfl,st',H11.out,R11.out,F10.out.trans F11.out⟩)
theorem mlay_many {T:Nat → Prop} {w:World} {sb n:Nat} {L:List Rg} {M st:Nat → Int} {mo ba en:Int} (h:MS T w sb n L M st mo ba en) (a b:Nat) (p:Int) (hs:Span (a:Int) (b:Int)) (hp0:0 ≤ p) (hp1:p ≤ 7)
    (hc:256 < (layL L a b [⟨a,b,p⟩]).length) :
    Calls Tryz.prog 28 #[addr0 sb,.int .u64 (a:Int),.int .u64 (b:Int),.int .i64 p] w (NoPost w 12):=by
  obtain ⟨X,hX⟩:=h.list
  have ccp:=copy_any hX (by have:=h.few;omega)
  have HF:=hid h.few
  have CCP:=hid ccp;clear ccp hX h
  have HSP:=hid hs;clear hs
  have HC:=hid hc;clear hc
  unfold addr0 at *
  go_enter Tryz.func28,Tryz.ntmps28
  go_wp2_with fail
  refine CCP.out.mono ?_
  rintro e w1 ⟨nb,rfl,hnb,l1,k1⟩
  unfold addr0
  have L1:=hid l1;clear l1
  have K1:=hid k1;clear k1 hnb CCP
  go_wp2_with fail
  have cm:=map_many L1.out.at0 (a:Int) (b:Int) p (by omega) HSP.out hp0 hp1 HF.out HC.out
  unfold addr0 at cm
  refine cm.mono ?_
  rintro e w2 ⟨rfl,k2⟩
  have K2:=hid (K1.out.trans k2);clear k2 cm
  go_wp2_with fail
  go_ret
  exact ⟨rfl,K2.out⟩
theorem mlay_full {T:Nat → Prop} {w:World} {sb n:Nat} {L:List Rg} {M st:Nat → Int} {mo ba en:Int} (h:MS T w sb n L M st mo ba en) (a b:Nat) (p:Int) (hs:Span (a:Int) (b:Int)) (hp0:0 ≤ p) (hp1:p ≤ 7)
    (hc:(layL L a b [⟨a,b,p⟩]).length ≤ 256) (ht:mo * 4096 < tot (layL L a b [⟨a,b,p⟩])) :
    Calls Tryz.prog 28 #[addr0 sb,.int .u64 (a:Int),.int .u64 (b:Int),.int .i64 p] w (NoPost w 12):=by
  have hrs:Rs (layL L a b [⟨a,b,p⟩]):=h.rs.lay (by omega) hs
  obtain ⟨X,hX⟩:=h.list
  have ccp:=copy_any hX (by have:=h.few;omega)
  have hpg:mo < tot (layL L a b [⟨a,b,p⟩]) / 4096:=by have:=hrs.al.tot;omega
  have HSP:=hid hs;clear hs
  have HRS:=hid hrs;clear hrs
  have HC:=hid hc;clear hc
  have HF:=hid h.few
  have H:=hid h;clear h
  have CCP:=hid ccp;clear ccp ht hX
  obtain ⟨L',hL'⟩:∃ L',L' = layL L a b [⟨a,b,p⟩]:=⟨_,rfl⟩
  rw [← hL'] at hpg HRS HC
  have HL':=hid hL';clear hL'
  unfold addr0 at *
  go_enter Tryz.func28,Tryz.ntmps28
  go_wp2_with fail
  refine CCP.out.mono ?_
  rintro e w1 ⟨nb,rfl,hnb,l1,k1⟩
  unfold addr0
  clear CCP
  have L1:=hid l1;clear l1
  have K1:=hid k1;clear k1
  have HNB:=hid hnb;clear hnb
  go_wp2_with fail
  have cm:=map_ok L1.out.at0 (a:Int) (b:Int) p (by omega) HSP.out hp0 hp1 HF.out (by rw [← HL'.out];exact HC.out)
  unfold addr0 at cm
  rw [← HL'.out] at cm
  refine cm.mono ?_
  rintro e w2 ⟨rfl,l2,f2⟩
  have k2:Bl w w2:=Fr.only_new K1.out f2 HNB.out
  have L2:=hid l2;clear l2
  have K2:=hid k2;clear k2 f2 cm
  obtain ⟨m0,m1,m2⟩:=(H.out.bl K2.out).cells
  have cp:=fun W (hW:Bl w2 W)=>pages_any (L2.out.bl hW).at0 HRS.out.nm.so (by have:=HC.out;omega)
  have CP:=hid cp;clear cp m1 m2
  have hS:w2.cell? ⟨sb,5,none⟩ = some (.int .i64 mo)∧Bl w2 w2:=⟨m0,Bl.refl _⟩
  have HS:=hid hS;clear hS m0
  unfold addr0 at CP
  generalize tot L' / 4096 = q at *
  go_wp2_with fail
  go_region_held3 (fun w'=>w'.cell? ⟨sb,5,none⟩ = some (.int .i64 mo)∧Bl w2 w') (first | assumption | exact HS.out | exact keepM HS.out ((Bl.refl w2).drewN 1)) ((go_at_call 56;refine (CP.out _ (by first | exact HS.out.2 | exact And.right (a:=World.cell? _ ⟨sb,5,none⟩ = some (.int .i64 mo)) (by assumption))).mono ?_;rintro e w9 ⟨rfl,k9⟩;have hkk:=keepM (by first | assumption | exact HS.out) k9))
  all_goals (
    have k9':=K2.out.trans hkk.2
    have K9:=hid k9';clear k9' hkk HS
    go_wp2_with fail
    go_ret
    exact ⟨rfl,K9.out⟩)
theorem mlay_no {T:Nat → Prop} {w:World} {sb n:Nat} {L:List Rg} {M st:Nat → Int} {mo ba en:Int} (h:MS T w sb n L M st mo ba en) (a b p:Int) (h0:0 ≤ a) (h1:a ≤ 18446744073709551615) (h2:0 ≤ b) (h3:b ≤ 18446744073709551615) (hs:¬ (Span a b∧0 ≤ p∧p ≤ 7)) :
    Calls Tryz.prog 28 #[addr0 sb,.int .u64 a,.int .u64 b,.int .i64 p] w (NoPost w 22):=by
  obtain ⟨X,hX⟩:=h.list
  have ccp:=copy_any hX (by have:=h.few;omega)
  have CCP:=hid ccp;clear ccp hX h
  have cm:=fun W nb=>map_no (w:=W) nb a b p h0 h1 h2 h3 hs
  have CM:=hid cm;clear cm hs
  unfold addr0 at *
  go_enter Tryz.func28,Tryz.ntmps28
  go_wp2_with fail
  refine CCP.out.mono ?_
  rintro e w1 ⟨nb,rfl,hnb,l1,k1⟩
  unfold addr0
  have K1:=hid k1;clear k1 hnb CCP l1
  go_wp2_with fail
  refine (CM.out _ _).mono ?_
  rintro e w2 ⟨rfl,k2⟩
  have K2:=hid (K1.out.trans k2);clear k2 CM
  go_wp2_with fail
  go_ret
  exact ⟨rfl,K2.out⟩
end Go.Proofs.YtbngjbmfkekdnaaGreatDoor

namespace Go.Proofs.YtbngjbmfkekdnaaGreatDoor
open Go.RowKit
set_option maxRecDepth 100000
theorem width_yes (n:Int) (w:World) (h:n = 1 ∨ n = 2 ∨ n = 4 ∨ n = 8):Calls Tryz.prog 100 #[.int .i64 n] w fun x w'=>x = .returned (.bool true)∧w = w':=by
  rcases h with rfl | rfl | rfl | rfl
  all_goals go_enter Tryz.func100,Tryz.ntmps100
  all_goals go_wp2
  all_goals go_ret
  all_goals exact ⟨rfl,rfl⟩
theorem can_top {L:List Rg} (h:So 0 274877906944 L) {p x:Int} (hx:274877906944 ≤ x):¬ Can L p x:=fun ⟨q,hq,_⟩=>by have:=h.range hq;omega
theorem lack_any {T:Nat → Prop} {w:World} {sb n0:Nat} {L:List Rg} {M st:Nat → Int} {mo ba en:Int} (h:MS T w sb n0 L M st mo ba en) (a:Int) (n:Nat) (p:Int) (h0:0 ≤ a) (h1:a ≤ 18446744073709551615) (hn:n ≤ 4194304) :
    Calls Tryz.prog 101 #[addr0 sb,.int .u64 a,.int .i64 (n:Int),.int .i64 p] w (FirstPost w L a (a + n) p):=by
  by_cases hc:0 < n∧274877906944 ≤ a
  · have hp:FirstPost w L a (a + n) p (.returned (.tuple #[.int .u64 a,.bool true])) w:=⟨a,true,rfl,.inl ⟨rfl,Int.le_refl _,by omega,can_top h.so hc.2,fun y h1 h2=>by omega⟩,Bl.refl _⟩
    have HP:=hid hp;clear hp h
    obtain ⟨c1,c2⟩:=hc
    have c3:(0:Int) < (n:Int):=by omega
    unfold addr0
    go_enter Tryz.func101,Tryz.ntmps101
    go_wp2_with fail
    go_ret2
    exact HP.out
  · obtain ⟨X,hX⟩:=h.list
    have cf:=first_any hX h.so a (a + n) p (by have:=h.few;omega)
    have CF:=hid cf;clear cf hX h
    have hw:IntKind.u64.wrap (a + n) = a + n:=IntWalk.u64_in _ (by omega)
    unfold addr0 at *
    by_cases c1:0 < n
    · have c2:a < 274877906944:=by omega
      have c3:(0:Int) < (n:Int):=by omega
      clear hc
      go_enter Tryz.func101,Tryz.ntmps101
      go_wp2_with fail
      refine CF.out.mono ?_
      rintro e w' ⟨x,ok,rfl,hh,k⟩
      have HH:=hid hh;clear hh
      have K:=hid k;clear k
      go_wp2_with fail
      go_ret2
      exact ⟨x,ok,rfl,HH.out,K.out⟩
    · obtain rfl:n = 0:=by omega
      clear hc c1 hw
      have hw:IntKind.u64.wrap a = a:=IntWalk.u64_in _ (by omega)
      simp only [Int.natCast_zero,Int.ofNat_eq_natCast,Int.add_zero,Int.cast_ofNat_Int] at *
      go_enter Tryz.func101,Tryz.ntmps101
      go_wp2_with fail
      refine CF.out.mono ?_
      rintro e w' ⟨x,ok,rfl,hh,k⟩
      have HH:=hid hh;clear hh
      have K:=hid k;clear k
      go_wp2_with fail
      go_ret2
      exact ⟨x,ok,rfl,HH.out,K.out⟩
def faultV (k x:Int):Value:=.agg #[.int .i64 k,.int .u64 x]
def FaultPost (w:World) (L:List Rg) (kind a:Int) (n:Nat) (p:Int) (e:Ending) (w':World):Prop:=∃ k x,e = .returned (faultV k x) ∧
  ((k = kind∧a ≤ x∧x < a + n∧¬ Can L p x∧∀ y,a ≤ y → y < x → Can L p y) ∨ (k = 0∧x = 0∧∀ y,a ≤ y → y < a + n → Can L p y))∧Bl w w'
theorem new2 (w w1:World) (x y:Value) (t:TypeId) (k:Bl (w.alloc (.cells #[x,y] t)) w1):w1.heap[w.heap.size]? = some (.cells #[x,y] t (0,0)):=k.at_ (heap_alloc_new w _)
theorem set2 {w:World} {g:Nat} {t:TypeId} {a b:Value} (x y:Value) (h:w.heap[g]? = some (.cells #[a,b] t (0,0))):((w.setCell ⟨g,0,none⟩ x).setCell ⟨g,1,none⟩ y).heap[g]? = some (.cells #[x,y] t (0,0)):=by
  have h1:=heap_setCell_same w g 0 _ t x h
  have h2:=heap_setCell_same (w.setCell ⟨g,0,none⟩ x) g 1 _ t y h1
  rw [h2];rfl
theorem fault_any {T:Nat → Prop} {w:World} {sb n0:Nat} {L:List Rg} {M st:Nat → Int} {mo ba en:Int} (h:MS T w sb n0 L M st mo ba en) (kind a:Int) (n:Nat) (p:Int) (h0:0 ≤ a) (h1:a ≤ 18446744073709551615) (hn:n = 1 ∨ n = 2 ∨ n = 4 ∨ n = 8) :
    Calls Tryz.prog 63 #[addr0 sb,.int .i64 kind,.int .u64 a,.int .i64 (n:Int),.int .i64 p] w (FaultPost w L kind a n p):=by
  have cw:=fun W=>width_yes (n:Int) W (by omega)
  have cl:=lack_any (h.bl (Bl.new w (.cells #[.int .i64 0,.int .u64 0] 41))) a n p h0 h1 (by omega)
  have CW:=hid cw;clear cw
  have CL:=hid cl;clear cl hn h
  unfold addr0 at *
  go_enter Tryz.func63,Tryz.ntmps63
  go_wp2_with fail
  refine (CW.out _).mono ?_
  rintro e w' ⟨rfl,rfl⟩
  go_wp2_with fail
  refine CL.out.mono ?_
  rintro e w1 ⟨x,ok,rfl,hh,k⟩
  have hb:=new2 w w1 _ _ _ k
  obtain ⟨d0,d1⟩:=two_cells hb
  have k1:=(Bl.new w (.cells #[.int .i64 0,.int .u64 0] 41)).trans k
  have f0:∀ i,w1.frozen? ⟨w.heap.size,i,none⟩ = false:=fun i=>by simp [World.frozen?,hb]
  have f00:=f0 0
  have f01:=f0 1
  have HB:=hid hb;clear hb
  have K1:=hid k1;clear k1 k f0
  rcases hh with ⟨rfl,hh⟩ | ⟨rfl,hx,hh⟩
  · have HH:=hid hh;clear hh
    go_wp2_with fail
    (try simp only [Exit.inBlock,Exit.then])
    refine bodyPost_ret (results_cell_row rfl _ _ w.heap.size 41 _ (0,0) _ rfl (set2 _ _ HB.out) Tryz.underlying41 rfl (by kernel_rfl)) rfl ?_
    exact ⟨kind,x,rfl,.inl ⟨rfl,HH.out⟩,(K1.out.set (Nat.le_refl _) _).set (Nat.le_refl _) _⟩
  · have HH:=hid hh;clear hh
    have HX:=hid hx;clear hx
    go_wp2_with fail
    (try simp only [Exit.inBlock,Exit.then])
    refine bodyPost_ret (results_cell_row rfl _ _ w.heap.size 41 _ (0,0) _ rfl (set2 _ _ HB.out) Tryz.underlying41 rfl (by kernel_rfl)) rfl ?_
    exact ⟨0,0,rfl,.inr ⟨rfl,rfl,HH.out⟩,(K1.out.set (Nat.le_refl _) _).set (Nat.le_refl _) _⟩
theorem probe_any {T:Nat → Prop} {w:World} {sb n0:Nat} {L:List Rg} {M st:Nat → Int} {mo ba en:Int} (h:MS T w sb n0 L M st mo ba en) (a:Int) (n:Nat) (h0:0 ≤ a) (h1:a ≤ 18446744073709551615) (hn:n = 1 ∨ n = 2 ∨ n = 4 ∨ n = 8) :
    Calls Tryz.prog 35 #[addr0 sb,.int .u64 a,.int .i64 (n:Int)] w (FaultPost w L 2 a n 2):=by
  have cf:=fault_any (h.bl (Bl.new w (.cells #[.int .i64 0,.int .u64 0] 41))) 2 a n 2 h0 h1 hn
  have CF:=hid cf;clear cf h
  unfold addr0 at *
  go_enter Tryz.func35,Tryz.ntmps35
  go_wp2_with fail
  refine CF.out.mono ?_
  rintro e w1 ⟨k,x,rfl,hh,kk⟩
  have hb:=new2 w w1 _ _ _ kk
  obtain ⟨d0,d1⟩:=two_cells hb
  have k1:=(Bl.new w (.cells #[.int .i64 0,.int .u64 0] 41)).trans kk
  have f0:∀ i,w1.frozen? ⟨w.heap.size,i,none⟩ = false:=fun i=>by simp [World.frozen?,hb]
  have f00:=f0 0
  have f01:=f0 1
  have HB:=hid hb;clear hb
  have K1:=hid k1;clear k1 kk f0
  have HH:=hid hh;clear hh
  unfold faultV
  go_wp2_with fail
  (try simp only [Exit.inBlock,Exit.then])
  refine bodyPost_ret (results_cell_row rfl _ _ w.heap.size 41 _ (0,0) _ rfl (set2 _ _ HB.out) Tryz.underlying41 rfl (by kernel_rfl)) rfl ?_
  exact ⟨k,x,rfl,HH.out,(K1.out.set (Nat.le_refl _) _).set (Nat.le_refl _) _⟩
theorem rd_row {w:World} {g:Nat} {xs:List Int} (h:w.heap[g]? = some (.cells (asBytes xs).toArray 5 (0,0))):Rd w (some ⟨g,0,none⟩) xs:=by
  intro h0
  refine ⟨_,rfl,fun i hi=>?_⟩
  have e1:(⟨g,0,none⟩:Addr).add i = ⟨g,i,none⟩:=by unfold Addr.add;split <;> simp_all
  rw [e1,cell_of_row w g i _ 5 (0,0) h]
  simp only [List.getElem?_toArray]
  rw [asBytes_at _ _ hi]
theorem bytesAt_bd {M:Nat → Int} (h:∀ x,0 ≤ M x∧M x ≤ 255) (a m:Nat):∀ k,0 ≤ (bytesAt M a m).getD k 0∧(bytesAt M a m).getD k 0 ≤ 255:=fun k=>by
  rw [List.getD_eq_getElem?_getD]
  by_cases hk:k < m
  · rw [bytesAt_get _ _ _ _ hk];exact h _
  · rw [List.getElem?_eq_none (by rw [bytesAt_length];omega)];simp
def numAt (M:Nat → Int) (a n:Nat):Int:=getS (bytesAt M a n) n
theorem number_any {T:Nat → Prop} {w:World} {sb n0:Nat} {L:List Rg} {M st:Nat → Int} {mo ba en:Int} (h:MS T w sb n0 L M st mo ba en) (a n:Nat) (ha:a < 2 ^ 64) (h1:1 ≤ n) (h8:n ≤ 8) :
    Calls Tryz.prog 112 #[addr0 sb,.int .u64 (a:Int),.int .i64 (n:Int)] w fun e w'=>e = .returned (.int .u64 (numAt M a n))∧Bl w w':=by
  obtain ⟨rg,f,k0,h2,_,_⟩:=h.ex
  have cr:=read_any h2 a n ha h1 (by omega)
  have hbd:=bytesAt_bd h.by_ a n
  have hlen:=bytesAt_length M a n
  have CR:=hid cr;clear cr h2 h
  have HBD:=hid hbd;clear hbd
  have HLEN:=hid hlen;clear hlen
  unfold addr0 numAt
  go_enter Tryz.func112,Tryz.ntmps112
  go_wp2_with fail
  refine CR.out.mono ?_
  rintro e w1 ⟨rfl,hb,k1⟩
  have RD:=hid (rd_row hb)
  have K1:=hid k1;clear k1 hb CR
  go_wp2_with fail
  refine (get_in _ n n _ n w1 RD.out HLEN.out (by omega) h1 h8 HBD.out).mono ?_
  rintro e w2 ⟨rfl,rfl⟩
  go_wp2_with fail
  go_ret
  exact ⟨rfl,K1.out⟩
theorem results_tmp_row {P:Program} {fn:Func} {p u:Tmp} {ty:TypeId} (h:fn.results = #[.tmp u,.cell p ty]) (tmps:Array Value) (w:World) (g:Nat) (t:TypeId) (cs:Array Value) (fr:Nat × Nat) (d:TypeDesc)
    (hp:tmps.getD p undef = .pointer (some ⟨g,0,none⟩)) (hg:w.heap[g]? = some (.cells cs t fr))
    (hu:P.underlying ty = some d) (hd:(match d with | .struct _ | .array _ _=>true | _=>false) = true) (hi:(P.info? ty).map (·.size) = some cs.size) :
    (results fn tmps).run P w = .ok (.tuple #[tmps.getD u undef,.agg cs]) w:=by
  have hp':tmps[p]?.getD undef = .pointer (some ⟨g,0,none⟩):=by simpa using hp
  simp [results,h,hp',asAddr,run_loadVar_row w g t ty cs fr d hg hu hd hi,Result.andThen]
def StoreMPost (T:Nat → Prop) (w:World) (sb n0:Nat) (L:List Rg) (M st:Nat → Int) (mo ba en:Int) (a n:Nat) (x:Int) (e:Ending) (w':World):Prop:=∃ k y,e = .returned (faultV k y) ∧
  ((k = 2∧(a:Int) ≤ y∧y < a + n∧¬ Can L 2 y∧(∀ z,(a:Int) ≤ z → z < y → Can L 2 z)∧Bl w w') ∨
   (k = 0∧y = 0∧(∀ z,(a:Int) ≤ z → z < a + n → Can L 2 z)∧∃ st',MS T w' sb (n0 + 9) L (lay M a (putB x n)) st' mo ba en∧Rise st st' (fun p=>∃ x,a ≤ x∧x < a + n∧p = x / 4096)∧Fr T w w'))
theorem lay_bd {M:Nat → Int} (h:∀ x,0 ≤ M x∧M x ≤ 255) {cs:List Int} (hc:∀ k,0 ≤ cs.getD k 0∧cs.getD k 0 ≤ 255) (a:Nat):∀ x,0 ≤ lay M a cs x∧lay M a cs x ≤ 255:=fun x=>by
  simp only [lay]
  split
  · exact hc _
  · exact h x
theorem can_below {L:List Rg} (h:So 0 274877906944 L) {p:Int} {a n:Nat} (hc:∀ z,(a:Int) ≤ z → z < a + n → Can L p z) (hn:0 < n):a + n ≤ 274877906944:=by
  rcases Nat.lt_or_ge 274877906944 (a + n) with h1 | h1
  · exact absurd (hc (max a 274877906944) (by omega) (by omega)) (can_top h (by omega))
  · exact h1
theorem mwrite_any {T:Nat → Prop} {w:World} {sb n0:Nat} {L:List Rg} {M st:Nat → Int} {mo ba en:Int} (h:MS T w sb n0 L M st mo ba en) (a:Nat) (A:Option Addr) (len cap:Nat) (xs:List Int) (hr:Rd w A xs) (hl:xs.length = len) (hlc:len ≤ cap) (hb:∀ k,0 ≤ xs.getD k 0∧xs.getD k 0 ≤ 255)
    (hA:0 < len → ∀ ad,A = some ad → ¬ T ad.block) (ha:a + len ≤ 274877906944) (hlen:len ≤ 4194304) (hn:n0 < 90000000) (hT:∀ b,w.heap.size ≤ b → T b) :
    Calls Tryz.prog 33 #[.pointer (some ⟨sb,1,none⟩),.int .u64 (a:Int),.slice A len cap] w fun e w'=>e = .returned (.tuple #[])∧∃ st',MS T w' sb (n0 + 3 * pagesOf a len) L (lay M a xs) st' mo ba en∧Rise st st' (fun p=>∃ x,a ≤ x∧x < a + len∧p = x / 4096)∧Fr T w w':=by
  obtain ⟨rg,f,k0,h1,h2,h3⟩:=h.ex
  have hroom:room a len = len:=by unfold room;omega
  have cw:=write_any h1 a A len cap xs hr hl hlc (fun h0 ad had e=>hA h0 ad had e.1) (by omega) hlen hn (off_new h2 hT)
  rw [hroom,List.take_of_length_le (by omega)] at cw
  refine cw.mono ?_
  rintro e w' ⟨rfl,f',k',st',h4,hf,_,hr4⟩
  rw [hl] at h4 hr4
  refine ⟨rfl,st',h.stored h2 h3 h4 hf (lay_bd h.by_ hb a),hr4.mono fun p hp=>?_,hf.off_of⟩
  obtain ⟨x,x1,x2,rfl⟩:=hp
  unfold pagesOf
  rw [if_neg (by omega)]
  omega
end Go.Proofs.YtbngjbmfkekdnaaGreatDoor

namespace Go.Proofs.YtbngjbmfkekdnaaGreatDoor
open Go.RowKit
set_option maxRecDepth 100000
theorem regs_in {P:List Pg} (h:Pgs 67108864 P) {a q:Int}:In (regs P) a q ↔ OnP P a q:=(regs_all h (by omega)).2.1 a q
theorem regs_rs {P:List Pg} (h:Pgs 67108864 P):Rs (regs P):=(regs_all h (by omega)).1
theorem regs_so {P:List Pg} (h:Pgs 67108864 P):So 0 274877906944 (regs P):=(regs_rs h).nm.so
section
variable {S:Nat → Prop} {mo b0 b1:Int} {w:World} {rb:Nat} {P:List Pg} {M:Nat → Int}
theorem rp_first (h:RP S w rb P M mo b0 b1) (a:Int) (n:Nat) (p:Int) (h0:0 ≤ a) (h1:a ≤ 18446744073709551615) (hn:n ≤ 4194304) :
    Calls Tryz.prog 66 #[addr0 rb,.int .u64 a,.int .i64 (n:Int),.int .i64 p] w (FirstPost w (regs P) a (a + n) p):=by
  have cp:=fun W (k:Bl w W) (y:Int) (y0:0 ≤ y) (y1:y ≤ 18446744073709551615)=>rp_prot (h.bl k).space h.pgs (by have:=h.few;omega) y y0 y1
  have CP:=hid cp;clear cp
  have HPG:=hid h.pgs
  have HPR:=hid h.pr;clear h
  have hnI:(n:Int) ≤ 4194304:=by omega
  unfold addr0 at *
  go_enter Tryz.func66,Tryz.ntmps66
  go_wp2_with fail
  go_loopw [10,11] (fun i _ wr=>∃ k:Nat,k ≤ n∧i = .int .i64 k∧(∀ y,a ≤ y → y < a + k → Can (regs P) p y)∧Bl w wr) (fun i _ _=>n - (intOf i).toNat)
  case atStart=>exact ⟨0,by omega,rfl,fun y h1 h2=>absurd h2 (by omega),Bl.refl _⟩
  case round =>
    obtain ⟨k,hk,rfl,hall,hbl⟩:=hrel
    have hin:a + k ≤ 18446744073709551615:=by
      rcases Nat.eq_zero_or_pos k with h9 | h9
      · subst h9;omega
      · obtain ⟨q,hq,_⟩:=hall (a + k - 1) (by omega) (by omega)
        have:=(regs_so HPG.out).range hq
        omega
    have HALL:=hid hall;clear hall
    have HBL:=hid hbl;clear hbl
    by_cases hlt:k < n
    · have hltI:(k:Int) < (n:Int):=by omega
      go_wp2_with fail
      with_reducible refine (CP.out _ HBL.out (a + k) (by omega) hin).mono ?_
      rintro e w1 ⟨q,rfl,hq,k1⟩
      have K1:=hid (HBL.out.trans k1);clear k1
      rcases hq with hq | ⟨hq,rfl⟩
      · have hq0:0 ≤ q:=by
          obtain ⟨x,hx,_,_,rfl⟩:=hq
          exact (HPR.out x hx).1
        by_cases hc:bits .and .i64 q p = p
        · have t1:(bits .and .i64 q p != p) = false:=by simp [hc]
          have hcan:Can (regs P) p (a + k):=⟨q,(regs_in HPG.out).2 hq,hc⟩
          have hall2:∀ y,a ≤ y → y < a + ((k + 1:Nat):Int) → Can (regs P) p y:=fun y y1 y2=>by
            rcases Int.lt_or_le y (a + k) with h9 | h9
            · exact HALL.out y y1 h9
            · obtain rfl:y = a + k:=by omega
              exact hcan
          have HALL2:=hid hall2;clear hall2 hcan hc hq
          go_wp2_with fail
          refine ⟨⟨k + 1,by omega,by go_num,HALL2.out,K1.out⟩,?_⟩
          simp only [intOf];omega
        · have t1:(bits .and .i64 q p != p) = true:=by simp [hc]
          have hno:¬ Can (regs P) p (a + k):=fun ⟨q',hq',hb⟩=>hc (by rw [← (regs_so HPG.out).one hq' ((regs_in HPG.out).2 hq)];exact hb)
          have hp:FirstPost w (regs P) a (a + n) p (.returned (.tuple #[.int .u64 (a + k),.bool true])) w1:=⟨a + k,true,rfl,.inl ⟨rfl,by omega,by omega,hno,HALL.out⟩,K1.out⟩
          have HP:=hid hp;clear hp hno hc hq
          go_wp2_with fail
          go_ret2
          exact HP.out
      · have hno:¬ Can (regs P) p (a + k):=fun ⟨q',hq',hb⟩=>hq q' ((regs_in HPG.out).1 hq')
        have hp:FirstPost w (regs P) a (a + n) p (.returned (.tuple #[.int .u64 (a + k),.bool true])) w1:=⟨a + k,true,rfl,.inl ⟨rfl,by omega,by omega,hno,HALL.out⟩,K1.out⟩
        have HP:=hid hp;clear hp hno hq
        go_wp2_with fail
        go_ret2
        exact HP.out
    · obtain rfl:k = n:=by omega
      have hp:FirstPost w (regs P) a (a + k) p (.returned (.tuple #[.int .u64 0,.bool false])) wr:=⟨0,false,rfl,.inr ⟨rfl,rfl,HALL.out⟩,HBL.out⟩
      have HP:=hid hp;clear hp
      go_wp2_with fail
      go_ret2
      exact HP.out
theorem own_bl {w w':World} {base e size n:Nat} {v:Value} {xs:List Value} (h:w.ownsRow base e size v n xs) (k:Bl w w'):w'.ownsRow base e size v n xs:=by
  refine ⟨h.1,?_⟩
  rcases h.2 with h1 | ⟨g,cap,cur,rfl,h1,h2,h3⟩
  · exact .inl h1
  · exact .inr ⟨g,cap,cur,rfl,h1,k.at_ h2,h3⟩
theorem bytesAt_snoc (M:Nat → Int) (a k:Nat):bytesAt M a (k + 1) = bytesAt M a k ++ [M (a + k)]:=by simp [bytesAt,List.range_succ]
theorem rp_bytes (h:RP S w rb P M mo b0 b1) (a n:Nat) (ha:a + n ≤ 2 ^ 64) (hn:n ≤ 5000) :
    Calls Tryz.prog 84 #[addr0 rb,.int .u64 (a:Int),.int .i64 (n:Int)] w fun e w'=>∃ B c,e = .returned (.slice B n c)∧Rd w' B (bytesAt M a n)∧Bl w w':=by
  obtain ⟨i0,hi0,hz0,hz1,hz2⟩:=info_parts infoByte
  have J0:=hid hi0;clear hi0
  have J1:=hid hz0;clear hz0
  have J2:=hid hz1;clear hz1
  have J3:=hid hz2;clear hz2
  have cg:∀ W (k:Bl w W) (y:Nat) (z:Int) (hz:z = y) (hy:y < 2 ^ 64),Calls Tryz.prog 110 #[addr0 rb,.int .u64 z] W fun e w'=>e = .returned (.int .u8 (M y))∧Bl W w':=fun W k y z hz hy=>by subst hz;exact rp_get (h.bl k) y hy
  have CG:=hid cg;clear cg h
  have hnI:(n:Int) ≤ 5000:=by omega
  have haI:(a:Int) + (n:Int) ≤ 18446744073709551616:=by omega
  have haI0:(0:Int) ≤ (a:Int):=by omega
  unfold addr0 at *
  go_enter Tryz.func84,Tryz.ntmps84
  go_wp2_with fail
  go_loopw [7,8] (fun v i wr=>∃ k:Nat,k ≤ n∧i = .int .i64 k∧wr.ownsRow w.heap.size 5 1 v k (asBytes (bytesAt M a k))∧Bl w wr) (fun _ i _=>n - (intOf i).toNat)
  case atStart=>exact ⟨0,by omega,rfl,⟨by simp [bytesAt,asBytes],.inl ⟨rfl,rfl⟩⟩,Bl.refl _⟩
  case round =>
    obtain ⟨k,hk,rfl,hown,hbl⟩:=hrel
    have HO:=hid hown;clear hown
    have HBL:=hid hbl;clear hbl
    by_cases hlt:k < n
    · have hltI:(k:Int) < (n:Int):=by omega
      go_wp2_with fail
      with_reducible refine (CG.out _ HBL.out (a + k) ((a:Int) + (k:Int)) (by omega) (by omega)).mono ?_
      rintro e w1 ⟨rfl,k1⟩
      have ho1:w1.ownsRow w.heap.size 5 1 _ k (asBytes (bytesAt M a k)):=own_bl HO.out k1
      have HO1:=hid ho1;clear ho1
      have HB1:=hid (HBL.out.trans k1);clear k1
      have hb1:=HB1.out.size
      go_wp2_with (at_builtin;refine wpl_append rfl (.tmp 14) (.tmp 21) 22 rfl w.heap.size 5 i0 Tryz.underlying22 J0.out J1.out J2.out J3.out _ k (bytesAt M a k) rfl (HO1.out.alloc _) (some ⟨w1.heap.size,0,none⟩) 1 1 [M (a + k)] rfl (one_cell w1 _) rfl (fun h=>by cases h) (by omega) (by simp;omega) ?_;intro v2 w2 hown2 hg2)
      have hb2:Bl w w2:=(HB1.out.alloc _).grown hg2 (by simp;omega) (own_block_ge HO1.out)
      go_roundw
      case rel=>exact ⟨k + 1,by omega,by go_num,by rw [bytesAt_snoc];exact hown2,hb2⟩
      case measure=>simp [intOf];omega
    · obtain rfl:k = n:=by omega
      go_wp2
      go_ret
      obtain ⟨B,c,rfl,hrd,_,_⟩:=Rd.of_own HO.out
      exact ⟨B,c,rfl,hrd,HBL.out⟩
end
end Go.Proofs.YtbngjbmfkekdnaaGreatDoor

namespace Go.Proofs.YtbngjbmfkekdnaaGreatDoor
open Go.RowKit
set_option maxRecDepth 100000
theorem rd_lt {w:World} {A:Option Addr} {xs:List Int} (h:Rd w A xs) (h0:0 < xs.length) {ad:Addr} (e:A = some ad):ad.block < w.heap.size:=by
  obtain ⟨a2,h1,h2⟩:=h h0
  rw [e] at h1;cases h1
  have:=block_lt_of_cell (h2 0 h0)
  rwa [add_block] at this
theorem mstore_any {T:Nat → Prop} {w:World} {sb n0:Nat} {L:List Rg} {M st:Nat → Int} {mo ba en:Int} (h:MS T w sb n0 L M st mo ba en) (a n:Nat) (x:Int) (ha:a < 2 ^ 64) (hn:n = 1 ∨ n = 2 ∨ n = 4 ∨ n = 8) (hn0:n0 < 80000000) (hT:∀ b,w.heap.size ≤ b → T b) :
    Calls Tryz.prog 14 #[addr0 sb,.int .u64 (a:Int),.int .i64 (n:Int),.int .u64 x] w (StoreMPost T w sb n0 L M st mo ba en a n x):=by
  have cf:=probe_any (h.bl (Bl.new w (.cells #[.int .i64 0,.int .u64 0] 41))) a n (by omega) (by omega) hn
  have cp:=fun W=>put_in none 0 0 [] x n W (Rd.nil_) rfl (by omega) (by omega) (by omega)
  simp only [List.nil_append,Nat.zero_add] at cp
  have CF:=hid cf;clear cf
  have CP:=hid cp;clear cp
  have H:=hid h;clear h
  have HT:=hid hT;clear hT
  have HN:=hid hn;clear hn
  unfold addr0 at *
  go_enter Tryz.func14,Tryz.ntmps14
  go_wp2_with fail
  refine CF.out.mono ?_
  rintro e w1 ⟨k,y,rfl,hh,kk⟩
  have hb:=new2 w w1 _ _ _ kk
  have k1:=(Bl.new w (.cells #[.int .i64 0,.int .u64 0] 41)).trans kk
  clear CF kk
  have HB:=hid hb;clear hb
  have K1:=hid k1;clear k1
  unfold faultV
  rcases hh with ⟨hk,hh⟩ | ⟨hk,hx,hh⟩
  · subst hk
    have HH:=hid hh;clear hh
    have hb2:=(Bl.new w1 (.cells #[.int .i64 2,.int .u64 y] 41)).at_ HB.out
    obtain ⟨d0,d1⟩:=two_cells hb2
    obtain ⟨d2,d3⟩:=two_cells (heap_alloc_new w1 (.cells #[.int .i64 2,.int .u64 y] 41))
    have f0:∀ i,(w1.alloc (.cells #[.int .i64 2,.int .u64 y] 41)).frozen? ⟨w.heap.size,i,none⟩ = false:=fun i=>by simp [World.frozen?,hb2]
    have f00:=f0 0
    have f01:=f0 1
    have HB2:=hid hb2;clear hb2
    have K2:=hid (K1.out.alloc (.cells #[.int .i64 2,.int .u64 y] 41))
    clear HB K1 f0 CP
    go_wp2_with fail
    (try simp only [Exit.inBlock,Exit.then])
    refine bodyPost_ret (results_cell_row rfl _ _ w.heap.size 41 _ (0,0) _ rfl (set2 _ _ HB2.out) Tryz.underlying41 rfl (by kernel_rfl)) rfl ?_
    exact ⟨2,y,rfl,.inl ⟨rfl,HH.out.1,HH.out.2.1,HH.out.2.2.1,HH.out.2.2.2,(K2.out.set (Nat.le_refl _) _).set (Nat.le_refl _) _⟩⟩
  · subst hk hx
    have htop:=can_below H.out.so hh (by have:=HN.out;omega)
    have HH:=hid hh;clear hh
    have HTOP:=hid htop;clear htop
    go_wp2_with fail
    have K2:=hid (K1.out.alloc (.cells #[.int .i64 0,.int .u64 0] 41))
    have HB2:=hid ((Bl.new w1 (.cells #[.int .i64 0,.int .u64 0] 41)).at_ HB.out)
    clear HB K1
    generalize w1.alloc (.cells #[.int .i64 0,.int .u64 0] 41) = W at *
    go_region_with (first | (go_at_call 36;refine (CP.out _).mono ?_;rintro e w9 ⟨B,c,rfl,rd9,k9,hc9,hb9⟩) | (go_at_call 33;have k10:=K2.out.trans ((Bl.refl W).drew.trans k9);have hbk:∀ ad,B = some ad → w.heap.size ≤ ad.block:=(fun ad e=>Nat.le_trans K2.out.size (hb9 ad e));refine (mwrite_any (H.out.gap k10 w.heap.size w9.heap.size (Nat.le_refl _)) a B n c (putB x n) rd9 (putB_length x n) hc9 (putB_bd x n) (fun h0 ad e e2=>e2.2 ⟨hbk ad e,rd_lt rd9 (by rw [putB_length];exact h0) e⟩) HTOP.out (by have:=HN.out;omega) (by omega) (gap_new HT.out w.heap.size k10.size)).mono ?_;rintro e w11 ⟨rfl,st',h11,r11,f11⟩))
    all_goals (
      have hb3:=f11.at_ (((Bl.refl W).drew.trans k9).at_ HB2.out) (fun e=>e.2 ⟨Nat.le_refl _,by have:=lt_at HB2.out;have:=((Bl.refl W).drew.trans k9).size;omega⟩)
      obtain ⟨d0,d1⟩:=two_cells hb3
      have f0:∀ i,w11.frozen? ⟨w.heap.size,i,none⟩ = false:=fun i=>by simp [World.frozen?,hb3]
      have f00:=f0 0
      have f01:=f0 1
      have HB3:=hid hb3;clear hb3
      have h12:=h11.kept ((Fr.set (S:=only w.heap.size) (p:=⟨w.heap.size,0,none⟩) rfl (.int .i64 0)).trans (Fr.set (S:=only w.heap.size) (p:=⟨w.heap.size,1,none⟩) rfl (.int .u64 0))) (fun b e e2=>e.2 ⟨by rw [show b = w.heap.size from e2];exact Nat.le_refl _,by rw [show b = w.heap.size from e2];have:=H.out.lt;have:=lt_at HB2.out;have:=((Bl.refl W).drew.trans k9).size;omega⟩)
      have f12:Fr T w ((w11.setCell ⟨w.heap.size,0,none⟩ (.int .i64 0)).setCell ⟨w.heap.size,1,none⟩ (.int .u64 0)):=(((Fr.of_bl k10).trans f11.ungap).trans (Fr.set (HT.out _ (Nat.le_refl _)) _)).trans (Fr.set (HT.out _ (Nat.le_refl _)) _)
      have H12:=hid (h12.ungap.mono (m:=n0 + 9) (by have:=HN.out;unfold pagesOf;split <;> omega))
      have F12:=hid f12
      have R11:=hid r11
      clear h12 f12 h11 f11 r11 rd9 k9 hb9 hbk k10 f0 CP
      go_wp2_with fail
      (try simp only [Exit.inBlock,Exit.then])
      refine bodyPost_ret (results_cell_row rfl _ _ w.heap.size 41 _ (0,0) _ rfl (set2 _ _ HB3.out) Tryz.underlying41 rfl (by kernel_rfl)) rfl ?_
      exact ⟨0,0,rfl,.inr ⟨rfl,rfl,HH.out,st',H12.out,R11.out,F12.out⟩⟩)
end Go.Proofs.YtbngjbmfkekdnaaGreatDoor

namespace Go.Proofs.YtbngjbmfkekdnaaGreatDoor
open Go.RowKit
set_option maxRecDepth 100000
theorem refPut_new (A:Option Addr) (len cap:Nat) (xs:List Int) (x:Int) (n:Nat) (w:World) (hr:Rd w A xs) (hl:xs.length = len) (hc:A = none → cap = 0) (hm:len ≤ 5100) (h1:1 ≤ n) (h8:n ≤ 8) :
    Calls Tryz.prog 38 #[.slice A len cap,.int .u64 x,.int .i64 n] w fun e w'=>∃ B c,e = .returned (.slice B (len + n) c)∧Rd w' B (xs ++ putB x n)∧Below w.heap.size w w'∧∀ ad,B = some ad → w.heap.size ≤ ad.block:=by
  obtain ⟨i0,hi0,hz0,hz1,hz2⟩:=info_parts infoByte
  have HR:=hid hr;clear hr
  have HL:=hid hl;clear hl
  have HC:=hid hc;clear hc
  have J0:=hid hi0;clear hi0
  have J1:=hid hz0;clear hz0
  have J2:=hid hz1;clear hz1
  have J3:=hid hz2;clear hz2
  go_enter Tryz.func38,Tryz.ntmps38
  go_wp2_with (at_builtin;refine wpl_append rfl (.tmp 9) (.tmp 10) 22 rfl w.heap.size 5 i0 Tryz.underlying22 J0.out J1.out J2.out J3.out _ 0 [] rfl (own_empty w) A len cap xs rfl (HR.out.alloc _) HL.out HC.out (by omega) (by simp) ?_;intro v1 w1 hown1 hg1;have HO1:=hid hown1;clear hown1)
  have hbel:Below w.heap.size w w1:=((Below.refl _ _).alloc (Nat.le_refl _) _).grown hg1 (by simp) (own_block_ge (own_empty w))
  clear hg1
  go_loopw [7,8] (fun v i wr=>∃ k:Nat,k ≤ n∧i = .int .i64 k∧wr.ownsRow w.heap.size 5 1 v (len + k) (asBytes (xs ++ putB x k))∧Below w.heap.size w wr) (fun _ i _=>n - (intOf i).toNat)
  case atStart=>exact ⟨0,by omega,rfl,by simpa [putB] using HO1.out,hbel⟩
  case round =>
    obtain ⟨k,hk,rfl,hown,hbr⟩:=hrel
    clear hbel HO1
    have HO:=hid hown;clear hown
    by_cases hlt:k < n
    · go_wp2_with (at_builtin;refine wpl_append rfl (.tmp 24) (.tmp 31) 22 rfl w.heap.size 5 i0 Tryz.underlying22 J0.out J1.out J2.out J3.out _ (len + k) (xs ++ putB x k) rfl (HO.out.alloc _) (some ⟨wr.heap.size,0,none⟩) 1 1 [x / 2 ^ (8 * k) % 256] rfl (one_cell wr _) rfl (fun h=>by cases h) (by omega) (by have:=hbr.size;simp;omega) ?_;intro v2 w2 hown2 hg2)
      have hsz:=hbr.size
      have hb2:Below w.heap.size w w2:=(hbr.alloc hsz _).grown hg2 (by simp;omega) (own_block_ge HO.out)
      go_roundw
      case rel=>exact ⟨k + 1,by omega,by go_num,by rw [putB_succ,← List.append_assoc];exact hown2,hb2⟩
      case measure=>simp [intOf];omega
    · obtain rfl:k = n:=by omega
      go_wp2
      go_ret
      have hge:=own_block_ge HO.out
      obtain ⟨B,c,rfl,hrd,_,_⟩:=Rd.of_own HO.out
      exact ⟨B,c,rfl,hrd,hbr,fun ad e=>by subst e;exact hge ad.block rfl⟩


theorem fr_new {S:Nat → Prop} {w w':World} {g:Nat} (h:Fr S w w') (i j:Nat) (u v:Value) (hg:w.heap.size ≤ g):Fr S w ((w'.setCell ⟨g,i,none⟩ u).setCell ⟨g,j,none⟩ v):=
  ⟨h.os,h.tape,h.output,by simpa [World.setCell] using h.size,fun k hk hn=>by
    rw [Below.heap_setCell _ _ _ _ (by simp;omega),Below.heap_setCell _ _ _ _ (by simp;omega)];exact h.block k hk hn⟩
theorem lay_snoc (M:Nat → Int) (a k:Nat) (xs:List Int) (hk:k < xs.length):lay M a (xs.take (k + 1)) = upd (lay M a (xs.take k)) (a + k) (xs.getD k 0):=by
  rw [upd_lay,List.take_add_one,List.getElem?_eq_getElem hk,List.getD_eq_getElem?_getD,List.getElem?_eq_getElem hk]
  have h:=lay_lay M a (xs.take k) [xs[k]]
  rw [show (xs.take k).length = k by rw [List.length_take];omega] at h
  exact h.symm
section
variable {S:Nat → Prop} {mo b0 b1:Int} {w:World} {rb:Nat} {P:List Pg} {M:Nat → Int}
theorem rp_lays (h:RP S w rb P M mo b0 b1) (a:Nat) (A:Option Addr) (len cap:Nat) (xs:List Int) (hr:Rd w A xs) (hl:xs.length = len) (hb:∀ k,0 ≤ xs.getD k 0∧xs.getD k 0 ≤ 255) (hA:∀ ad,A = some ad → ¬ S ad.block)
    (hat:a + len ≤ 274877906944) (hlen:len ≤ 4194304) (hon:∀ i,i < len → ∃ q,OnP P ((a:Int) + (i:Int)) q) :
    Calls Tryz.prog 12 #[addr0 rb,.int .u64 (a:Int),.slice A len cap] w fun e w'=>e = .returned (.tuple #[])∧RP S w' rb P (lay M a xs) mo b0 b1∧Fr S w w':=by
  have HR:=hid hr;clear hr
  have HL:=hid hl;clear hl
  have HB:=hid hb;clear hb
  have HAA:=hid hA;clear hA
  have HON:=hid hon;clear hon
  have H:=hid h;clear h
  have cs:∀ W M' (h:RP S W rb P M' mo b0 b1) (y:Nat) (z c:Int) (hz:z = y) (hy:y < 2 ^ 64) (hc:0 ≤ c∧c ≤ 255) (hon:∃ q,OnP P y q),Calls Tryz.prog 34 #[addr0 rb,.int .u64 z,.int .u8 c] W fun e w'=>e = .returned (.tuple #[])∧RP S w' rb P (upd M' y c) mo b0 b1∧Fr S W w':=fun W M' h y z c hz hy hc hon=>by subst hz;exact rp_set h y hy c hc hon
  have CS:=hid cs;clear cs
  have hatI:(a:Int) + (len:Int) ≤ 274877906944:=by omega
  have haI0:(0:Int) ≤ (a:Int):=by omega
  have HAT:=hid hat;clear hat hatI haI0
  obtain ⟨Z,hZ⟩:∃ Z:Int,Z = a:=⟨_,rfl⟩
  rw [← hZ]
  have HZ:=hid hZ;clear hZ
  have hz0:0 ≤ Z:=by have:=HZ.out;omega
  have hz1:Z ≤ 274877906944:=by have:=HZ.out;have:=HAT.out;omega
  have hlenI:(len:Int) ≤ 4194304:=by omega
  unfold addr0 at *
  go_enter Tryz.func12,Tryz.ntmps12
  go_wp2_with fail
  go_loopw [6] (fun i wr=>∃ k:Nat,k ≤ len∧i = .int .i64 k∧RP S wr rb P (lay M a (xs.take k)) mo b0 b1∧Fr S w wr) (fun i _=>len - (intOf i).toNat)
  case atStart=>exact ⟨0,by omega,rfl,by rw [List.take_zero,lay_nil];exact H.out,Fr.refl _ _⟩
  case round =>
    obtain ⟨k,hk,rfl,hrp,hfr⟩:=hrel
    have HRP:=hid hrp;clear hrp
    have HFR:=hid hfr;clear hfr
    by_cases hlt:k < len
    · have hr2:=HR.out.fr HFR.out (fun _=>HAA.out)
      obtain ⟨b,off,hA,hcell⟩:=hr2.at_ k (by rw [HL.out];exact hlt)
      have hA2:=hA
      subst hA
      have hx:=HB.out k
      have HSN:=hid (lay_snoc M a k xs (by rw [HL.out];exact hlt))
      have hon:=HON.out k hlt
      rw [show (a:Int) + (k:Int) = ((a + k:Nat):Int) by omega] at hon
      have HO:=hid hon
      generalize xs.getD k 0 = x at *
      have HX:=hid hx
      have hin:(k:Int) < (len:Int):=by omega
      have t1:decide (Z < 274877906944) = true:=by have:=HAT.out;have:=HZ.out;simp;omega
      have t2:decide (Z + (k:Int) < 274877906944) = true:=by have:=HAT.out;have:=HZ.out;simp;omega
      clear hr2 hon hA2
      go_wp2_with fail
      with_reducible refine (CS.out _ _ HRP.out (a + k) (Z + (k:Int)) x (by have:=HZ.out;omega) (by have:=HAT.out;omega) HX.out HO.out).mono ?_
      rintro e w1 ⟨rfl,h1,f1⟩
      rw [← HSN.out] at h1
      have H1:=hid h1;clear h1
      have F1:=hid (HFR.out.trans f1);clear f1
      go_wp2_with fail
      refine ⟨⟨k + 1,by omega,by go_num,H1.out,F1.out⟩,?_⟩
      simp only [intOf];omega
    · obtain rfl:k = len:=by omega
      have hfin:=HRP.out
      rw [← HL.out,List.take_length] at hfin
      have HF:=hid hfin;clear hfin
      go_wp2_with fail
      go_end0
      exact ⟨rfl,HF.out,HFR.out⟩
theorem rwide_yes (n:Int) (w:World) (h:n = 1 ∨ n = 2 ∨ n = 4 ∨ n = 8):Calls Tryz.prog 65 #[.int .i64 n] w fun x w'=>x = .returned (.bool true)∧w = w':=by
  rcases h with rfl | rfl | rfl | rfl
  all_goals
    go_enter Tryz.func65,Tryz.ntmps65
    go_wp2
    go_ret
    exact ⟨rfl,rfl⟩
theorem rp_probe (h:RP S w rb P M mo b0 b1) (a:Int) (n:Nat) (h0:0 ≤ a) (h1:a ≤ 18446744073709551615) (hn:n = 1 ∨ n = 2 ∨ n = 4 ∨ n = 8) :
    Calls Tryz.prog 37 #[addr0 rb,.int .u64 a,.int .i64 (n:Int)] w (FaultPost w (regs P) 2 a n 2):=by
  have cw:=fun W=>rwide_yes (n:Int) W (by omega)
  have cl:=rp_first (h.bl (Bl.new w (.cells #[.int .i64 0,.int .u64 0] 41))) a n 2 h0 h1 (by omega)
  have CW:=hid cw;clear cw
  have CL:=hid cl;clear cl hn h
  unfold addr0 at *
  go_enter Tryz.func37,Tryz.ntmps37
  go_wp2_with fail
  refine (CW.out _).mono ?_
  rintro e w' ⟨rfl,rfl⟩
  go_wp2_with fail
  with_reducible refine CL.out.mono ?_
  rintro e w1 ⟨x,ok,rfl,hh,k⟩
  have hb:=new2 w w1 _ _ _ k
  obtain ⟨d0,d1⟩:=two_cells hb
  have k1:=(Bl.new w (.cells #[.int .i64 0,.int .u64 0] 41)).trans k
  have f0:∀ i,w1.frozen? ⟨w.heap.size,i,none⟩ = false:=fun i=>by simp [World.frozen?,hb]
  have f00:=f0 0
  have f01:=f0 1
  have HB:=hid hb;clear hb
  have K1:=hid k1;clear k1 k f0
  rcases hh with ⟨rfl,hh⟩ | ⟨rfl,hx,hh⟩
  · have HH:=hid hh;clear hh
    go_wp2_with fail
    (try simp only [Exit.inBlock,Exit.then])
    refine bodyPost_ret (results_cell_row rfl _ _ w.heap.size 41 _ (0,0) _ rfl (set2 _ _ HB.out) Tryz.underlying41 rfl (by kernel_rfl)) rfl ?_
    exact ⟨2,x,rfl,.inl ⟨rfl,HH.out⟩,(K1.out.set (Nat.le_refl _) _).set (Nat.le_refl _) _⟩
  · have HH:=hid hh;clear hh
    have HX:=hid hx;clear hx
    go_wp2_with fail
    (try simp only [Exit.inBlock,Exit.then])
    refine bodyPost_ret (results_cell_row rfl _ _ w.heap.size 41 _ (0,0) _ rfl (set2 _ _ HB.out) Tryz.underlying41 rfl (by kernel_rfl)) rfl ?_
    exact ⟨0,0,rfl,.inr ⟨rfl,rfl,HH.out⟩,(K1.out.set (Nat.le_refl _) _).set (Nat.le_refl _) _⟩
def RStorePost (S:Nat → Prop) (w:World) (rb:Nat) (P:List Pg) (M:Nat → Int) (mo b0 b1:Int) (a n:Nat) (x:Int) (e:Ending) (w':World):Prop:=∃ k y,e = .returned (faultV k y) ∧
  ((k = 2∧(a:Int) ≤ y∧y < a + n∧¬ Can (regs P) 2 y∧(∀ z,(a:Int) ≤ z → z < y → Can (regs P) 2 z)∧Bl w w') ∨
   (k = 0∧y = 0∧(∀ z,(a:Int) ≤ z → z < a + n → Can (regs P) 2 z)∧RP S w' rb P (lay M a (putB x n)) mo b0 b1∧Fr S w w'))
theorem rp_store (h:RP S w rb P M mo b0 b1) (a n:Nat) (x:Int) (ha:a < 2 ^ 64) (hn:n = 1 ∨ n = 2 ∨ n = 4 ∨ n = 8) :
    Calls Tryz.prog 15 #[addr0 rb,.int .u64 (a:Int),.int .i64 (n:Int),.int .u64 x] w (RStorePost S w rb P M mo b0 b1 a n x):=by
  have cp:=rp_probe (h.bl (Bl.new w (.cells #[.int .i64 0,.int .u64 0] 41))) a n (by omega) (by omega) hn
  have cput:=fun W=>refPut_new none 0 0 [] x n W Rd.nil_ rfl (fun _=>rfl) (by omega) (by omega) (by omega)
  simp only [List.nil_append,Nat.zero_add] at cput
  have hsm:RP (fun b=>S b∧b < w.heap.size) w rb P M mo b0 b1:=h.among fun b hb hS=>⟨hS,hb⟩
  have HSO:=hid (regs_so h.pgs)
  have HPG:=hid h.pgs
  have H:=hid h;clear h
  have HSM:=hid hsm;clear hsm
  have CP:=hid cp;clear cp
  have CPUT:=hid cput;clear cput
  have HN:=hid hn;clear hn
  have HA:=hid ha;clear ha
  have cl:=fun W (h:RP (fun b=>S b∧b < w.heap.size) W rb P M mo b0 b1) B c (hr:Rd W B (putB x n)) (hB:∀ ad,B = some ad → w.heap.size ≤ ad.block) (ht:a + n ≤ 274877906944) (hc:∀ z,(a:Int) ≤ z → z < a + n → Can (regs P) 2 z) =>
    rp_lays h a B n c (putB x n) hr (putB_length x n) (putB_bd x n) (fun ad e hh=>by have:=hB ad e;omega) ht (by have:=HN.out;omega) (fun i hi=>by
      obtain ⟨q,hq,_⟩:=hc ((a:Int) + (i:Int)) (by omega) (by omega)
      exact ⟨q,(regs_in HPG.out).1 hq⟩)
  have CL:=hid cl;clear cl
  unfold addr0 at *
  go_enter Tryz.func15,Tryz.ntmps15
  go_wp2_with fail
  with_reducible refine CP.out.mono ?_
  rintro e w1 ⟨k,y,rfl,hh,kk⟩
  have hb:=new2 w w1 _ _ _ kk
  have k1:=(Bl.new w (.cells #[.int .i64 0,.int .u64 0] 41)).trans kk
  have HB:=hid hb;clear hb
  have K1:=hid k1;clear k1 kk
  unfold faultV
  rcases hh with ⟨hk,hh⟩ | ⟨hk,hx,hh⟩
  · subst hk
    have HH:=hid hh;clear hh
    have hb2:=(Bl.new w1 (.cells #[.int .i64 2,.int .u64 y] 41)).at_ HB.out
    obtain ⟨d0,d1⟩:=two_cells hb2
    obtain ⟨d2,d3⟩:=two_cells (heap_alloc_new w1 (.cells #[.int .i64 2,.int .u64 y] 41))
    have f0:∀ i,(w1.alloc (.cells #[.int .i64 2,.int .u64 y] 41)).frozen? ⟨w.heap.size,i,none⟩ = false:=fun i=>by simp [World.frozen?,hb2]
    have f00:=f0 0
    have f01:=f0 1
    have HB2:=hid hb2;clear hb2
    have K2:=hid (K1.out.alloc (.cells #[.int .i64 2,.int .u64 y] 41))
    clear HB K1 f0
    go_wp2_with fail
    (try simp only [Exit.inBlock,Exit.then])
    refine bodyPost_ret (results_cell_row rfl _ _ w.heap.size 41 _ (0,0) _ rfl (set2 _ _ HB2.out) Tryz.underlying41 rfl (by kernel_rfl)) rfl ?_
    exact ⟨2,y,rfl,.inl ⟨rfl,HH.out.1,HH.out.2.1,HH.out.2.2.1,HH.out.2.2.2,(K2.out.set (Nat.le_refl _) _).set (Nat.le_refl _) _⟩⟩
  · subst hk hx
    have htop:=can_below HSO.out hh (by have:=HN.out;omega)
    have HH:=hid hh;clear hh
    have HTOP:=hid htop;clear htop
    go_wp2_with fail
    have K2:=hid (K1.out.alloc (.cells #[.int .i64 0,.int .u64 0] 41))
    have HB2:=hid ((Bl.new w1 (.cells #[.int .i64 0,.int .u64 0] 41)).at_ HB.out)
    have HN2:=hid (heap_alloc_new w1 (.cells #[.int .i64 0,.int .u64 0] 41))
    have HS1:=hid (show w1.heap.size < (w1.alloc (.cells #[.int .i64 0,.int .u64 0] 41)).heap.size by simp)
    have HS0:=hid K1.out.size
    clear HB K1
    obtain ⟨g2,hg2⟩:∃ g2,g2 = w1.heap.size:=⟨_,rfl⟩
    rw [← hg2] at HN2 HS1 HS0 ⊢
    clear hg2
    generalize w1.alloc (.cells #[.int .i64 0,.int .u64 0] 41) = W at *
    with_reducible refine (CPUT.out _).mono ?_
    rintro e w3 ⟨B,c,rfl,hr3,k3,hB3⟩
    have R3:=hid hr3;clear hr3
    have HB3:=hid hB3;clear hB3
    have K3:=hid (show Bl W w3 from k3);clear k3
    go_wp2_with fail
    with_reducible refine (CL.out _ (HSM.out.bl (K2.out.trans K3.out)) B c R3.out (fun ad e=>Nat.le_trans K2.out.size (HB3.out ad e)) HTOP.out HH.out).mono ?_
    rintro e w4 ⟨rfl,h4,f4⟩
    have hb4:=f4.at_ (K3.out.at_ HB2.out) (fun e=>absurd e.2 (by omega))
    have hn4:=f4.at_ (K3.out.at_ HN2.out) (fun e=>absurd e.2 (by have:=HS0.out;omega))
    obtain ⟨d0,d1⟩:=two_cells hb4
    obtain ⟨d2,d3⟩:=two_cells hn4
    have f0:∀ i,w4.frozen? ⟨w.heap.size,i,none⟩ = false:=fun i=>by simp [World.frozen?,hb4]
    have f00:=f0 0
    have f01:=f0 1
    have HB4:=hid hb4;clear hb4 hn4 f0
    have f5:Fr S w ((w4.setCell ⟨w.heap.size,0,none⟩ (.int .i64 0)).setCell ⟨w.heap.size,1,none⟩ (.int .u64 0)):=
      fr_new (((Fr.of_bl (K2.out.trans K3.out)).trans (f4.mono fun b _ e=>e.1))) _ _ _ _ (Nat.le_refl _)
    have h5:RP S ((w4.setCell ⟨w.heap.size,0,none⟩ (.int .i64 0)).setCell ⟨w.heap.size,1,none⟩ (.int .u64 0)) rb P (lay M a (putB x n)) mo b0 b1:=
      (h4.kept ((Fr.set (S:=only w.heap.size) (p:=⟨w.heap.size,0,none⟩) rfl (.int .i64 0)).trans (Fr.set (S:=only w.heap.size) (p:=⟨w.heap.size,1,none⟩) rfl (.int .u64 0))) (fun b _ hS e=>by have h7:b = w.heap.size:=e;omega)).among fun b _ e=>e.1
    have H5:=hid h5;clear h5
    have F5:=hid f5;clear f5 h4 f4
    go_wp2_with fail
    (try simp only [Exit.inBlock,Exit.then])
    refine bodyPost_ret (results_cell_row rfl _ _ w.heap.size 41 _ (0,0) _ rfl (set2 _ _ HB4.out) Tryz.underlying41 rfl (by kernel_rfl)) rfl ?_
    exact ⟨0,0,rfl,.inr ⟨rfl,rfl,HH.out,H5.out,F5.out⟩⟩
end
end Go.Proofs.YtbngjbmfkekdnaaGreatDoor
