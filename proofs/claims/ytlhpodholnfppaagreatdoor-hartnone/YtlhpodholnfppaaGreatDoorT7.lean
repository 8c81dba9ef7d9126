/-
  lay of a space: a span is mapped anew.
  Which places lack what is asked; faults; numbers that are loaded and stored; bytes that are peeked at.
  Store of a space.
  Atomic instructions: a step that a fault stopped; what was loaded as a register has it.
-/
import Derived.Test.YtlhpodholnfppaaGreatDoorT6
import Derived.Deep.RegionWith
import Derived.Test.YtlhpodholnfppaaGreatDoorT2
import Derived.Lib.Hide
set_option linter.unusedVariables false
set_option linter.unusedSimpArgs false
set_option maxHeartbeats 16000000
open Go.Lib (hid)
namespace Go.Proofs.YtlhpodholnfppaaGreatDoor
open Go.RowKit
set_option maxRecDepth 100000
theorem tot_joinOne (L:List Rg) (r:Rg):tot (joinOne L r) = tot L + (r.e - r.s):=by
  rcases last_cases L with rfl | ⟨A,q,rfl⟩
  · rw [joinOne_nil];simp [tot]
  · by_cases h:q.e = r.s∧q.p = r.p
    · rw [joinOne_yes A q r h.1 h.2,tot_append,tot_append]
      simp only [tot]
      omega
    · rw [joinOne_no A q r h,tot_append]
      simp only [tot]
      omega
theorem tot_join (L M:List Rg):tot (join L M) = tot L + tot M:=by
  induction M generalizing L with
  | nil=>simp [join,tot]
  | cons r M ih =>
    have e:join L (r :: M) = join (joinOne L r) M:=rfl
    rw [e,ih,tot_joinOne]
    simp only [tot]
    omega
theorem tot_within_cons (r:Rg) (L:List Rg) (a b:Int):tot (within (r :: L) a b) = max 0 (min r.e b - max r.s a) + tot (within L a b):=by
  unfold within
  rw [List.filterMap_cons]
  by_cases h:max r.s a < min r.e b
  · have e:clip a b r = some ⟨max r.s a,min r.e b,r.p⟩:=by unfold clip;rw [if_pos h]
    rw [e]
    simp only [tot]
    omega
  · have e:clip a b r = none:=by unfold clip;rw [if_neg h]
    rw [e]
    show tot (List.filterMap (clip a b) L) = _
    omega
theorem tot_within_add (L:List Rg) (a b c:Int) (h1:a ≤ b) (h2:b ≤ c):tot (within L a b) + tot (within L b c) = tot (within L a c):=by
  induction L with
  | nil=>simp [within,tot]
  | cons r L ih =>
    rw [tot_within_cons,tot_within_cons,tot_within_cons]
    omega
theorem tot_within_all {L:List Rg} (h:So 0 274877906944 L):tot (within L 0 274877906944) = tot L:=by
  induction L with
  | nil=>simp [within,tot]
  | cons r L ih =>
    rw [tot_within_cons,ih (h.tail.mono (by have:=h.2 r (by simp);omega) (Int.le_refl _))]
    have:=h.2 r (by simp)
    simp only [tot]
    omega
theorem tot_layL {L M:List Rg} {s e:Int} (h:So 0 274877906944 L) (h0:0 ≤ s) (h1:s ≤ e) (h2:e ≤ 274877906944):tot (layL L s e M) = tot L - tot (within L s e) + tot M:=by
  unfold layL
  rw [tot_join,tot_join,tot_join]
  have a1:=tot_within_add L 0 s e h0 h1
  have a2:=tot_within_add L 0 e 274877906944 (by omega) h2
  have a3:=tot_within_all h
  have a4:tot ([]:List Rg) = 0:=rfl
  omega
theorem tot_within_le (L:List Rg) (a b:Int):0 ≤ tot (within L a b):=by
  induction L with
  | nil=>simp [within,tot]
  | cons r L ih=>rw [tot_within_cons];omega
def ClearPost (T:Nat → Prop) (w:World) (sb n:Nat) (L:List Rg) (M st:Nat → Int) (mo ba en:Int) (a b:Nat) (w':World):Prop:=
  ∃ st',MS T w' sb (n + 8192) L (wiped M a b) st' mo ba en∧Rise st st' (fun p=>a ≤ p * 4096∧p * 4096 < b)∧Fr T w w'
theorem wiped_bd {M:Nat → Int} (h:∀ x,0 ≤ M x∧M x ≤ 255) (a b:Nat):∀ x,0 ≤ wiped M a b x∧wiped M a b x ≤ 255:=fun x=>by
  simp only [wiped]
  split
  · omega
  · exact h x
theorem mclear_any {T:Nat → Prop} {w:World} {sb n:Nat} {L:List Rg} {M st:Nat → Int} {mo ba en:Int} (h:MS T w sb n L M st mo ba en) (a b:Nat) (ha:a % 4096 = 0) (hb:b % 4096 = 0) (hab:a < b) (hbt:b ≤ 274877906944) (hnar:b - a ≤ 16777216) (hn:n < 80000000) (hT:∀ b,w.heap.size ≤ b → T b) :
    Calls Tryz.prog 67 #[.pointer (some ⟨sb,1,none⟩),.int .u64 (a:Int),.int .u64 (b:Int)] w fun e w'=>e = .returned (.tuple #[])∧ClearPost T w sb n L M st mo ba en a b w':=by
  obtain ⟨rg,f,k0,h1,h2,h3⟩:=h.ex
  have cc:=clear_narrow h1 (a / 4096) (b / 4096 - 1) (by omega) (by omega) (by omega) hn (off_new h2 hT)
  rw [show a / 4096 * 4096 = a by omega,show (b / 4096 - 1 + 1) * 4096 = b by omega] at cc
  refine cc.mono ?_
  rintro e w' ⟨rfl,⟨k',st',h4,_,hr⟩,hf⟩
  exact ⟨rfl,st',h.stored h2 h3 h4 hf (wiped_bd h.by_ a b),hr.mono fun p hp=>by omega,hf.off_of⟩
theorem keepM {w w8 w9:World} {p:Addr} {v:Value} (h:w8.cell? p = some v∧Bl w w8) (k:Bl w8 w9):w9.cell? p = some v∧Bl w w9:=⟨k.cell' h.1,h.2.trans k⟩
def MLayPost (T:Nat → Prop) (w:World) (sb n:Nat) (L:List Rg) (M st:Nat → Int) (mo ba en:Int) (a b:Nat) (e:Ending) (w':World):Prop:=
  e = .returned (.int .i64 0)∧ClearPost T w sb n L M st mo ba en a b w'
theorem mlay_ok {T:Nat → Prop} {w:World} {sb n:Nat} {L:List Rg} {M st:Nat → Int} {mo ba en:Int} (h:MS T w sb n L M st mo ba en) (a b:Nat) (p:Int) (hs:Span (a:Int) (b:Int)) (hp0:0 ≤ p) (hp1:p ≤ 7)
    (hc:(layL L a b [⟨a,b,p⟩]).length ≤ 256) (ht:tot (layL L a b [⟨a,b,p⟩]) ≤ mo * 4096) (hn:n < 80000000) (hT:∀ b,w.heap.size ≤ b → T b) :
    Calls Tryz.prog 43 #[addr0 sb,.int .u64 (a:Int),.int .u64 (b:Int),.int .i64 p] w (MLayPost T w sb n (layL L a b [⟨a,b,p⟩]) M st mo ba en a b):=by
  have hrs:Rs (layL L a b [⟨a,b,p⟩]):=h.rs.lay (by omega) hs
  obtain ⟨X,hX⟩:=h.list
  have ccp:=copy_any hX (by have:=h.few;omega)
  have htl:=tot_layL (M:=[⟨a,b,p⟩]) h.so (show (0:Int) ≤ a by omega) (Int.le_of_lt hs.2.2.1) hs.2.2.2
  have hwl:=So.tot_le (within_so h.so (a:=0) (b:=(a:Int))) (by omega)
  have hnar:b - a ≤ 16777216:=by
    have h1:=h.mo_
    have h2:=tot_within_add L 0 a b (by omega) (Int.le_of_lt hs.2.2.1)
    have h3:=tot_within_add L 0 b 274877906944 (by omega) hs.2.2.2
    have h4:=tot_within_all h.so
    have h5:=tot_within_le L b 274877906944
    have h6:=tot_within_le L 0 a
    simp only [tot] at htl
    omega
  have hpg:tot (layL L a b [⟨a,b,p⟩]) / 4096 ≤ mo:=by omega
  have hs1:=hs.1
  have hs2:=hs.2.1
  have hs3:=hs.2.2.1
  have hs4:=hs.2.2.2
  have HSP:=hid hs;clear hs
  have HX:=hid hX;clear hX
  have HRS:=hid hrs;clear hrs
  have HC:=hid hc;clear hc
  have H:=hid h;clear h
  have HT:=hid hT;clear hT
  have HF:=hid H.out.few
  have CCP:=hid ccp;clear ccp htl hwl ht
  obtain ⟨L',hL'⟩:∃ L',L' = layL L a b [⟨a,b,p⟩]:=⟨_,rfl⟩
  rw [← hL'] at hpg HRS HC ⊢
  have HL':=hid hL';clear hL'
  have HHS:=hid (⟨hs1,hs2,hs3,hs4⟩:(a:Int) % 4096 = 0∧(b:Int) % 4096 = 0∧(a:Int) < b∧(b:Int) ≤ 274877906944)
  clear hs1 hs2 hs3 hs4
  unfold addr0 at *
  go_enter Tryz.func43,Tryz.ntmps43
  go_wp2_with fail
  refine CCP.out.mono ?_
  rintro e w1 ⟨nb,rfl,hnb,l1,k1⟩
  unfold addr0
  clear CCP
  have L1:=hid l1;clear l1
  have K1:=hid k1;clear k1
  have HNB:=hid hnb;clear hnb
  go_wp2_with fail
  have cm:=map_ok L1.out.at0 (a:Int) (b:Int) p (by omega) HSP.out hp0 hp1 HF.out (by rw [← HL'.out];exact HC.out)
  unfold addr0 at cm
  rw [← HL'.out] at cm
  refine cm.mono ?_
  rintro e w2 ⟨rfl,l2,f2⟩
  have k2:Bl w w2:=Fr.only_new K1.out f2 HNB.out
  have L2:=hid l2;clear l2
  have K2:=hid k2;clear k2 f2 cm
  obtain ⟨m0,m1,m2⟩:=(H.out.bl K2.out).cells
  have cp:=fun W (hW:Bl w2 W)=>pages_any (L2.out.bl hW).at0 HRS.out.nm.so (by have:=HC.out;omega)
  have CP:=hid cp;clear cp m1 m2
  have hS:w2.cell? ⟨sb,5,none⟩ = some (.int .i64 mo)∧Bl w2 w2:=⟨m0,Bl.refl _⟩
  have HS:=hid hS;clear hS m0
  unfold addr0 at CP
  generalize tot L' / 4096 = q at *
  go_wp2_with fail
  go_region_held3 (fun w'=>w'.cell? ⟨sb,5,none⟩ = some (.int .i64 mo)∧Bl w2 w') (first | assumption | exact HS.out | exact keepM HS.out ((Bl.refl w2).drewN 1)) ((go_at_call 66;refine (CP.out _ (by first | exact HS.out.2 | exact And.right (a:=World.cell? _ ⟨sb,5,none⟩ = some (.int .i64 mo)) (by assumption))).mono ?_;rintro e w9 ⟨rfl,k9⟩;have hkk:=keepM (by first | assumption | exact HS.out) k9))
  all_goals (
    have hL9:=L2.out.bl hkk.2
    have k9':=K2.out.trans hkk.2
    obtain ⟨v,hvb,hvr⟩:=hL9
    obtain ⟨A,cap,hv⟩:=hvr.shape
    subst hv
    have d0:w9.cell? ⟨nb,0,none⟩ = some (.slice A L'.length cap):=by rw [cell_of_row w9 nb 0 _ _ (0,0) hvb];simp
    have d1:=(H.out.bl k9').free 0
    obtain ⟨v0,d2⟩:=(H.out.bl k9').cell0
    have r9:Row w9 w.heap.size (.slice A L'.length cap) L':=hvr.base_ (fun g hg=>Nat.le_trans K1.out.size (hvr.lt g hg).1)
    have h10:=H.out.laid HX.out ((HX.out.bl k9').set r9) ((Fr.of_bl k9').trans (Fr.set (show only sb sb from rfl) _)) HRS.out HC.out HT.out
    have f10:Fr T w (w9.setCell ⟨sb,0,none⟩ (.slice A L'.length cap)):=(Fr.of_bl k9').trans (Fr.set H.out.own _)
    have H10:=hid h10
    have F10:=hid f10
    have D0:=hid d0
    clear h10 f10 hvb hvr r9
    have hN:=hn
    clear hkk HS
    go_wp2_with fail
    refine (mclear_any H10.out a b (by have:=HHS.out;omega) (by have:=HHS.out;omega) (by have:=HHS.out;omega) (by have:=HHS.out;omega) hnar hn (fun b hb=>HT.out b (Nat.le_trans F10.out.size hb))).mono ?_
    rintro e w11 ⟨rfl,st',h11,hr11,f11⟩
    have H11:=hid h11;clear h11
    have R11:=hid hr11;clear hr11
    have F11:=hid f11;clear f11
    clear d0 d1 d2 k9'
    go_wp2_with fail
    go_ret
    exact ⟨rfl,st',H11.out,R11.out,F10.out.trans F11.out⟩)
theorem mlay_many {T:Nat → Prop} {w:World} {sb n:Nat} {L:List Rg} {M st:Nat → Int} {mo ba en:Int} (h:MS T w sb n L M st mo ba en) (a b:Nat) (p:Int) (hs:Span (a:Int) (b:Int)) (hp0:0 ≤ p) (hp1:p ≤ 7)
    (hc:256 < (layL L a b [⟨a,b,p⟩]).length) :
    Calls Tryz.prog 43 #[addr0 sb,.int .u64 (a:Int),.int .u64 (b:Int),.int .i64 p] w (NoPost w 12):=by
  obtain ⟨X,hX⟩:=h.list
  have ccp:=copy_any hX (by have:=h.few;omega)
  have HF:=hid h.few
  have CCP:=hid ccp;clear ccp hX h
  have HSP:=hid hs;clear hs
  have HC:=hid hc;clear hc
  unfold addr0 at *
  go_enter Tryz.func43,Tryz.ntmps43
  go_wp2_with fail
  refine CCP.out.mono ?_
  rintro e w1 ⟨nb,rfl,hnb,l1,k1⟩
  unfold addr0
  have L1:=hid l1;clear l1
  have K1:=hid k1;clear k1 hnb CCP
  go_wp2_with fail
  have cm:=map_many L1.out.at0 (a:Int) (b:Int) p (by omega) HSP.out hp0 hp1 HF.out HC.out
  unfold addr0 at cm
  refine cm.mono ?_
  rintro e w2 ⟨rfl,k2⟩
  have K2:=hid (K1.out.trans k2);clear k2 cm
  go_wp2_with fail
  go_ret
  exact ⟨rfl,K2.out⟩
theorem mlay_full {T:Nat → Prop} {w:World} {sb n:Nat} {L:List Rg} {M st:Nat → Int} {mo ba en:Int} (h:MS T w sb n L M st mo ba en) (a b:Nat) (p:Int) (hs:Span (a:Int) (b:Int)) (hp0:0 ≤ p) (hp1:p ≤ 7)
    (hc:(layL L a b [⟨a,b,p⟩]).length ≤ 256) (ht:mo * 4096 < tot (layL L a b [⟨a,b,p⟩])) :
    Calls Tryz.prog 43 #[addr0 sb,.int .u64 (a:Int),.int .u64 (b:Int),.int .i64 p] w (NoPost w 12):=by
  have hrs:Rs (layL L a b [⟨a,b,p⟩]):=h.rs.lay (by omega) hs
  obtain ⟨X,hX⟩:=h.list
  have ccp:=copy_any hX (by have:=h.few;omega)
  have hpg:mo < tot (layL L a b [⟨a,b,p⟩]) / 4096:=by have:=hrs.al.tot;omega
  have HSP:=hid hs;clear hs
  have HRS:=hid hrs;clear hrs
  have HC:=hid hc;clear hc
  have HF:=hid h.few
  have H:=hid h;clear h
  have CCP:=hid ccp;clear ccp ht hX
  obtain ⟨L',hL'⟩:∃ L',L' = layL L a b [⟨a,b,p⟩]:=⟨_,rfl⟩
  rw [← hL'] at hpg HRS HC
  have HL':=hid hL';clear hL'
  unfold addr0 at *
  go_enter Tryz.func43,Tryz.ntmps43
  go_wp2_with fail
  refine CCP.out.mono ?_
  rintro e w1 ⟨nb,rfl,hnb,l1,k1⟩
  unfold addr0
  clear CCP
  have L1:=hid l1;clear l1
  have K1:=hid k1;clear k1
  have HNB:=hid hnb;clear hnb
  go_wp2_with fail
  have cm:=map_ok L1.out.at0 (a:Int) (b:Int) p (by omega) HSP.out hp0 hp1 HF.out (by rw [← HL'.out];exact HC.out)
  unfold addr0 at cm
  rw [← HL'.out] at cm
  refine cm.mono ?_
  rintro e w2 ⟨rfl,l2,f2⟩
  have k2:Bl w w2:=Fr.only_new K1.out f2 HNB.out
  have L2:=hid l2;clear l2
  have K2:=hid k2;clear k2 f2 cm
  obtain ⟨m0,m1,m2⟩:=(H.out.bl K2.out).cells
  have cp:=fun W (hW:Bl w2 W)=>pages_any (L2.out.bl hW).at0 HRS.out.nm.so (by have:=HC.out;omega)
  have CP:=hid cp;clear cp m1 m2
  have hS:w2.cell? ⟨sb,5,none⟩ = some (.int .i64 mo)∧Bl w2 w2:=⟨m0,Bl.refl _⟩
  have HS:=hid hS;clear hS m0
  unfold addr0 at CP
  generalize tot L' / 4096 = q at *
  go_wp2_with fail
  go_region_held3 (fun w'=>w'.cell? ⟨sb,5,none⟩ = some (.int .i64 mo)∧Bl w2 w') (first | assumption | exact HS.out | exact keepM HS.out ((Bl.refl w2).drewN 1)) ((go_at_call 66;refine (CP.out _ (by first | exact HS.out.2 | exact And.right (a:=World.cell? _ ⟨sb,5,none⟩ = some (.int .i64 mo)) (by assumption))).mono ?_;rintro e w9 ⟨rfl,k9⟩;have hkk:=keepM (by first | assumption | exact HS.out) k9))
  all_goals (
    have k9':=K2.out.trans hkk.2
    have K9:=hid k9';clear k9' hkk HS
    go_wp2_with fail
    go_ret
    exact ⟨rfl,K9.out⟩)
theorem mlay_no {T:Nat → Prop} {w:World} {sb n:Nat} {L:List Rg} {M st:Nat → Int} {mo ba en:Int} (h:MS T w sb n L M st mo ba en) (a b p:Int) (h0:0 ≤ a) (h1:a ≤ 18446744073709551615) (h2:0 ≤ b) (h3:b ≤ 18446744073709551615) (hs:¬ (Span a b∧0 ≤ p∧p ≤ 7)) :
    Calls Tryz.prog 43 #[addr0 sb,.int .u64 a,.int .u64 b,.int .i64 p] w (NoPost w 22):=by
  obtain ⟨X,hX⟩:=h.list
  have ccp:=copy_any hX (by have:=h.few;omega)
  have CCP:=hid ccp;clear ccp hX h
  have cm:=fun W nb=>map_no (w:=W) nb a b p h0 h1 h2 h3 hs
  have CM:=hid cm;clear cm hs
  unfold addr0 at *
  go_enter Tryz.func43,Tryz.ntmps43
  go_wp2_with fail
  refine CCP.out.mono ?_
  rintro e w1 ⟨nb,rfl,hnb,l1,k1⟩
  unfold addr0
  have K1:=hid k1;clear k1 hnb CCP l1
  go_wp2_with fail
  refine (CM.out _ _).mono ?_
  rintro e w2 ⟨rfl,k2⟩
  have K2:=hid (K1.out.trans k2);clear k2 CM
  go_wp2_with fail
  go_ret
  exact ⟨rfl,K2.out⟩
end Go.Proofs.YtlhpodholnfppaaGreatDoor

namespace Go.Proofs.YtlhpodholnfppaaGreatDoor
open Go.RowKit
set_option maxRecDepth 100000
theorem width_yes (n:Int) (w:World) (h:n = 1 ∨ n = 2 ∨ n = 4 ∨ n = 8):Calls Tryz.prog 173 #[.int .i64 n] w fun x w'=>x = .returned (.bool true)∧w = w':=by
  rcases h with rfl | rfl | rfl | rfl
  all_goals go_enter Tryz.func173,Tryz.ntmps173
  all_goals go_wp2
  all_goals go_ret
  all_goals exact ⟨rfl,rfl⟩
theorem can_top {L:List Rg} (h:So 0 274877906944 L) {p x:Int} (hx:274877906944 ≤ x):¬ Can L p x:=fun ⟨q,hq,_⟩=>by have:=h.range hq;omega
theorem lack_any {T:Nat → Prop} {w:World} {sb n0:Nat} {L:List Rg} {M st:Nat → Int} {mo ba en:Int} (h:MS T w sb n0 L M st mo ba en) (a:Int) (n:Nat) (p:Int) (h0:0 ≤ a) (h1:a ≤ 18446744073709551615) (hn:n ≤ 4194304) :
    Calls Tryz.prog 174 #[addr0 sb,.int .u64 a,.int .i64 (n:Int),.int .i64 p] w (FirstPost w L a (a + n) p):=by
  by_cases hc:0 < n∧274877906944 ≤ a
  · have hp:FirstPost w L a (a + n) p (.returned (.tuple #[.int .u64 a,.bool true])) w:=⟨a,true,rfl,.inl ⟨rfl,Int.le_refl _,by omega,can_top h.so hc.2,fun y h1 h2=>by omega⟩,Bl.refl _⟩
    have HP:=hid hp;clear hp h
    obtain ⟨c1,c2⟩:=hc
    have c3:(0:Int) < (n:Int):=by omega
    unfold addr0
    go_enter Tryz.func174,Tryz.ntmps174
    go_wp2_with fail
    go_ret2
    exact HP.out
  · obtain ⟨X,hX⟩:=h.list
    have cf:=first_any hX h.so a (a + n) p (by have:=h.few;omega)
    have CF:=hid cf;clear cf hX h
    have hw:IntKind.u64.wrap (a + n) = a + n:=IntWalk.u64_in _ (by omega)
    unfold addr0 at *
    by_cases c1:0 < n
    · have c2:a < 274877906944:=by omega
      have c3:(0:Int) < (n:Int):=by omega
      clear hc
      go_enter Tryz.func174,Tryz.ntmps174
      go_wp2_with fail
      refine CF.out.mono ?_
      rintro e w' ⟨x,ok,rfl,hh,k⟩
      have HH:=hid hh;clear hh
      have K:=hid k;clear k
      go_wp2_with fail
      go_ret2
      exact ⟨x,ok,rfl,HH.out,K.out⟩
    · obtain rfl:n = 0:=by omega
      clear hc c1 hw
      have hw:IntKind.u64.wrap a = a:=IntWalk.u64_in _ (by omega)
      simp only [Int.natCast_zero,Int.ofNat_eq_natCast,Int.add_zero,Int.cast_ofNat_Int] at *
      go_enter Tryz.func174,Tryz.ntmps174
      go_wp2_with fail
      refine CF.out.mono ?_
      rintro e w' ⟨x,ok,rfl,hh,k⟩
      have HH:=hid hh;clear hh
      have K:=hid k;clear k
      go_wp2_with fail
      go_ret2
      exact ⟨x,ok,rfl,HH.out,K.out⟩
def faultV (k x:Int):Value:=.agg #[.int .i64 k,.int .u64 x]
def FaultPost (w:World) (L:List Rg) (kind a:Int) (n:Nat) (p:Int) (e:Ending) (w':World):Prop:=∃ k x,e = .returned (faultV k x) ∧
  ((k = kind∧a ≤ x∧x < a + n∧¬ Can L p x∧∀ y,a ≤ y → y < x → Can L p y) ∨ (k = 0∧x = 0∧∀ y,a ≤ y → y < a + n → Can L p y))∧Bl w w'
theorem new2 (w w1:World) (x y:Value) (t:TypeId) (k:Bl (w.alloc (.cells #[x,y] t)) w1):w1.heap[w.heap.size]? = some (.cells #[x,y] t (0,0)):=k.at_ (heap_alloc_new w _)
theorem set2 {w:World} {g:Nat} {t:TypeId} {a b:Value} (x y:Value) (h:w.heap[g]? = some (.cells #[a,b] t (0,0))):((w.setCell ⟨g,0,none⟩ x).setCell ⟨g,1,none⟩ y).heap[g]? = some (.cells #[x,y] t (0,0)):=by
  have h1:=heap_setCell_same w g 0 _ t x h
  have h2:=heap_setCell_same (w.setCell ⟨g,0,none⟩ x) g 1 _ t y h1
  rw [h2];rfl
theorem fault_any {T:Nat → Prop} {w:World} {sb n0:Nat} {L:List Rg} {M st:Nat → Int} {mo ba en:Int} (h:MS T w sb n0 L M st mo ba en) (kind a:Int) (n:Nat) (p:Int) (h0:0 ≤ a) (h1:a ≤ 18446744073709551615) (hn:n = 1 ∨ n = 2 ∨ n = 4 ∨ n = 8) :
    Calls Tryz.prog 153 #[addr0 sb,.int .i64 kind,.int .u64 a,.int .i64 (n:Int),.int .i64 p] w (FaultPost w L kind a n p):=by
  have cw:=fun W=>width_yes (n:Int) W (by omega)
  have cl:=lack_any (h.bl (Bl.new w (.cells #[.int .i64 0,.int .u64 0] 31))) a n p h0 h1 (by omega)
  have CW:=hid cw;clear cw
  have CL:=hid cl;clear cl hn h
  unfold addr0 at *
  go_enter Tryz.func153,Tryz.ntmps153
  go_wp2_with fail
  refine (CW.out _).mono ?_
  rintro e w' ⟨rfl,rfl⟩
  go_wp2_with fail
  refine CL.out.mono ?_
  rintro e w1 ⟨x,ok,rfl,hh,k⟩
  have hb:=new2 w w1 _ _ _ k
  obtain ⟨d0,d1⟩:=two_cells hb
  have k1:=(Bl.new w (.cells #[.int .i64 0,.int .u64 0] 31)).trans k
  have f0:∀ i,w1.frozen? ⟨w.heap.size,i,none⟩ = false:=fun i=>by simp [World.frozen?,hb]
  have f00:=f0 0
  have f01:=f0 1
  have HB:=hid hb;clear hb
  have K1:=hid k1;clear k1 k f0
  rcases hh with ⟨rfl,hh⟩ | ⟨rfl,hx,hh⟩
  · have HH:=hid hh;clear hh
    go_wp2_with fail
    (try simp only [Exit.inBlock,Exit.then])
    refine bodyPost_ret (results_cell_row rfl _ _ w.heap.size 31 _ (0,0) _ rfl (set2 _ _ HB.out) Tryz.underlying31 rfl (by kernel_rfl)) rfl ?_
    exact ⟨kind,x,rfl,.inl ⟨rfl,HH.out⟩,(K1.out.set (Nat.le_refl _) _).set (Nat.le_refl _) _⟩
  · have HH:=hid hh;clear hh
    have HX:=hid hx;clear hx
    go_wp2_with fail
    (try simp only [Exit.inBlock,Exit.then])
    refine bodyPost_ret (results_cell_row rfl _ _ w.heap.size 31 _ (0,0) _ rfl (set2 _ _ HB.out) Tryz.underlying31 rfl (by kernel_rfl)) rfl ?_
    exact ⟨0,0,rfl,.inr ⟨rfl,rfl,HH.out⟩,(K1.out.set (Nat.le_refl _) _).set (Nat.le_refl _) _⟩
theorem probe_any {T:Nat → Prop} {w:World} {sb n0:Nat} {L:List Rg} {M st:Nat → Int} {mo ba en:Int} (h:MS T w sb n0 L M st mo ba en) (a:Int) (n:Nat) (h0:0 ≤ a) (h1:a ≤ 18446744073709551615) (hn:n = 1 ∨ n = 2 ∨ n = 4 ∨ n = 8) :
    Calls Tryz.prog 155 #[addr0 sb,.int .u64 a,.int .i64 (n:Int)] w (FaultPost w L 2 a n 2):=by
  have cf:=fault_any (h.bl (Bl.new w (.cells #[.int .i64 0,.int .u64 0] 31))) 2 a n 2 h0 h1 hn
  have CF:=hid cf;clear cf h
  unfold addr0 at *
  go_enter Tryz.func155,Tryz.ntmps155
  go_wp2_with fail
  refine CF.out.mono ?_
  rintro e w1 ⟨k,x,rfl,hh,kk⟩
  have hb:=new2 w w1 _ _ _ kk
  obtain ⟨d0,d1⟩:=two_cells hb
  have k1:=(Bl.new w (.cells #[.int .i64 0,.int .u64 0] 31)).trans kk
  have f0:∀ i,w1.frozen? ⟨w.heap.size,i,none⟩ = false:=fun i=>by simp [World.frozen?,hb]
  have f00:=f0 0
  have f01:=f0 1
  have HB:=hid hb;clear hb
  have K1:=hid k1;clear k1 kk f0
  have HH:=hid hh;clear hh
  unfold faultV
  go_wp2_with fail
  (try simp only [Exit.inBlock,Exit.then])
  refine bodyPost_ret (results_cell_row rfl _ _ w.heap.size 31 _ (0,0) _ rfl (set2 _ _ HB.out) Tryz.underlying31 rfl (by kernel_rfl)) rfl ?_
  exact ⟨k,x,rfl,HH.out,(K1.out.set (Nat.le_refl _) _).set (Nat.le_refl _) _⟩
theorem rd_row {w:World} {g:Nat} {xs:List Int} (h:w.heap[g]? = some (.cells (asBytes xs).toArray 5 (0,0))):Rd w (some ⟨g,0,none⟩) xs:=by
  intro h0
  refine ⟨_,rfl,fun i hi=>?_⟩
  have e1:(⟨g,0,none⟩:Addr).add i = ⟨g,i,none⟩:=by unfold Addr.add;split <;> simp_all
  rw [e1,cell_of_row w g i _ 5 (0,0) h]
  simp only [List.getElem?_toArray]
  rw [asBytes_at _ _ hi]
theorem bytesAt_bd {M:Nat → Int} (h:∀ x,0 ≤ M x∧M x ≤ 255) (a m:Nat):∀ k,0 ≤ (bytesAt M a m).getD k 0∧(bytesAt M a m).getD k 0 ≤ 255:=fun k=>by
  rw [List.getD_eq_getElem?_getD]
  by_cases hk:k < m
  · rw [bytesAt_get _ _ _ _ hk];exact h _
  · rw [List.getElem?_eq_none (by rw [bytesAt_length];omega)];simp
def numAt (M:Nat → Int) (a n:Nat):Int:=getS (bytesAt M a n) n
theorem number_any {T:Nat → Prop} {w:World} {sb n0:Nat} {L:List Rg} {M st:Nat → Int} {mo ba en:Int} (h:MS T w sb n0 L M st mo ba en) (a n:Nat) (ha:a < 2 ^ 64) (h1:1 ≤ n) (h8:n ≤ 8) :
    Calls Tryz.prog 154 #[addr0 sb,.int .u64 (a:Int),.int .i64 (n:Int)] w fun e w'=>e = .returned (.int .u64 (numAt M a n))∧Bl w w':=by
  obtain ⟨rg,f,k0,h2,_,_⟩:=h.ex
  have cr:=read_any h2 a n ha h1 (by omega)
  have hbd:=bytesAt_bd h.by_ a n
  have hlen:=bytesAt_length M a n
  have CR:=hid cr;clear cr h2 h
  have HBD:=hid hbd;clear hbd
  have HLEN:=hid hlen;clear hlen
  unfold addr0 numAt
  go_enter Tryz.func154,Tryz.ntmps154
  go_wp2_with fail
  refine CR.out.mono ?_
  rintro e w1 ⟨rfl,hb,k1⟩
  have RD:=hid (rd_row hb)
  have K1:=hid k1;clear k1 hb CR
  go_wp2_with fail
  refine (get_in _ n n _ n w1 RD.out HLEN.out (by omega) h1 h8 HBD.out).mono ?_
  rintro e w2 ⟨rfl,rfl⟩
  go_wp2_with fail
  go_ret
  exact ⟨rfl,K1.out⟩
theorem results_tmp_row {P:Program} {fn:Func} {p u:Tmp} {ty:TypeId} (h:fn.results = #[.tmp u,.cell p ty]) (tmps:Array Value) (w:World) (g:Nat) (t:TypeId) (cs:Array Value) (fr:Nat × Nat) (d:TypeDesc)
    (hp:tmps.getD p undef = .pointer (some ⟨g,0,none⟩)) (hg:w.heap[g]? = some (.cells cs t fr))
    (hu:P.underlying ty = some d) (hd:(match d with | .struct _ | .array _ _=>true | _=>false) = true) (hi:(P.info? ty).map (·.size) = some cs.size) :
    (results fn tmps).run P w = .ok (.tuple #[tmps.getD u undef,.agg cs]) w:=by
  have hp':tmps[p]?.getD undef = .pointer (some ⟨g,0,none⟩):=by simpa using hp
  simp [results,h,hp',asAddr,run_loadVar_row w g t ty cs fr d hg hu hd hi,Result.andThen]
def LoadPost (w:World) (L:List Rg) (M:Nat → Int) (a n:Nat) (e:Ending) (w':World):Prop:=∃ y k x,e = .returned (.tuple #[.int .u64 y,faultV k x]) ∧
  ((k = 1∧y = 0∧(a:Int) ≤ x∧x < a + n∧¬ Can L 1 x∧∀ z,(a:Int) ≤ z → z < x → Can L 1 z) ∨ (k = 0∧x = 0∧y = numAt M a n∧∀ z,(a:Int) ≤ z → z < a + n → Can L 1 z))∧Bl w w'
theorem load_any {T:Nat → Prop} {w:World} {sb n0:Nat} {L:List Rg} {M st:Nat → Int} {mo ba en:Int} (h:MS T w sb n0 L M st mo ba en) (a n:Nat) (ha:a < 2 ^ 64) (hn:n = 1 ∨ n = 2 ∨ n = 4 ∨ n = 8) :
    Calls Tryz.prog 127 #[addr0 sb,.int .u64 (a:Int),.int .i64 (n:Int)] w (LoadPost w L M a n):=by
  have cf:=fault_any (h.bl (Bl.new w (.cells #[.int .i64 0,.int .u64 0] 31))) 1 a n 1 (by omega) (by omega) hn
  have cn:=fun W (hW:Bl w W)=>number_any (h.bl hW) a n ha (by omega) (by omega)
  have CF:=hid cf;clear cf h
  have CN:=hid cn;clear cn
  unfold addr0 at *
  go_enter Tryz.func127,Tryz.ntmps127
  go_wp2_with fail
  refine CF.out.mono ?_
  rintro e w1 ⟨k,x,rfl,hh,kk⟩
  have hb:=new2 w w1 _ _ _ kk
  have k1:=(Bl.new w (.cells #[.int .i64 0,.int .u64 0] 31)).trans kk
  clear CF kk
  have HB:=hid hb;clear hb
  have K1:=hid k1;clear k1
  unfold faultV
  rcases hh with ⟨hk,hh⟩ | ⟨hk,hx,hh⟩
  · subst hk
    have HH:=hid hh;clear hh
    go_wp2_with fail
    have hb2:=(Bl.new w1 (.cells #[.int .i64 1,.int .u64 x] 31)).at_ HB.out
    obtain ⟨d0,d1⟩:=two_cells hb2
    obtain ⟨d2,d3⟩:=two_cells (heap_alloc_new w1 (.cells #[.int .i64 1,.int .u64 x] 31))
    have f0:∀ i,(w1.alloc (.cells #[.int .i64 1,.int .u64 x] 31)).frozen? ⟨w.heap.size,i,none⟩ = false:=fun i=>by simp [World.frozen?,hb2]
    have f00:=f0 0
    have f01:=f0 1
    have HB2:=hid hb2;clear hb2
    have K2:=hid (K1.out.alloc (.cells #[.int .i64 1,.int .u64 x] 31))
    clear HB K1 f0 CN
    generalize w1.alloc (.cells #[.int .i64 1,.int .u64 x] 31) = W at *
    go_region
    all_goals (
      (try go_wp2_with fail)
      (try simp only [Exit.inBlock,Exit.then])
      refine bodyPost_ret (results_tmp_row rfl _ _ w.heap.size 31 _ (0,0) _ rfl (set2 _ _ HB2.out) Tryz.underlying31 rfl (by kernel_rfl)) rfl ?_
      exact ⟨0,1,x,rfl,.inl ⟨rfl,rfl,HH.out⟩,(K2.out.drew.set (Nat.le_refl _) _).set (Nat.le_refl _) _⟩)
  · subst hk hx
    have HH:=hid hh;clear hh
    go_wp2_with fail
    refine (CN.out _ (K1.out.alloc _)).mono ?_
    rintro e w2 ⟨rfl,k2⟩
    have hb2:=k2.at_ ((Bl.new w1 (.cells #[.int .i64 0,.int .u64 0] 31)).at_ HB.out)
    obtain ⟨d0,d1⟩:=two_cells hb2
    have f0:∀ i,w2.frozen? ⟨w.heap.size,i,none⟩ = false:=fun i=>by simp [World.frozen?,hb2]
    have f00:=f0 0
    have f01:=f0 1
    have HB2:=hid hb2;clear hb2
    have K2:=hid ((K1.out.alloc (.cells #[.int .i64 0,.int .u64 0] 31)).trans k2)
    clear HB K1 f0 CN k2
    go_wp2_with fail
    (try simp only [Exit.inBlock,Exit.then])
    refine bodyPost_ret (results_tmp_row rfl _ _ w.heap.size 31 _ (0,0) _ rfl (set2 _ _ HB2.out) Tryz.underlying31 rfl (by kernel_rfl)) rfl ?_
    exact ⟨_,0,0,rfl,.inr ⟨rfl,rfl,rfl,HH.out⟩,(K2.out.set (Nat.le_refl _) _).set (Nat.le_refl _) _⟩
def StoreMPost (T:Nat → Prop) (w:World) (sb n0:Nat) (L:List Rg) (M st:Nat → Int) (mo ba en:Int) (a n:Nat) (x:Int) (e:Ending) (w':World):Prop:=∃ k y,e = .returned (faultV k y) ∧
  ((k = 2∧(a:Int) ≤ y∧y < a + n∧¬ Can L 2 y∧(∀ z,(a:Int) ≤ z → z < y → Can L 2 z)∧Bl w w') ∨
   (k = 0∧y = 0∧(∀ z,(a:Int) ≤ z → z < a + n → Can L 2 z)∧∃ st',MS T w' sb (n0 + 9) L (lay M a (putB x n)) st' mo ba en∧Rise st st' (fun p=>∃ x,a ≤ x∧x < a + n∧p = x / 4096)∧Fr T w w'))
theorem lay_bd {M:Nat → Int} (h:∀ x,0 ≤ M x∧M x ≤ 255) {cs:List Int} (hc:∀ k,0 ≤ cs.getD k 0∧cs.getD k 0 ≤ 255) (a:Nat):∀ x,0 ≤ lay M a cs x∧lay M a cs x ≤ 255:=fun x=>by
  simp only [lay]
  split
  · exact hc _
  · exact h x
theorem can_below {L:List Rg} (h:So 0 274877906944 L) {p:Int} {a n:Nat} (hc:∀ z,(a:Int) ≤ z → z < a + n → Can L p z) (hn:0 < n):a + n ≤ 274877906944:=by
  rcases Nat.lt_or_ge 274877906944 (a + n) with h1 | h1
  · exact absurd (hc (max a 274877906944) (by omega) (by omega)) (can_top h (by omega))
  · exact h1
theorem mwrite_any {T:Nat → Prop} {w:World} {sb n0:Nat} {L:List Rg} {M st:Nat → Int} {mo ba en:Int} (h:MS T w sb n0 L M st mo ba en) (a:Nat) (A:Option Addr) (len cap:Nat) (xs:List Int) (hr:Rd w A xs) (hl:xs.length = len) (hlc:len ≤ cap) (hb:∀ k,0 ≤ xs.getD k 0∧xs.getD k 0 ≤ 255)
    (hA:0 < len → ∀ ad,A = some ad → ¬ T ad.block) (ha:a + len ≤ 274877906944) (hlen:len ≤ 4194304) (hn:n0 < 90000000) (hT:∀ b,w.heap.size ≤ b → T b) :
    Calls Tryz.prog 48 #[.pointer (some ⟨sb,1,none⟩),.int .u64 (a:Int),.slice A len cap] w fun e w'=>e = .returned (.tuple #[])∧∃ st',MS T w' sb (n0 + 3 * pagesOf a len) L (lay M a xs) st' mo ba en∧Rise st st' (fun p=>∃ x,a ≤ x∧x < a + len∧p = x / 4096)∧Fr T w w':=by
  obtain ⟨rg,f,k0,h1,h2,h3⟩:=h.ex
  have hroom:room a len = len:=by unfold room;omega
  have cw:=write_any h1 a A len cap xs hr hl hlc (fun h0 ad had e=>hA h0 ad had e.1) (by omega) hlen hn (off_new h2 hT)
  rw [hroom,List.take_of_length_le (by omega)] at cw
  refine cw.mono ?_
  rintro e w' ⟨rfl,f',k',st',h4,hf,_,hr4⟩
  rw [hl] at h4 hr4
  refine ⟨rfl,st',h.stored h2 h3 h4 hf (lay_bd h.by_ hb a),hr4.mono fun p hp=>?_,hf.off_of⟩
  obtain ⟨x,x1,x2,rfl⟩:=hp
  unfold pagesOf
  rw [if_neg (by omega)]
  omega
end Go.Proofs.YtlhpodholnfppaaGreatDoor

namespace Go.Proofs.YtlhpodholnfppaaGreatDoor
open Go.RowKit
set_option maxRecDepth 100000
theorem rd_lt {w:World} {A:Option Addr} {xs:List Int} (h:Rd w A xs) (h0:0 < xs.length) {ad:Addr} (e:A = some ad):ad.block < w.heap.size:=by
  obtain ⟨a2,h1,h2⟩:=h h0
  rw [e] at h1;cases h1
  have:=block_lt_of_cell (h2 0 h0)
  rwa [add_block] at this
theorem mstore_any {T:Nat → Prop} {w:World} {sb n0:Nat} {L:List Rg} {M st:Nat → Int} {mo ba en:Int} (h:MS T w sb n0 L M st mo ba en) (a n:Nat) (x:Int) (ha:a < 2 ^ 64) (hn:n = 1 ∨ n = 2 ∨ n = 4 ∨ n = 8) (hn0:n0 < 80000000) (hT:∀ b,w.heap.size ≤ b → T b) :
    Calls Tryz.prog 130 #[addr0 sb,.int .u64 (a:Int),.int .i64 (n:Int),.int .u64 x] w (StoreMPost T w sb n0 L M st mo ba en a n x):=by
  have cf:=probe_any (h.bl (Bl.new w (.cells #[.int .i64 0,.int .u64 0] 31))) a n (by omega) (by omega) hn
  have cp:=fun W=>put_in none 0 0 [] x n W (Rd.nil_) rfl (by omega) (by omega) (by omega)
  simp only [List.nil_append,Nat.zero_add] at cp
  have CF:=hid cf;clear cf
  have CP:=hid cp;clear cp
  have H:=hid h;clear h
  have HT:=hid hT;clear hT
  have HN:=hid hn;clear hn
  unfold addr0 at *
  go_enter Tryz.func130,Tryz.ntmps130
  go_wp2_with fail
  refine CF.out.mono ?_
  rintro e w1 ⟨k,y,rfl,hh,kk⟩
  have hb:=new2 w w1 _ _ _ kk
  have k1:=(Bl.new w (.cells #[.int .i64 0,.int .u64 0] 31)).trans kk
  clear CF kk
  have HB:=hid hb;clear hb
  have K1:=hid k1;clear k1
  unfold faultV
  rcases hh with ⟨hk,hh⟩ | ⟨hk,hx,hh⟩
  · subst hk
    have HH:=hid hh;clear hh
    have hb2:=(Bl.new w1 (.cells #[.int .i64 2,.int .u64 y] 31)).at_ HB.out
    obtain ⟨d0,d1⟩:=two_cells hb2
    obtain ⟨d2,d3⟩:=two_cells (heap_alloc_new w1 (.cells #[.int .i64 2,.int .u64 y] 31))
    have f0:∀ i,(w1.alloc (.cells #[.int .i64 2,.int .u64 y] 31)).frozen? ⟨w.heap.size,i,none⟩ = false:=fun i=>by simp [World.frozen?,hb2]
    have f00:=f0 0
    have f01:=f0 1
    have HB2:=hid hb2;clear hb2
    have K2:=hid (K1.out.alloc (.cells #[.int .i64 2,.int .u64 y] 31))
    clear HB K1 f0 CP
    go_wp2_with fail
    (try simp only [Exit.inBlock,Exit.then])
    refine bodyPost_ret (results_cell_row rfl _ _ w.heap.size 31 _ (0,0) _ rfl (set2 _ _ HB2.out) Tryz.underlying31 rfl (by kernel_rfl)) rfl ?_
    exact ⟨2,y,rfl,.inl ⟨rfl,HH.out.1,HH.out.2.1,HH.out.2.2.1,HH.out.2.2.2,(K2.out.set (Nat.le_refl _) _).set (Nat.le_refl _) _⟩⟩
  · subst hk hx
    have htop:=can_below H.out.so hh (by have:=HN.out;omega)
    have HH:=hid hh;clear hh
    have HTOP:=hid htop;clear htop
    go_wp2_with fail
    have K2:=hid (K1.out.alloc (.cells #[.int .i64 0,.int .u64 0] 31))
    have HB2:=hid ((Bl.new w1 (.cells #[.int .i64 0,.int .u64 0] 31)).at_ HB.out)
    clear HB K1
    generalize w1.alloc (.cells #[.int .i64 0,.int .u64 0] 31) = W at *
    go_region_with (first | (go_at_call 156;refine (CP.out _).mono ?_;rintro e w9 ⟨B,c,rfl,rd9,k9,hc9,hb9⟩) | (go_at_call 48;have k10:=K2.out.trans ((Bl.refl W).drew.trans k9);have hbk:∀ ad,B = some ad → w.heap.size ≤ ad.block:=(fun ad e=>Nat.le_trans K2.out.size (hb9 ad e));refine (mwrite_any (H.out.gap k10 w.heap.size w9.heap.size (Nat.le_refl _)) a B n c (putB x n) rd9 (putB_length x n) hc9 (putB_bd x n) (fun h0 ad e e2=>e2.2 ⟨hbk ad e,rd_lt rd9 (by rw [putB_length];exact h0) e⟩) HTOP.out (by have:=HN.out;omega) (by omega) (gap_new HT.out w.heap.size k10.size)).mono ?_;rintro e w11 ⟨rfl,st',h11,r11,f11⟩))
    all_goals (
      have hb3:=f11.at_ (((Bl.refl W).drew.trans k9).at_ HB2.out) (fun e=>e.2 ⟨Nat.le_refl _,by have:=lt_at HB2.out;have:=((Bl.refl W).drew.trans k9).size;omega⟩)
      obtain ⟨d0,d1⟩:=two_cells hb3
      have f0:∀ i,w11.frozen? ⟨w.heap.size,i,none⟩ = false:=fun i=>by simp [World.frozen?,hb3]
      have f00:=f0 0
      have f01:=f0 1
      have HB3:=hid hb3;clear hb3
      have h12:=h11.kept ((Fr.set (S:=only w.heap.size) (p:=⟨w.heap.size,0,none⟩) rfl (.int .i64 0)).trans (Fr.set (S:=only w.heap.size) (p:=⟨w.heap.size,1,none⟩) rfl (.int .u64 0))) (fun b e e2=>e.2 ⟨by rw [show b = w.heap.size from e2];exact Nat.le_refl _,by rw [show b = w.heap.size from e2];have:=H.out.lt;have:=lt_at HB2.out;have:=((Bl.refl W).drew.trans k9).size;omega⟩)
      have f12:Fr T w ((w11.setCell ⟨w.heap.size,0,none⟩ (.int .i64 0)).setCell ⟨w.heap.size,1,none⟩ (.int .u64 0)):=(((Fr.of_bl k10).trans f11.ungap).trans (Fr.set (HT.out _ (Nat.le_refl _)) _)).trans (Fr.set (HT.out _ (Nat.le_refl _)) _)
      have H12:=hid (h12.ungap.mono (m:=n0 + 9) (by have:=HN.out;unfold pagesOf;split <;> omega))
      have F12:=hid f12
      have R11:=hid r11
      clear h12 f12 h11 f11 r11 rd9 k9 hb9 hbk k10 f0 CP
      go_wp2_with fail
      (try simp only [Exit.inBlock,Exit.then])
      refine bodyPost_ret (results_cell_row rfl _ _ w.heap.size 31 _ (0,0) _ rfl (set2 _ _ HB3.out) Tryz.underlying31 rfl (by kernel_rfl)) rfl ?_
      exact ⟨0,0,rfl,.inr ⟨rfl,rfl,HH.out,st',H12.out,R11.out,F12.out⟩⟩)
end Go.Proofs.YtlhpodholnfppaaGreatDoor

namespace Go.Proofs.YtlhpodholnfppaaGreatDoor
open Go.RowKit
set_option maxRecDepth 100000
theorem results_tmp_rows {P:Program} {fn:Func} {p q u:Tmp} {ty tz:TypeId} (h:fn.results = #[.tmp u,.cell p ty,.cell q tz]) (tmps:Array Value) (w:World) (g g':Nat) (t t':TypeId) (cs cs':Array Value) (fr fr':Nat × Nat) (d d':TypeDesc)
    (hp:tmps.getD p undef = .pointer (some ⟨g,0,none⟩)) (hg:w.heap[g]? = some (.cells cs t fr))
    (hu:P.underlying ty = some d) (hd:(match d with | .struct _ | .array _ _=>true | _=>false) = true) (hi:(P.info? ty).map (·.size) = some cs.size)
    (hp2:tmps.getD q undef = .pointer (some ⟨g',0,none⟩)) (hg2:w.heap[g']? = some (.cells cs' t' fr'))
    (hu2:P.underlying tz = some d') (hd2:(match d' with | .struct _ | .array _ _=>true | _=>false) = true) (hi2:(P.info? tz).map (·.size) = some cs'.size) :
    (results fn tmps).run P w = .ok (.tuple #[tmps.getD u undef,.agg cs,.agg cs']) w:=by
  have hp':tmps[p]?.getD undef = .pointer (some ⟨g,0,none⟩):=by simpa using hp
  have hp2':tmps[q]?.getD undef = .pointer (some ⟨g',0,none⟩):=by simpa using hp2
  simp [results,h,hp',hp2',asAddr,run_loadVar_row w g t ty cs fr d hg hu hd hi,run_loadVar_row w g' t' tz cs' fr' d' hg2 hu2 hd2 hi2,Result.andThen]
def holdV (a n:Int):Value:=.agg #[.int .u64 a,.int .i64 n]
def stopV (k fk fa:Int):Value:=.agg #[.int .i64 k,.int .i64 fk,.int .u64 fa]
theorem three_new (w:World) (a b c:Obj):(((w.alloc a).alloc b).alloc c).heap[w.heap.size]? = some a∧(((w.alloc a).alloc b).alloc c).heap[w.heap.size + 1]? = some b∧(((w.alloc a).alloc b).alloc c).heap[w.heap.size + 2]? = some c:=by
  refine ⟨(Bl.new _ _).at_ ((Bl.new _ _).at_ (heap_alloc_new w a)),(Bl.new _ _).at_ ?_,?_⟩
  · have:=heap_alloc_new (w.alloc a) b
    rwa [show (w.alloc a).heap.size = w.heap.size + 1 by simp] at this
  · have:=heap_alloc_new ((w.alloc a).alloc b) c
    rwa [show ((w.alloc a).alloc b).heap.size = w.heap.size + 2 by simp] at this
theorem row2 {w:World} {g:Nat} {t:TypeId} {a b:Value} (h:w.heap[g]? = some (.cells #[a,b] t (0,0))):w.cell? ⟨g,0,none⟩ = some a∧w.cell? ⟨g,1,none⟩ = some b∧w.frozen? ⟨g,0,none⟩ = false∧w.frozen? ⟨g,1,none⟩ = false:=by
  refine ⟨?_,?_,?_,?_⟩ <;> simp [World.cell?,World.frozen?,h]
theorem row3 {w:World} {g:Nat} {t:TypeId} {a b c:Value} (h:w.heap[g]? = some (.cells #[a,b,c] t (0,0))):w.cell? ⟨g,0,none⟩ = some a∧w.cell? ⟨g,1,none⟩ = some b∧w.cell? ⟨g,2,none⟩ = some c∧w.frozen? ⟨g,0,none⟩ = false∧w.frozen? ⟨g,1,none⟩ = false∧w.frozen? ⟨g,2,none⟩ = false:=by
  refine ⟨?_,?_,?_,?_,?_,?_⟩ <;> simp [World.cell?,World.frozen?,h]
theorem oth {w:World} {p:Addr} {k:Nat} {o:Obj} (h:w.heap[k]? = some o) (hne:p.block ≠ k) (u:Value):(w.setCell p u).heap[k]? = some o:=by
  rw [Below.heap_setCell _ _ _ _ hne.symm];exact h
theorem Fr.newCell {S:Nat → Prop} {w0 w:World} (f:Fr S w0 w) {p:Addr} (hp:w0.heap.size ≤ p.block) (u:Value):Fr S w0 (w.setCell p u):=
  ⟨f.os,f.tape,f.output,by simpa [World.setCell] using f.size,fun k hk hn=>by rw [Below.heap_setCell _ _ _ _ (by omega)];exact f.block k hk hn⟩
theorem set_both {S:Nat → Prop} {w0 w:World} {g g2:Nat} {a b c d e:Value} {t t2:TypeId} (hne:g ≠ g2) (h:w.heap[g]? = some (.cells #[a,b] t (0,0))) (h2:w.heap[g2]? = some (.cells #[c,d,e] t2 (0,0))) (x y p q r:Value) (f:Fr S w0 w) (hg:w0.heap.size ≤ g) (hg2:w0.heap.size ≤ g2) :
    (((((w.setCell ⟨g,0,none⟩ x).setCell ⟨g,1,none⟩ y).setCell ⟨g2,0,none⟩ p).setCell ⟨g2,1,none⟩ q).setCell ⟨g2,2,none⟩ r).heap[g]? = some (.cells #[x,y] t (0,0)) ∧
    (((((w.setCell ⟨g,0,none⟩ x).setCell ⟨g,1,none⟩ y).setCell ⟨g2,0,none⟩ p).setCell ⟨g2,1,none⟩ q).setCell ⟨g2,2,none⟩ r).heap[g2]? = some (.cells #[p,q,r] t2 (0,0)) ∧
    Fr S w0 (((((w.setCell ⟨g,0,none⟩ x).setCell ⟨g,1,none⟩ y).setCell ⟨g2,0,none⟩ p).setCell ⟨g2,1,none⟩ q).setCell ⟨g2,2,none⟩ r):=by
  have h3:=set2 x y h
  have h4:=oth (oth h2 (p:=⟨g,0,none⟩) (fun e=>hne e) x) (p:=⟨g,1,none⟩) (fun e=>hne e) y
  have ne2:g2 ≠ g:=fun e=>hne e.symm
  exact ⟨oth (oth (oth h3 (p:=⟨g2,0,none⟩) (fun e=>ne2 e) p) (p:=⟨g2,1,none⟩) (fun e=>ne2 e) q) (p:=⟨g2,2,none⟩) (fun e=>ne2 e) r,set3 p q r h4,
    ((((f.newCell (p:=⟨g,0,none⟩) hg x).newCell (p:=⟨g,1,none⟩) hg y).newCell (p:=⟨g2,0,none⟩) hg2 p).newCell (p:=⟨g2,1,none⟩) hg2 q).newCell (p:=⟨g2,2,none⟩) hg2 r⟩
theorem faulty_any (k x:Int) (w:World):Calls Tryz.prog 177 #[faultV k x] w fun e w'=>e = .returned (.tuple #[.int .u64 0,holdV 0 0,stopV 4 k x])∧Bl w w':=by
  unfold faultV
  go_enter Tryz.func177,Tryz.ntmps177
  go_wp2_with fail
  go_region
  all_goals (
    (try go_wp2_with fail)
    (try simp only [Exit.inBlock,Exit.then])
    have hh:=three_new w (.cells #[.int .i64 k,.int .u64 x] 31) (.cells #[.int .u64 0,.int .i64 0] 45) (.cells #[.int .i64 4,.int .i64 k,.int .u64 x] 33)
    refine bodyPost_ret (results_tmp_rows rfl _ _ (w.heap.size + 1) (w.heap.size + 1 + 1) 45 33 _ _ (0,0) (0,0) _ _ rfl (hh.2.1) Tryz.underlying45 rfl (by kernel_rfl) rfl (hh.2.2) Tryz.underlying33 rfl (by kernel_rfl)) rfl ?_
    exact ⟨rfl,((((Bl.refl w).alloc _).alloc _).alloc _).drew⟩)
theorem filled_any (a n x:Int) (w:World) (hn:n = 4 ∨ n = 8):Calls Tryz.prog 178 #[holdV a n,.int .u64 x] w fun e w'=>e = .returned (.int .u64 (sextI x (8 * n)))∧Bl w w':=by
  have cs:=fun w=>sext_any x (8 * n) w
  have CS:=hid cs;clear cs
  unfold holdV
  have h0:0 ≤ n:=by omega
  have h1:n ≤ 8:=by omega
  clear hn
  go_enter Tryz.func178,Tryz.ntmps178
  go_wp2_with fail
  with_reducible refine (CS.out _).mono ?_
  rintro e w' ⟨rfl,rfl⟩
  go_wp2_with fail
  go_ret
  exact ⟨rfl,Bl.new _ _⟩
end Go.Proofs.YtlhpodholnfppaaGreatDoor
