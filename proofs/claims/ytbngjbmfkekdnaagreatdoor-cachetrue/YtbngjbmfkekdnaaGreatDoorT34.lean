/-
  The law's acts that came in; both spaces and both caches as the law holds them.
  How CacheTrue's law lays both spaces.
  The walk of CacheTrue.
-/
import Derived.Test.YtbngjbmfkekdnaaGreatDoorT33
import Derived.Test.YtbngjbmfkekdnaaGreatDoorT11
import Derived.Deep.CutRange
import Derived.Deep.CutBlock
import Derived.Lib.Hide
set_option linter.unusedVariables false
set_option linter.unusedSimpArgs false
set_option maxHeartbeats 16000000
open Go.Lib (hid)
namespace Go.Proofs.YtbngjbmfkekdnaaGreatDoor
open Go.RowKit Go.ChangeShapes Go.WideShapes Go.Deep
set_option maxRecDepth 100000
theorem and7_bd (p:Int):0 ≤ bits .and .i64 p 7∧bits .and .i64 p 7 ≤ 7:=by
  have hlt:(BitVec.ofInt 64 p &&& BitVec.ofInt 64 7).toNat ≤ 7:=by
    rw [BitVec.toNat_and,show (BitVec.ofInt 64 7).toNat = 7 by decide]
    exact Nat.and_le_right
  have h:bits .and .i64 p 7 = IntKind.i64.wrap ((BitVec.ofInt 64 p &&& BitVec.ofInt 64 7).toNat:Int):=rfl
  rw [h]
  generalize (BitVec.ofInt 64 p &&& BitVec.ofInt 64 7).toNat = z at *
  rw [IntKind.wrap_i64]
  omega
def ActsT (w:World) (a:Option Addr) (len:Nat):Prop:=0 < len → ∃ b off,a = some ⟨b,off,none⟩∧b < w.heap.size∧∀ k,k < len → ∃ (d p ad x:Int),
  w.cell? ⟨b,off + k * 4,none⟩ = some (.int .i64 d)∧w.cell? ⟨b,off + k * 4 + 1,none⟩ = some (.int .i64 p)∧w.cell? ⟨b,off + k * 4 + 2,none⟩ = some (.int .u32 ad)∧w.cell? ⟨b,off + k * 4 + 3,none⟩ = some (.int .u64 x)∧(0 ≤ ad∧ad ≤ 4294967295)∧(0 ≤ x∧x ≤ 18446744073709551615)
theorem ActsT.bl {w w':World} {a:Option Addr} {len:Nat} (h:ActsT w a len) (k:Bl w w'):ActsT w' a len:=fun h0=>by
  obtain ⟨b,off,h1,hb,h2⟩:=h h0
  exact ⟨b,off,h1,Nat.lt_of_lt_of_le hb k.size,fun j hj=>by
    obtain ⟨d,p,ad,x,c0,c1,c2,c3,r⟩:=h2 j hj
    exact ⟨d,p,ad,x,k.cell' c0,k.cell' c1,k.cell' c2,k.cell' c3,r⟩⟩
theorem actT_fields {H:Type} {enc:TypeId × Value → H} {w:World} {base:Nat} {spare:Nat → Bool} {held:Bool} {fuel:Nat} {cs:List Value} {x:DataW H × List MemPlace} (h:DataW.trod enc Tryz.prog w base spare held fuel 39 cs = some x) :
    ∃ (d p ad x:Int),cs = [.int .i64 d,.int .i64 p,.int .u32 ad,.int .u64 x]∧(0 ≤ ad∧ad ≤ 4294967295)∧(0 ≤ x∧x ≤ 18446744073709551615):=by
  obtain ⟨xs,n,_,_,hlen,hxl,hf⟩:=DataW.trod_struct Tryz.underlying39 h
  have hc3:Tryz.prog.cellsOf 39 = 4:=by kernel_rfl
  have c3:Tryz.prog.cellsOf 3 = 1:=by kernel_rfl
  have c4:Tryz.prog.cellsOf 37 = 1:=by kernel_rfl
  have c5:Tryz.prog.cellsOf 29 = 1:=by kernel_rfl
  rw [hc3] at hlen
  match cs,hlen with
  | [v0,v1,v2,v3],_ =>
    match xs,hxl with
    | [x0,x1,x2,x3],_ =>
      have h0:DataW.trod enc Tryz.prog w base spare held n 3 [v0] = some x0:=by simpa [c3] using hf 0 _ rfl
      have h1:DataW.trod enc Tryz.prog w base spare held n 3 [v1] = some x1:=by simpa [c3] using hf 1 _ rfl
      have h2:DataW.trod enc Tryz.prog w base spare held n 37 [v2] = some x2:=by simpa [c3,c4] using hf 2 _ rfl
      have h3:DataW.trod enc Tryz.prog w base spare held n 29 [v3] = some x3:=by simpa [c3,c4,c5] using hf 3 _ rfl
      obtain ⟨d,e0,_⟩:=DataW.trod_int Tryz.underlying3 h0
      obtain ⟨p,e1,_⟩:=DataW.trod_int Tryz.underlying3 h1
      obtain ⟨ad,e2,g2⟩:=DataW.trod_int Tryz.underlying37 h2
      obtain ⟨y,e3,g3⟩:=DataW.trod_int Tryz.underlying29 h3
      cases e0;cases e1;cases e2;cases e3
      exact ⟨d,p,ad,y,rfl,u32_in g2.2,u64_wf g3.2⟩
theorem open_actsT {H:Type} {enc:TypeId × Value → H} {w:World} {base:Nat} {spare:Nat → Bool} {held:Bool} {fuel len cap:Nat} {a:Option Addr} {x:DataW H × List MemPlace} (h:DataW.trod enc Tryz.prog w base spare held fuel 23 [.slice a len cap] = some x) :
    ActsT w a len∧len ≤ 9223372036854775807:=by
  rcases open_slice Tryz.underlying23 h with ⟨h1,_⟩ | ⟨ad,l,c,m,n,D,Pl,h1,h2,h3,h4,h5,h6,h7⟩
  · injection h1 with h1
    injection h1 with e1 e2
    subst e1 e2
    exact ⟨fun h=>absurd h (by omega),by omega⟩
  · injection h1 with h1
    injection h1 with e1 e2 e3
    subst e1 e2 e3
    have hc3:Tryz.prog.cellsOf 39 = 4:=by kernel_rfl
    have hm:len ≤ m:=by rw [h5];split <;> omega
    have key:∀ k,k < len → ∃ (d p ad' x:Int),(∀ j,j < 4 → w.cell? ((ad.add (k * 4)).add j) = [Value.int .i64 d,.int .i64 p,.int .u32 ad',.int .u64 x][j]?)∧(0 ≤ ad'∧ad' ≤ 4294967295)∧(0 ≤ x∧x ≤ 18446744073709551615):=fun k hk=>by
      obtain ⟨cs,hcs,hts⟩:=h7 k (by omega)
      rw [hc3] at hcs
      obtain ⟨d,p,ad',x,rfl,r⟩:=actT_fields hts
      obtain ⟨_,_,hat⟩:=World.cells?_some hcs
      exact ⟨d,p,ad',x,hat,r⟩
    refine ⟨fun h0=>?_,by simp only [maxLen] at h4;omega⟩
    obtain ⟨b,off,spot⟩:=ad
    have hspot:spot = none∧b < w.heap.size:=by
      obtain ⟨d,p,ad',x,hat,_⟩:=key 0 h0
      have h8:=hat 0 (by omega)
      simp only [Nat.zero_mul,List.getElem?_cons_zero] at h8
      have h9:spot = none:=by simpa [Addr.add] using World.cell?_spot h8
      subst h9
      refine ⟨rfl,?_⟩
      rcases Nat.lt_or_ge b w.heap.size with h10 | h10
      · exact h10
      · have h11:w.heap[b]? = none:=Array.getElem?_eq_none h10
        simp [Addr.add,World.cell?,h11] at h8
    obtain ⟨hspot,hbl⟩:=hspot
    subst hspot
    refine ⟨b,off,rfl,hbl,fun k hk=>?_⟩
    obtain ⟨d,p,ad',x,hat,r⟩:=key k hk
    have e:∀ j,((⟨b,off,none⟩:Addr).add (k * 4)).add j = ⟨b,off + k * 4 + j,none⟩:=fun j=>by
      unfold Addr.add;by_cases a0:k * 4 = 0 <;> by_cases b0:j = 0 <;> simp [a0,b0]
    simp only [e] at hat
    exact ⟨d,p,ad',x,hat 0 (by omega),hat 1 (by omega),hat 2 (by omega),hat 3 (by omega),r⟩
theorem Inv.step {sb:Nat} {L L':List Rg} {M M' st st':Nat → Int} {g:Nat → Option Ent} (h:Inv (oneR sb L M st) g) (hs:Step L L' M M' st st') (hl:Al L) (hl':Al L') (hb:∀ x,0 ≤ M x∧M x ≤ 255):Inv (oneR sb L' M' st') g:=fun p e he=>by
  obtain ⟨h1,h2,⟨L0,M0,s0,hr⟩,h4⟩:=h p e he
  refine ⟨h1,h2,⟨L',M',st',hr.1,rfl,rfl,rfl⟩,fun L1 M1 s1 hr1=>?_⟩
  obtain ⟨_,e1,e2,e3⟩:=hr1
  subst e1 e2 e3
  obtain ⟨g1,g2,g3⟩:=h4 L M st ⟨hr.1,rfl,rfl,rfl⟩
  have hz:e.i.sz.toNat = 2 ∨ e.i.sz.toNat = 4:=by omega
  have hp1:=hs (p / 4096) (by omega)
  have hp2:=hs ((p + e.i.sz.toNat - 1) / 4096) (by omega)
  refine ⟨by omega,by omega,fun q1 q2=>?_⟩
  have ag:∀ y,st y = s1 y → (st y ≤ s1 y∧(((∃ x:Nat,x / 4096 = y∧M1 x ≠ M x) ∨ (∃ q,¬ (In L ((y:Int) * 4096) q ↔ In L1 ((y:Int) * 4096) q))) → st y < s1 y)) → Agree L L1 M M1 y:=fun y hy hst=>by
    have hno:¬ ((∃ x:Nat,x / 4096 = y∧M1 x ≠ M x) ∨ (∃ q,¬ (In L ((y:Int) * 4096) q ↔ In L1 ((y:Int) * 4096) q))):=fun h=>by have:=hst.2 h;omega
    refine ⟨fun x hx=>?_,fun q=>?_⟩
    · apply Classical.byContradiction
      intro hne
      exact hno (.inl ⟨x,hx,hne⟩)
    · apply Classical.byContradiction
      intro hne
      exact hno (.inr ⟨q,hne⟩)
  exact (g3 (by omega) (by omega)).keep hl hl' (ag _ (by omega) hp1) (ag _ (by omega) hp2) hb
structure CS (w0:World) (K:Nat → Prop) (sb rb cb B ob n:Nat) (L:List Rg) (M st:Nat → Int) (w:World):Prop where
  two:TwoA K w sb rb n L M st L M
  in_:In20 L
  on_:∃ g q,CA w cb B g q∧q ≤ 4096∧Inv (oneR sb L M st) g
  off_:COff w ob
  bl:Bl w0 w
structure KK (w0:World) (K:Nat → Prop) (cb B ob:Nat):Prop where
  old:∀ b,b < w0.heap.size → K b
  cb_:K cb
  B_:K B
  ob_:K ob
  Bnew:w0.heap.size ≤ B
  ne:ob ≠ B
  tab:Td.TabsS w0
section
variable {w0 w w':World} {K:Nat → Prop} {sb rb cb B ob n:Nat} {L:List Rg} {M st:Nat → Int}
theorem CS.bl' (h:CS w0 K sb rb cb B ob n L M st w) (k:Bl w w'):CS w0 K sb rb cb B ob n L M st w':=by
  obtain ⟨g,q,h1,h2,h3⟩:=h.on_
  exact ⟨Two.blK h.two k,h.in_,⟨g,q,h1.bl k,h2,h3⟩,h.off_.bl k,h.bl.trans k⟩
theorem CS.less (h:CS w0 K sb rb cb B ob n L M st w) {J:Nat → Prop} (hJ:∀ b,J b → K b):CS w0 J sb rb cb B ob n L M st w:=⟨h.two.less hJ,h.in_,h.on_,h.off_,h.bl⟩
theorem KK.tabs (hk:KK w0 K cb B ob) (h:CS w0 K sb rb cb B ob n L M st w):Td.TabsS w:=hk.tab.bl h.bl
theorem KK.B21 (hk:KK w0 K cb B ob):21 ≤ B:=by
  have h1:20 < w0.heap.size:=hk.tab.lt (by decide)
  have:=hk.Bnew
  omega
theorem CS.turn (hk:KK w0 K cb B ob) (h:CS w0 K sb rb cb B ob n L M st w) {g:Nat → Option Ent} {q:Nat} (h1:CA w' cb B g q) (h2:q ≤ 4096) (h3:Inv (oneR sb L M st) g) (f:Fr (only B) w w'):CS w0 K sb rb cb B ob n L M st w':=
  ⟨(Two.frK h.two f (fun b _ e=>by rw [show b = B from e];exact hk.B_)).less fun b hb=>.inl hb,h.in_,⟨g,q,h1,h2,h3⟩,h.off_.fr f (fun e=>hk.ne e),bl_new h.bl f (fun x hx=>by rw [show x = B from hx];exact hk.Bnew)⟩
theorem cs_on (hk:KK w0 K cb B ob) (h:CS w0 K sb rb cb B ob n L M st w) (pc:Nat) (hpc:pc < 2 ^ 64) :
    Calls Tryz.prog 23 #[addr0 cb,addr0 sb,.int .u64 (pc:Int)] w fun e w'=>∃ A,AnsIs L M pc A∧e = .returned A.v∧CS w0 K sb rb cb B ob n L M st w':=by
  obtain ⟨T1,T2,P,h1,h2,h3,h4,h5,h6⟩:=h.two.ex
  obtain ⟨g,q,c1,c2,c3⟩:=h.on_
  refine (fetch_on c1 c2 c3 (oneR_sole sb L M st) (oneR_blocks h1) (h5 B hk.B_).1 hk.B21 h1 (hk.tabs h) pc hpc).mono ?_
  rintro e w' ⟨A,hA,rfl,⟨g',q',d1,d2,d3⟩,f⟩
  exact ⟨A,hA,rfl,CS.turn hk h d1 d2 d3 f⟩
theorem cs_off (hk:KK w0 K cb B ob) (h:CS w0 K sb rb cb B ob n L M st w) (pc:Nat) (hpc:pc < 2 ^ 64) :
    Calls Tryz.prog 23 #[addr0 ob,addr0 sb,.int .u64 (pc:Int)] w fun e w'=>∃ A,AnsIs L M pc A∧e = .returned A.v∧CS w0 K sb rb cb B ob n L M st w'∧Bl w w':=by
  obtain ⟨T1,T2,P,h1,h2,h3,h4,h5,h6⟩:=h.two.ex
  refine (fetch_off h.off_ h1 (hk.tabs h) pc hpc).mono ?_
  rintro e w' ⟨A,hA,rfl,k⟩
  exact ⟨A,hA,rfl,h.bl' k,k⟩
theorem cs_nil (hk:KK w0 K cb B ob) (h:CS w0 K sb rb cb B ob n L M st w) (pc:Nat) (hpc:pc < 2 ^ 64) :
    Calls Tryz.prog 23 #[.pointer none,addr0 sb,.int .u64 (pc:Int)] w fun e w'=>∃ A,AnsIs L M pc A∧e = .returned A.v∧CS w0 K sb rb cb B ob n L M st w'∧Bl w w':=by
  obtain ⟨T1,T2,P,h1,h2,h3,h4,h5,h6⟩:=h.two.ex
  refine (fetch_nil h1 (hk.tabs h) pc hpc).mono ?_
  rintro e w' ⟨A,hA,rfl,k⟩
  exact ⟨A,hA,rfl,h.bl' k,k⟩
theorem cs_inst (hk:KK w0 K cb B ob) (h:CS w0 K sb rb cb B ob n L M st w) (pc:Nat) (hpc:pc < 2 ^ 64) :
    Calls Tryz.prog 24 #[addr0 rb,.int .u64 (pc:Int)] w fun e w'=>∃ A,AnsIs L M pc A∧e = .returned A.v∧CS w0 K sb rb cb B ob n L M st w'∧Bl w w':=by
  obtain ⟨T1,T2,P,h1,h2,h3,h4,h5,h6⟩:=h.two.ex
  refine (rinst_any h2 pc hpc).mono ?_
  rintro e w' ⟨A,hA,rfl,k⟩
  rw [h3] at hA
  exact ⟨A,hA,rfl,h.bl' k,k⟩
theorem cs_len (h:CS w0 K sb rb cb B ob n L M st w):Calls Tryz.prog 22 #[addr0 cb] w fun e w'=>∃ q:Int,e = .returned (.int .i64 q)∧q ≤ 4096∧w = w':=by
  obtain ⟨g,q,c1,c2,c3⟩:=h.on_
  refine (clen_on c1).mono ?_
  rintro e w' ⟨rfl,rfl⟩
  exact ⟨_,rfl,by omega,rfl⟩
theorem cs_clear (hk:KK w0 K cb B ob) (h:CS w0 K sb rb cb B ob n L M st w):Calls Tryz.prog 21 #[addr0 cb] w fun e w'=>e = .returned (.tuple #[])∧CS w0 K sb rb cb B ob n L M st w'∧CA w' cb B noEnt 0:=by
  obtain ⟨g,q,c1,c2,c3⟩:=h.on_
  refine (cclear_on c1).mono ?_
  rintro e w' ⟨rfl,d1,f⟩
  exact ⟨rfl,CS.turn hk h d1 (by omega) (Inv.none_ _) f,d1⟩
structure CH (w0:World) (K:Nat → Prop) (sb rb cb B ob N:Nat) (Q:List Rg → (Nat → Int) → List Rg → (Nat → Int) → Prop) (w:World):Prop where
  ex:∃ n L M st L' M',n ≤ N∧TwoA K w sb rb n L' M' st L M∧In20 L∧In20 L'∧Q L M L' M'∧(∃ g q,CA w cb B g q∧q ≤ 4096∧Inv (oneR sb L' M' st) g)∧COff w ob∧Bl w0 w
structure CT (w0:World) (K:Nat → Prop) (sb rb cb B ob N:Nat) (w:World):Prop where
  ex:∃ n L M st,n ≤ N∧CS w0 K sb rb cb B ob n L M st w
theorem ct_left1 (hk:KK w0 K cb B ob) {J:Nat → Prop} (hJ:∀ b,K b → J b) (h:CS w0 K sb rb cb B ob n L M st w) {Q:List Rg → (Nat → Int) → List Rg → (Nat → Int) → Prop} {e:Ending} (hl:Left1 J w sb rb n L M st (Q L M) e w'):(∃ v,e = .returned v)∧CH w0 K sb rb cb B ob (n + 9000) Q w'∧Fr (fun b=>¬ K b) w w':=by
  obtain ⟨hv,L',M',st',n',hn,h20,hs,hq,h2,f⟩:=hl
  obtain ⟨g,q,c1,c2,c3⟩:=h.on_
  obtain ⟨T1,T2,P,m1,m2,m3,_⟩:=h.two.ex
  refine ⟨hv,⟨n',L,M,st',L',M',hn,h2.less hJ,h.in_,h20,hq,⟨g,q,c1.fr f (fun e=>e (hJ _ hk.cb_)) (fun e=>e (hJ _ hk.B_)),c2,c3.step hs h.two.pages.1.al (TwoA.pages h2).1.al m1.by_⟩,h.off_.fr f (fun e=>e (hJ _ hk.ob_)),frk_new h.bl f fun b hb=>hJ _ (hk.old b hb)⟩,f.mono fun b _ e e2=>e (hJ b e2)⟩
theorem ch_left2 (hk:KK w0 K cb B ob) {J:Nat → Prop} (hJ:∀ b,K b → J b) {N:Nat} {L':List Rg} {M':Nat → Int} (hn:n ≤ N) (h20:In20 L') (hc:∃ g q,CA w cb B g q∧q ≤ 4096∧Inv (oneR sb L' M' st) g) (ho:COff w ob) (hb:Bl w0 w) {e:Ending} (hl:Left2 J w sb rb n L' M' st e w'):(∃ v,e = .returned v)∧CT w0 K sb rb cb B ob N w'∧Fr (fun b=>¬ K b) w w':=by
  obtain ⟨hv,h2,f⟩:=hl
  obtain ⟨g,q,c1,c2,c3⟩:=hc
  exact ⟨hv,⟨n,L',M',st,hn,h2.less hJ,h20,⟨g,q,c1.fr f (fun e=>e (hJ _ hk.cb_)) (fun e=>e (hJ _ hk.B_)),c2,c3⟩,ho.fr f (fun e=>e (hJ _ hk.ob_)),frk_new hb f fun b hb=>hJ _ (hk.old b hb)⟩,f.mono fun b _ e e2=>e (hJ b e2)⟩
theorem CH.more {Q:List Rg → (Nat → Int) → List Rg → (Nat → Int) → Prop} {N N':Nat} (h:CH w0 K sb rb cb B ob N Q w) (hN:N ≤ N'):CH w0 K sb rb cb B ob N' Q w:=by
  obtain ⟨n,L,M,st,L',M',h1,h2⟩:=h.ex
  exact ⟨n,L,M,st,L',M',by omega,h2⟩
theorem CT.more {N N':Nat} (h:CT w0 K sb rb cb B ob N w) (hN:N ≤ N'):CT w0 K sb rb cb B ob N' w:=by
  obtain ⟨n,L,M,st,h1,h2⟩:=h.ex
  exact ⟨n,L,M,st,by omega,h2⟩
theorem CT.less {N:Nat} (h:CT w0 K sb rb cb B ob N w) {J:Nat → Prop} (hJ:∀ b,J b → K b):CT w0 J sb rb cb B ob N w:=by
  obtain ⟨n,L,M,st,h1,h2⟩:=h.ex
  exact ⟨n,L,M,st,h1,h2.two.less hJ,h2.in_,h2.on_,h2.off_,h2.bl⟩
theorem CT.with_ {N:Nat} (h:CT w0 K sb rb cb B ob N w) (o:Obj):CT w0 (fun b=>K b ∨ b = w.heap.size) sb rb cb B ob N (w.alloc o):=by
  obtain ⟨n,L,M,st,h1,h2⟩:=h.ex
  obtain ⟨g,q,h3,h4,h5⟩:=h2.on_
  have k:=Bl.new w o
  exact ⟨n,L,M,st,h1,(h2.two.bl k).less (fun b hb=>hb.imp id fun e=>⟨by omega,by rw [e];simp⟩),h2.in_,⟨g,q,h3.bl k,h4,h5⟩,h2.off_.bl k,h2.bl.trans k⟩
theorem KK.with_ (hk:KK w0 K cb B ob) (x:Nat):KK w0 (fun b=>K b ∨ b = x) cb B ob:=⟨fun b hb=>.inl (hk.old b hb),.inl hk.cb_,.inl hk.B_,.inl hk.ob_,hk.Bnew,hk.ne,hk.tab⟩
theorem ct_store1 (hk:KK w0 K cb B ob) {N:Nat} (h:CT w0 K sb rb cb B ob N w) (hN:N < 8000000) (a:Nat) (x:Int) (ha:a < 2 ^ 64) :
    Calls Tryz.prog 14 #[addr0 sb,.int .u64 (a:Int),.int .i64 4,.int .u64 x] w fun e w'=>(∃ v,e = .returned v)∧CH w0 K sb rb cb B ob (N + 9000) (fun L M L' M'=>QStore L M a x L' M') w'∧Fr (fun b=>¬ K b) w w':=by
  obtain ⟨n,L,M,st,hn,h2⟩:=h.ex
  refine (act_store1 h2.two h2.in_ a x ha (by omega)).mono fun e w' hl=>?_
  obtain ⟨g1,g2,g3⟩:=ct_left1 hk (fun _ e=>e) h2 (Q:=fun L M L' M'=>QStore L M a x L' M') hl
  exact ⟨g1,g2.more (by omega),g3⟩
theorem ct_store2 (hk:KK w0 K cb B ob) {N:Nat} (a:Nat) (x:Int) (ha:a < 2 ^ 64) (h:CH w0 K sb rb cb B ob N (fun L M L' M'=>QStore L M a x L' M') w) :
    Calls Tryz.prog 15 #[addr0 rb,.int .u64 (a:Int),.int .i64 4,.int .u64 x] w fun e w'=>(∃ v,e = .returned v)∧CT w0 K sb rb cb B ob N w'∧Fr (fun b=>¬ K b) w w':=by
  obtain ⟨n,L,M,st,L',M',h1,h2,h3,h4,h5,h6,h9,h10⟩:=h.ex
  exact (act_store2 h2 a x ha h5).mono fun e w' hl=>ch_left2 hk (fun _ e=>e) h1 h4 h6 h9 h10 hl
theorem ct_unmap1 (hk:KK w0 K cb B ob) {N:Nat} (h:CT w0 K sb rb cb B ob N w) (hN:N < 8000000) (a:Nat) (ha:a % 4096 = 0) (h16:a ≤ 16384) :
    Calls Tryz.prog 18 #[addr0 sb,.int .u64 (a:Int),.int .u64 4096] w fun e w'=>(∃ v,e = .returned v)∧CH w0 K sb rb cb B ob (N + 9000) (fun L M L' M'=>QUnmap L M a L' M') w'∧Fr (fun b=>¬ K b) w w':=by
  obtain ⟨n,L,M,st,hn,h2⟩:=h.ex
  refine (act_unmap1 h2.two h2.in_ a ha h16 (by omega)).mono fun e w' hl=>?_
  obtain ⟨g1,g2,g3⟩:=ct_left1 hk (fun _ e=>e) h2 (Q:=fun L M L' M'=>QUnmap L M a L' M') hl
  exact ⟨g1,g2.more (by omega),g3⟩
theorem ct_unmap2 (hk:KK w0 K cb B ob) {N:Nat} (a:Nat) (ha:a % 4096 = 0) (h16:a ≤ 16384) (h:CH w0 K sb rb cb B ob N (fun L M L' M'=>QUnmap L M a L' M') w) :
    Calls Tryz.prog 19 #[addr0 rb,.int .u64 (a:Int),.int .u64 4096] w fun e w'=>(∃ v,e = .returned v)∧CT w0 K sb rb cb B ob N w'∧Fr (fun b=>¬ K b) w w':=by
  obtain ⟨n,L,M,st,L',M',h1,h2,h3,h4,h5,h6,h9,h10⟩:=h.ex
  exact (act_unmap2 h2 h3 a ha h16 h5).mono fun e w' hl=>ch_left2 hk (fun _ e=>e) h1 h4 h6 h9 h10 hl
theorem ct_map1 (hk:KK w0 K cb B ob) {N:Nat} (h:CT w0 K sb rb cb B ob N w) (hN:N < 8000000) (a:Nat) (p:Int) (hp:0 ≤ p∧p ≤ 7) (ha:a % 4096 = 0) (h16:a ≤ 16384) :
    Calls Tryz.prog 9 #[addr0 sb,.int .u64 (a:Int),.int .u64 4096,.int .i64 p,.bool true] w fun e w'=>(∃ v,e = .returned v)∧CH w0 K sb rb cb B ob (N + 9000) (fun L M L' M'=>QMap L M a p L' M') w'∧Fr (fun b=>¬ K b) w w':=by
  obtain ⟨n,L,M,st,hn,h2⟩:=h.ex
  refine (act_map1 h2.two h2.in_ a p hp ha h16 (by omega)).mono fun e w' hl=>?_
  obtain ⟨g1,g2,g3⟩:=ct_left1 hk (fun _ e=>e) h2 (Q:=fun L M L' M'=>QMap L M a p L' M') hl
  exact ⟨g1,g2.more (by omega),g3⟩
theorem ct_map2 (hk:KK w0 K cb B ob) {N:Nat} (a:Nat) (p:Int) (hp:0 ≤ p∧p ≤ 7) (ha:a % 4096 = 0) (h16:a ≤ 16384) (h:CH w0 K sb rb cb B ob N (fun L M L' M'=>QMap L M a p L' M') w) :
    Calls Tryz.prog 20 #[addr0 rb,.int .u64 (a:Int),.int .u64 4096,.int .i64 p,.bool true] w fun e w'=>(∃ v,e = .returned v)∧CT w0 K sb rb cb B ob N w'∧Fr (fun b=>¬ K b) w w':=by
  obtain ⟨n,L,M,st,L',M',h1,h2,h3,h4,h5,h6,h9,h10⟩:=h.ex
  exact (act_map2 h2 h3 a p hp ha h16 h5).mono fun e w' hl=>ch_left2 hk (fun _ e=>e) h1 h4 h6 h9 h10 hl
theorem ct_prot1 (hk:KK w0 K cb B ob) {N:Nat} (h:CT w0 K sb rb cb B ob N w) (hN:N < 8000000) (a:Nat) (p:Int) (hp:0 ≤ p∧p ≤ 7) (ha:a % 4096 = 0) (h16:a ≤ 16384) :
    Calls Tryz.prog 16 #[addr0 sb,.int .u64 (a:Int),.int .u64 4096,.int .i64 p] w fun e w'=>(∃ v,e = .returned v)∧CH w0 K sb rb cb B ob (N + 9000) (fun L M L' M'=>QProt L M a p L' M') w'∧Fr (fun b=>¬ K b) w w':=by
  obtain ⟨n,L,M,st,hn,h2⟩:=h.ex
  refine (act_prot1 h2.two h2.in_ a p hp ha h16 (by omega)).mono fun e w' hl=>?_
  obtain ⟨g1,g2,g3⟩:=ct_left1 hk (fun _ e=>e) h2 (Q:=fun L M L' M'=>QProt L M a p L' M') hl
  exact ⟨g1,g2.more (by omega),g3⟩
theorem ct_prot2 (hk:KK w0 K cb B ob) {N:Nat} (a:Nat) (p:Int) (hp:0 ≤ p∧p ≤ 7) (ha:a % 4096 = 0) (h16:a ≤ 16384) (h:CH w0 K sb rb cb B ob N (fun L M L' M'=>QProt L M a p L' M') w) :
    Calls Tryz.prog 17 #[addr0 rb,.int .u64 (a:Int),.int .u64 4096,.int .i64 p] w fun e w'=>(∃ v,e = .returned v)∧CT w0 K sb rb cb B ob N w'∧Fr (fun b=>¬ K b) w w':=by
  obtain ⟨n,L,M,st,L',M',h1,h2,h3,h4,h5,h6,h9,h10⟩:=h.ex
  exact (act_prot2 h2 h3 a p hp ha h16 h5).mono fun e w' hl=>ch_left2 hk (fun _ e=>e) h1 h4 h6 h9 h10 hl
theorem ct_put1 (hk:KK w0 K cb B ob) {N:Nat} (h:CT w0 K sb rb cb B ob N w) (k:Bl w w') (hN:N < 8000000) (a:Nat) {b c:Nat} (xs:List Int) (hr:Rd w' (some ⟨b,0,none⟩) xs) (hl:xs.length = 2) (hc:2 ≤ c) (hb:∀ k,0 ≤ xs.getD k 0∧xs.getD k 0 ≤ 255) (hn1:w.heap.size ≤ b) (hn2:b < w'.heap.size) (ha:a ≤ 100000000) :
    Calls Tryz.prog 11 #[addr0 sb,.int .u64 (a:Int),.slice (some ⟨b,0,none⟩) 2 c] w' fun e w2=>(∃ v,e = .returned v)∧CH w0 K sb rb cb B ob (N + 9000) (fun L M L' M'=>QPut L M a xs 2 L' M') w2∧Fr (fun b=>¬ K b) w' w2:=by
  obtain ⟨n,L,M,st,hn,h2⟩:=h.ex
  have hJ:=h2.two.bl k
  refine (act_put1 hJ h2.in_ a (some ⟨b,0,none⟩) 2 c xs hr hl hc hb (fun _ ad e=>by cases e;exact .inr ⟨hn1,hn2⟩) ha (by omega) (by omega)).mono fun e w2 hl=>?_
  obtain ⟨g1,g2,g3⟩:=ct_left1 hk (fun _ e=>.inl e) (h2.bl' k) (Q:=fun L M L' M'=>QPut L M a xs 2 L' M') hl
  exact ⟨g1,g2.more (by omega),g3⟩
theorem ct_put2 (hk:KK w0 K cb B ob) {N:Nat} (a:Nat) {b c:Nat} (xs:List Int) (h:CH w0 K sb rb cb B ob N (fun L M L' M'=>QPut L M a xs 2 L' M') w) (k:Bl w w') (hr:Rd w' (some ⟨b,0,none⟩) xs) (hl:xs.length = 2) (hb:∀ k,0 ≤ xs.getD k 0∧xs.getD k 0 ≤ 255) (hn1:w.heap.size ≤ b) (hn2:b < w'.heap.size) (ha:a ≤ 100000000) :
    Calls Tryz.prog 12 #[addr0 rb,.int .u64 (a:Int),.slice (some ⟨b,0,none⟩) 2 c] w' fun e w2=>(∃ v,e = .returned v)∧CT w0 K sb rb cb B ob N w2∧Fr (fun b=>¬ K b) w' w2:=by
  obtain ⟨n,L,M,st,L',M',h1,h2,h3,h4,h5,⟨g,q,d1,d2,d3⟩,h9,h10⟩:=h.ex
  have hJ:=h2.bl k
  exact (act_put2 hJ a (some ⟨b,0,none⟩) 2 c xs hr hl hb (fun ad e=>by cases e;exact .inr ⟨hn1,hn2⟩) ha (by omega) h5).mono fun e w2 hl=>ch_left2 hk (fun _ e=>.inl e) h1 h4 ⟨g,q,d1.bl k,d2,d3⟩ (h9.bl k) (h10.trans k) hl
end
end Go.Proofs.YtbngjbmfkekdnaaGreatDoor

namespace Go.Proofs.YtbngjbmfkekdnaaGreatDoor
open Go.RowKit
set_option maxRecDepth 100000
theorem wiped_z (a b:Nat):wiped (fun _=>0) a b = fun _=>0:=by funext x;simp only [wiped];split <;> rfl
theorem two_start {w w1 w2:World} {m:Int} (h1:MS (fun b=>w.heap.size ≤ b) w1 w.heap.size 0 [] (fun _=>0) (fun _=>0) m 0 0) (k1:Bl w w1) (s1:w1.heap.size = w.heap.size + 1) (h2:RP (only w1.heap.size) w2 w1.heap.size [] (fun _=>0) m 0 0) (k2:Bl w1 w2) (s2:w1.heap.size < w2.heap.size) :
    Two (fun b=>b < w.heap.size) w2 w.heap.size (w.heap.size + 1) 0 [] (fun _=>0) (fun _=>0) m 0 0 [] (fun _=>0):=by
  rw [s1] at h2 s2
  have hs:=k2.size
  refine ⟨fun b=>w.heap.size ≤ b∧(b = w.heap.size ∨ w2.heap.size ≤ b),fun b=>b = w.heap.size + 1 ∨ w2.heap.size ≤ b,[],?_,h2.among (fun b _ e=>.inl e),rfl,fun b hb e1 e2=>?_,fun b hb=>⟨fun e=>by omega,fun e=>by omega⟩,fun b hb=>⟨⟨by omega,.inr hb⟩,.inr hb⟩⟩
  · exact (h1.among (U:=fun b=>w.heap.size ≤ b∧(b = w.heap.size ∨ w2.heap.size ≤ b)) (fun b hb e=>⟨e,.inl (by omega)⟩)).bl k2
  · omega
section
variable {K:Nat → Prop} {w w':World} {sb rb n:Nat} {L:List Rg} {M st:Nat → Int}
def lawL:List Rg:=[⟨4096,16384,7⟩]
theorem law_in (x q:Int):In lawL x q ↔ 4096 ≤ x∧x < 16384∧q = 7:=by
  constructor
  · rintro ⟨r,hr,h1,h2,h3⟩
    simp only [lawL,List.mem_singleton] at hr
    subst hr
    exact ⟨h1,h2,h3.symm⟩
  · rintro ⟨h1,h2,rfl⟩
    exact ⟨_,List.mem_singleton.2 rfl,h1,h2,rfl⟩
theorem law20:In20 lawL:=fun x q h=>by have:=(law_in x q).1 h;omega
theorem t_map (h:TwoA K w sb rb n [] (fun _=>0) st [] (fun _=>0)) (hn:n < 10000000) :
    Calls Tryz.prog 9 #[addr0 sb,.int .u64 4096,.int .u64 12288,.int .i64 7,.bool true] w fun e w'=>(∃ v,e = .returned v)∧(∃ st',TwoA K w' sb rb (n + 8192) lawL (fun _=>0) st' [] (fun _=>0))∧Fr (fun b=>¬ K b) w w':=by
  obtain ⟨T1,hm,hT,hcl⟩:=h.call1
  have cm:=mmap_new hm 4096 16384 12288 7 (by omega) (by omega) (by omega) (by omega) (by omega) ⟨by omega,by omega,by omega,by omega⟩ (by omega) (by omega) hT
  refine cm.mono ?_
  rintro e w' ⟨rfl,st',h1,_,h2⟩
  rw [wiped_z] at h1
  obtain ⟨g1,g2⟩:=hcl _ _ _ _ _ _ _ _ rfl rfl rfl h1 h2
  exact ⟨⟨_,rfl⟩,⟨st',g1⟩,g2⟩
theorem t_lay (h:TwoA K w sb rb n L M st [] (fun _=>0)) :
    Calls Tryz.prog 10 #[addr0 rb,.int .u64 4096,.int .u64 16384,.int .i64 7] w fun e w'=>(∃ v,e = .returned v)∧TwoA K w' sb rb n L M st lawL (fun _=>0)∧Fr (fun b=>¬ K b) w w':=by
  obtain ⟨T2,P,hm,hreg,hT,hcl⟩:=h.call2
  have hs:Span ((4096:Nat):Int) ((16384:Nat):Int):=⟨by omega,by omega,by omega,by omega⟩
  have hno:∀ x q,¬ OnP P x q:=fun x q hx=>by
    have:=(regs_in hm.pgs).2 hx
    rw [hreg] at this
    obtain ⟨r,hr,_⟩:=this
    cases hr
  have hl5:=pages20 hm (by rw [hreg];exact fun x q hx=>by obtain ⟨r,hr,_⟩:=hx;cases hr)
  have hrl:Rs lawL:=by
    have h0:Rs ([]:List Rg):=by rw [← hreg];exact regs_rs hm.pgs
    have:=h0.lay (p:=7) (by omega) hs
    rw [layL_new] at this
    exact this
  have heq:∀ P',Pgs 67108864 P' → SetAs P P' ((4096:Nat):Int) ((16384:Nat):Int) 7 → regs P' = lawL:=fun P' hp' hset=>by
    refine (regs_rs hp').eq hrl fun x q=>?_
    rw [regs_in hp',hset x q,law_in]
    constructor
    · rintro (⟨h1,h2,h3⟩ | ⟨_,h2⟩)
      · exact ⟨by omega,by omega,h3.symm⟩
      · exact absurd h2 (hno x q)
    · rintro ⟨h1,h2,h3⟩
      exact .inl ⟨by omega,by omega,h3.symm⟩
  refine (rp_lay hm hT 4096 16384 7 (by omega) hs).mono ?_
  rintro e w' ⟨r,rfl,hl⟩
  rcases hl with ⟨rfl,P',g1,g2,g3,g4⟩ | ⟨rfl,_,hx | ⟨P',g1,g2,g3⟩⟩
  · rw [wiped_z] at g1
    have h8:=hcl _ _ _ g1 g3
    rw [heq P' g1.pgs g2] at h8
    exact ⟨⟨_,rfl⟩,h8⟩
  · have h1:=outP_len P ((4096:Nat):Int) ((16384:Nat):Int)
    omega
  · rw [heq P' g1 g2] at g3
    have:=few20 hrl law20
    omega
theorem t_put1 (h:TwoA K w sb rb n L M st L M) {A:Option Addr} {l c:Nat} {xs:List Int} (hb:BytesIn w A l c xs) (hK:0 < l → ∀ ad,A = some ad → K ad.block) (hl:l ≤ 8000) (hn:n < 8000000) :
    Calls Tryz.prog 11 #[addr0 sb,.int .u64 8100,.slice A l c] w fun e w'=>e = .returned (.tuple #[])∧(∃ M' st',TwoA K w' sb rb (n + 48000) L M' st' L M∧PutRel L M 8100 xs l M')∧Fr (fun b=>¬ K b) w w':=by
  obtain ⟨T1,hm,hT,hKT,hcl⟩:=h.call1K
  refine (mput_rel hm 8100 A l c xs hb.rd hb.len hb.cap hb.bd (fun h0 ad e=>hKT _ (hK h0 ad e)) (by omega) (by omega) (by omega) hT).mono ?_
  rintro e w' ⟨rfl,M',st',g1,g2,g3,g4⟩
  obtain ⟨q1,q2⟩:=hcl _ _ _ _ _ _ _ _ rfl rfl rfl (g1.mono (by omega:n + 6 * l ≤ n + 48000)) g4
  exact ⟨rfl,⟨M',st',q1,g2⟩,q2⟩
theorem t_put2 {M' st':Nat → Int} (h:TwoA K w sb rb n L M' st' L M) {A:Option Addr} {l c:Nat} {xs:List Int} (hb:BytesIn w A l c xs) (hK:0 < l → ∀ ad,A = some ad → K ad.block) (hl:l ≤ 8000) (hp:PutRel L M 8100 xs l M') :
    Calls Tryz.prog 12 #[addr0 rb,.int .u64 8100,.slice A l c] w fun e w'=>e = .returned (.tuple #[])∧TwoA K w' sb rb n L M' st' L M'∧Fr (fun b=>¬ K b) w w':=by
  obtain ⟨T2,P,hm,hreg,hT,hKT,hcl⟩:=h.call2K
  refine (rp_lays_rel hm 8100 A l c xs hb.rd hb.len hb.bd (fun h0 ad e=>hKT _ (hK h0 ad e)) (by omega) (by omega)).mono ?_
  rintro e w' ⟨rfl,⟨M2,g1,g2⟩,g3⟩
  rw [hreg] at g2
  obtain rfl:=g2.one hp
  obtain ⟨q1,q2⟩:=hcl _ _ _ g1 g3
  rw [hreg] at q1
  exact ⟨rfl,q1,q2⟩
theorem four_at {w:World} {b:Nat} {t:TypeId} {a0 a1 a2 a3:Value} (h:w.heap[b]? = some (.cells #[a0,a1,a2,a3] t (0,0))) :
    w.cell? ⟨b,0,none⟩ = some a0∧w.cell? ⟨b,1,none⟩ = some a1∧w.cell? ⟨b,2,none⟩ = some a2∧w.cell? ⟨b,3,none⟩ = some a3:=by
  refine ⟨?_,?_,?_,?_⟩ <;> simp [World.cell?,h]
end
end Go.Proofs.YtbngjbmfkekdnaaGreatDoor

namespace Go.Proofs.YtbngjbmfkekdnaaGreatDoor
open Go.RowKit
set_option maxRecDepth 100000
theorem true_walk {A1 A2:Option Addr} {l1 l2 c1 c2:Nat} {xs:List Int} (w:World) (hx:BytesIn w A1 l1 c1 xs) (hz:ActsT w A2 l2) (hl2:l2 ≤ 9223372036854775807) (hT:Td.TabsS w) :
    Calls Tryz.prog 3 #[.slice A1 l1 c1,.slice A2 l2 c2] w fun e w'=>e = .returned (.bool true)∧Bl w w':=by
  have hnw:=mnew_any (fun b=>w.heap.size ≤ b) 10 w (Nat.le_refl _) (by omega) (by omega)
  have hnx:=fun w1:World=>rnewm_any 10 (by omega) (by omega) w1
  have HT:=hid hT;clear hT
  have HX:=hid hx
  have HZ:=hid hz
  have hl1:(l1:Int) ≤ 9223372036854775807:=by have:=hx.le;omega
  have hl2I:(l2:Int) ≤ 9223372036854775807:=by omega
  clear hx hz hl2
  go_enter Tryz.func3,Tryz.ntmps3
  go_wp2_with fail
  with_reducible refine hnw.mono ?_
  rintro e w1 ⟨rfl,h1,k1,s1⟩
  go_wp2_with fail
  with_reducible refine (hnx w1).mono ?_
  rintro e w2 ⟨rfl,h2,k2,s2⟩
  have hd:=two_start h1 k1 s1 h2 k2 s2
  have K2:=hid (k1.trans k2)
  obtain ⟨sb,hsb⟩:∃ sb,sb = w.heap.size:=⟨_,rfl⟩
  obtain ⟨rb,hrb⟩:∃ rb,rb = w.heap.size + 1:=⟨_,rfl⟩
  obtain ⟨K,hKe⟩:∃ K:Nat → Prop,K = fun b=>b < w.heap.size:=⟨_,rfl⟩
  rw [← hKe,← hrb,← hsb] at hd
  have HKE:Hid (∀ b,b < w.heap.size → K b):=hid (fun b hb=>by rw [hKe];exact hb)
  have HKF:Hid (∀ b,K b → b < w.heap.size):=hid (fun b hb=>by rw [hKe] at hb;exact hb)
  rw [s1]
  unfold addr0
  rw [← hrb,← hsb]
  have CAN:=hid (fun W (k:Bl w W)=>canswers_any W (HT.out.bl k))
  have HD:=hid hd
  clear hd h1 h2 k1 k2 s1 s2 hnw hnx hsb hrb hKe
  by_cases hbig:8000 < l1
  · have q1:(8000:Int) < (l1:Int):=by omega
    clear hbig HD
    go_wp2_with fail
    with_reducible refine (CAN.out _ K2.out).mono ?_
    rintro e w3 ⟨rfl,k3⟩
    have K3:=hid (K2.out.trans k3)
    clear k3
    go_wp2_with fail
    with_reducible refine (CAN.out _ K3.out).mono ?_
    rintro e w4 ⟨rfl,k4⟩
    have K4:=hid (K3.out.trans k4)
    clear k4
    go_wp2_with fail
    go_ret
    exact ⟨rfl,K4.out⟩
  · have q1:(l1:Int) ≤ 8000:=by omega
    have hle:=Nat.le_of_not_lt hbig
    have HLE:=hid hle
    clear hbig hle
    go_wp2_with fail
    with_reducible refine (CAN.out _ K2.out).mono ?_
    rintro e w3 ⟨rfl,k3⟩
    have K3:=hid (K2.out.trans k3)
    have hd3:=Two.blK HD.out k3
    have cm:=t_map hd3 (by omega)
    have CM:=hid cm
    clear cm hd3 k3 HD CAN
    unfold addr0 at CM
    go_wp2_with fail
    with_reducible refine CM.out.mono ?_
    rintro e w4 ⟨⟨v4,rfl⟩,⟨st4,hd4⟩,f4⟩
    have K4:=hid (frk_new K3.out f4 HKE.out)
    have cm:=t_lay hd4
    have CM2:=hid cm
    clear cm hd4 f4 CM
    unfold addr0 at CM2
    go_wp2_with fail
    with_reducible refine CM2.out.mono ?_
    rintro e w5 ⟨⟨v5,rfl⟩,hd5,f5⟩
    have K5:=hid (frk_new K4.out f5 HKE.out)
    have cp:=t_put1 hd5 (HX.out.bl K5.out) (fun h0 ad e=>HKE.out _ (HX.out.lt h0 ad e)) HLE.out (by omega)
    have CP:=hid cp
    clear cp hd5 f5 CM2
    unfold addr0 at CP
    go_wp2_with fail
    with_reducible refine CP.out.mono ?_
    rintro e w6 ⟨rfl,⟨M6,st6,hd6,hp6⟩,f6⟩
    have K6:=hid (frk_new K5.out f6 HKE.out)
    have cp:=t_put2 hd6 (HX.out.bl K6.out) (fun h0 ad e=>HKE.out _ (HX.out.lt h0 ad e)) HLE.out hp6
    have CP2:=hid cp
    clear cp hd6 hp6 f6 CP
    unfold addr0 at CP2
    go_wp2_with fail
    with_reducible refine CP2.out.mono ?_
    rintro e w7 ⟨rfl,hd7,f7⟩
    have K7:=hid (frk_new K6.out f7 HKE.out)
    have HD7:=hid hd7
    clear hd7 f7 CP2
    go_wp2_with fail
    with_reducible refine (cnew_on w7).mono ?_
    rintro e w8 ⟨rfl,hc,k8,s8⟩
    unfold addr0
    go_wp2_with fail
    with_reducible refine (cnew_off w8).mono ?_
    rintro e w9 ⟨rfl,ho,k9,s9⟩
    have hd9:=HD7.out.bl (k8.trans k9)
    have hw7:=K7.out.size
    have KKK:KK w (fun b=>b < w.heap.size ∨ b = w7.heap.size ∨ b = w7.heap.size + 1 ∨ b = w8.heap.size) (w7.heap.size + 1) w7.heap.size w8.heap.size:=⟨fun b hb=>.inl hb,.inr (.inr (.inl rfl)),.inr (.inl rfl),.inr (.inr (.inr rfl)),hw7,by omega,HT.out⟩
    have hct:CT w (fun b=>b < w.heap.size ∨ b = w7.heap.size ∨ b = w7.heap.size + 1 ∨ b = w8.heap.size) sb rb (w7.heap.size + 1) w7.heap.size w8.heap.size 60000 w9:=by
      refine ⟨_,lawL,M6,st6,by omega,hd9.less fun b hb=>?_,law20,⟨noEnt,0,hc.bl k9,by omega,Inv.none_ _⟩,ho,(K7.out.trans k8).trans k9⟩
      rcases hb with hb | hb | hb | hb
      · exact .inl (HKE.out b hb)
      · exact .inr ⟨by omega,by omega⟩
      · exact .inr ⟨by omega,by omega⟩
      · exact .inr ⟨by omega,by omega⟩
    obtain ⟨ob,hob⟩:∃ ob,ob = w8.heap.size:=⟨_,rfl⟩
    unfold addr0
    rw [← hob] at hct KKK ⊢
    obtain ⟨B,hB⟩:∃ B,B = w7.heap.size:=⟨_,rfl⟩
    obtain ⟨cb,hcb⟩:∃ cb,cb = w7.heap.size + 1:=⟨_,rfl⟩
    rw [← hcb] at hct KKK ⊢
    rw [← hB] at hct KKK
    clear hob hB hcb hc ho k8 k9 s8 s9 hd9 hw7 HD7 K2 K3 K4 K5 K6 K7 HKE HKF
    clear K
    generalize (fun b=>b < w.heap.size ∨ b = B ∨ b = cb ∨ b = ob) = K at *
    have HK:=hid KKK;clear KKK
    have HC:=hid hct;clear hct
    clear HX HLE
    go_wp2_with fail
    go_loopw [10,11,12,13,14,15,16,17,18,19,20,21] (fun i _ _ _ _ _ _ _ _ _ _ _ wr=>∃ k:Nat,k ≤ 80∧k ≤ l2∧i = .int .i64 k∧CT w K sb rb cb B ob (60000 + 9000 * k) wr) (fun i _ _ _ _ _ _ _ _ _ _ _ _=>80 - (intOf i).toNat)
    case atStart=>exact ⟨0,by omega,by omega,rfl,HC.out⟩
    case round =>
      obtain ⟨k,hk,hk3,rfl,hct⟩:=hrel
      clear HC
      have HC:=hid hct;clear hct
      by_cases hlt:k < 80∧k < l2
      · obtain ⟨hlt1,hlt2⟩:=hlt
        have hltI:(k:Int) < 80:=by omega
        have hltJ:(k:Int) < (l2:Int):=by omega
        obtain ⟨b3,o3,rfl,hb3,hcell⟩:=(HZ.out.bl (by obtain ⟨_,_,_,_,_,h⟩:=HC.out.ex;exact h.bl)) (by omega)
        obtain ⟨d,p,ad,x,a0,a1,a2,a3,had,hx⟩:=hcell k hlt2
        obtain ⟨m,rfl⟩:=Int.eq_ofNat_of_zero_le had.1
        have had1:=had.2
        have hm0:(0:Int) ≤ (m:Int):=by omega
        obtain ⟨at_,hat⟩:∃ at_:Nat,at_ = m % 20000:=⟨_,rfl⟩
        obtain ⟨pg,hpg⟩:∃ pg:Nat,pg = at_ / 4096 * 4096:=⟨_,rfl⟩
        have HAT:Hid ((at_:Int) = (m:Int) % 20000):=hid (by omega)
        have HPG:Hid ((pg:Int) = (at_:Int) / 4096 * 4096):=hid (by omega)
        have HAL:Hid (at_ < 20000):=hid (by omega)
        have HPL:Hid (pg % 4096 = 0∧pg ≤ 16384):=hid (by omega)
        have hatI:(at_:Int) < 20000:=by omega
        have hatJ:(0:Int) ≤ (at_:Int):=by omega
        have hpgI:(pg:Int) ≤ 16384:=by omega
        have hpgJ:(0:Int) ≤ (pg:Int):=by omega
        have hx0:=hx.1
        have hx1:=hx.2
        clear hat hpg had hlt1 hlt2 hcell
        go_upto_region 15 with (fail)
        have hb4:=heap_alloc_new wr (.cells #[.int .i64 d,.int .i64 p,.int .u32 (m:Int),.int .u64 x] 39)
        have hct2:=HC.out.with_ (.cells #[.int .i64 d,.int .i64 p,.int .u32 (m:Int),.int .u64 x] 39)
        have hkk2:=HK.out.with_ wr.heap.size
        obtain ⟨ab,hab⟩:∃ ab,ab = wr.heap.size:=⟨_,rfl⟩
        rw [← hab] at hb4 hct2 hkk2 ⊢
        obtain ⟨e0,e1,e2,e3⟩:=four_at hb4
        obtain ⟨J,hJ⟩:∃ J:Nat → Prop,J = fun b=>K b ∨ b = ab:=⟨_,rfl⟩
        rw [← hJ] at hct2 hkk2
        have HJK:Hid (∀ b,K b → J b):=hid (fun b hb=>by rw [hJ];exact .inl hb)
        have HJA:Hid (J ab):=hid (by rw [hJ];exact .inr rfl)
        obtain ⟨N,hN⟩:∃ N,N = 60000 + 9000 * k:=⟨_,rfl⟩
        rw [← hN] at hct2
        have HN:Hid (N = 60000 + 9000 * k):=hid hN;clear hN
        have HNL:Hid (N < 8000000):=hid (by have:=HN.out;omega)
        have HB4:=hid hb4
        have HKJ:=hid hkk2
        have HC2:=hid hct2
        clear hab hb4 hct2 hkk2 hJ a0 a1 a2 a3 hb3 HC HZ hk3
        generalize wr.alloc (.cells #[.int .i64 d,.int .i64 p,.int .u32 (m:Int),.int .u64 x] 39) = wb at *
        go_upto_region 16 with (fail)
        rw [← HAT.out]
        go_upto_region 17 with (fail)
        rw [← HPG.out]
        go_upto_block 2 with (fail)
        go_cut [4] from 75 to 153 (fun _ wx=>CT w K sb rb cb B ob (N + 9000) wx)
        case' first =>
          by_cases d2:d = 2
          · subst d2
            have c:=ct_store1 HKJ.out HC2.out HNL.out at_ x (by have:=HAL.out;omega)
            unfold addr0 at c
            have C1:=hid c;clear c
            go_wp2_with fail
            with_reducible refine C1.out.mono ?_
            rintro e wa ⟨⟨v1,rfl⟩,h1,f1⟩
            have hb5:=Fr.at_ f1 HB4.out (fun e=>e HJA.out)
            obtain ⟨i0,i1,i2,i3⟩:=four_at hb5
            have c:=ct_store2 HKJ.out at_ x (by have:=HAL.out;omega) h1
            unfold addr0 at c
            have C2:=hid c;clear c h1 f1 hb5 C1
            go_wp2_with fail
            with_reducible refine C2.out.mono ?_
            rintro e wz ⟨⟨v2,rfl⟩,h2,f2⟩
            go_wp2_with fail
            go_meet
            case rel=>exact h2.less HJK.out
          by_cases d3:d = 3
          · subst d3
            have c:=ct_prot1 HKJ.out HC2.out HNL.out pg (bits .and .i64 p 7) (and7_bd p) HPL.out.1 HPL.out.2
            unfold addr0 at c
            have C1:=hid c;clear c
            go_wp2_with fail
            with_reducible refine C1.out.mono ?_
            rintro e wa ⟨⟨v1,rfl⟩,h1,f1⟩
            have hb5:=Fr.at_ f1 HB4.out (fun e=>e HJA.out)
            obtain ⟨i0,i1,i2,i3⟩:=four_at hb5
            have c:=ct_prot2 HKJ.out pg (bits .and .i64 p 7) (and7_bd p) HPL.out.1 HPL.out.2 h1
            unfold addr0 at c
            have C2:=hid c;clear c h1 f1 hb5 C1
            go_wp2_with fail
            with_reducible refine C2.out.mono ?_
            rintro e wz ⟨⟨v2,rfl⟩,h2,f2⟩
            go_wp2_with fail
            go_meet
            case rel=>exact h2.less HJK.out
          by_cases d4:d = 4
          · subst d4
            have c:=ct_unmap1 HKJ.out HC2.out HNL.out pg HPL.out.1 HPL.out.2
            unfold addr0 at c
            have C1:=hid c;clear c
            go_wp2_with fail
            with_reducible refine C1.out.mono ?_
            rintro e wa ⟨⟨v1,rfl⟩,h1,f1⟩
            have hb5:=Fr.at_ f1 HB4.out (fun e=>e HJA.out)
            obtain ⟨i0,i1,i2,i3⟩:=four_at hb5
            have c:=ct_unmap2 HKJ.out pg HPL.out.1 HPL.out.2 h1
            unfold addr0 at c
            have C2:=hid c;clear c h1 f1 hb5 C1
            go_wp2_with fail
            with_reducible refine C2.out.mono ?_
            rintro e wz ⟨⟨v2,rfl⟩,h2,f2⟩
            go_wp2_with fail
            go_meet
            case rel=>exact h2.less HJK.out
          by_cases d5:d = 5
          · subst d5
            have c:=ct_map1 HKJ.out HC2.out HNL.out pg (bits .and .i64 p 7) (and7_bd p) HPL.out.1 HPL.out.2
            unfold addr0 at c
            have C1:=hid c;clear c
            go_wp2_with fail
            with_reducible refine C1.out.mono ?_
            rintro e wa ⟨⟨v1,rfl⟩,h1,f1⟩
            have hb5:=Fr.at_ f1 HB4.out (fun e=>e HJA.out)
            obtain ⟨i0,i1,i2,i3⟩:=four_at hb5
            have c:=ct_map2 HKJ.out pg (bits .and .i64 p 7) (and7_bd p) HPL.out.1 HPL.out.2 h1
            unfold addr0 at c
            have C2:=hid c;clear c h1 f1 hb5 C1
            go_wp2_with fail
            with_reducible refine C2.out.mono ?_
            rintro e wz ⟨⟨v2,rfl⟩,h2,f2⟩
            go_wp2_with fail
            go_meet
            case rel=>exact h2.less HJK.out
          by_cases d6:d = 6
          · subst d6
            have hvb:=two_bytes (a:=x % 256) (b:=x / 256 % 256) (by omega) (by omega)
            have hrd:Rd (wb.alloc (.cells #[.int .u8 (x % 256),.int .u8 (x / 256 % 256)] 5)) (some ⟨wb.heap.size,0,none⟩) [x % 256,x / 256 % 256]:=rd_row (heap_alloc_new wb _)
            have c:=ct_put1 HKJ.out HC2.out (Bl.new wb (.cells #[.int .u8 (x % 256),.int .u8 (x / 256 % 256)] 5)) HNL.out at_ (b:=wb.heap.size) (c:=2) _ hrd rfl (by omega) hvb (Nat.le_refl _) (by simp) (by have:=HAL.out;omega)
            unfold addr0 at c
            have C1:=hid c;clear c hrd
            have HVB:=hid hvb;clear hvb
            go_wp2_with fail
            with_reducible refine C1.out.mono ?_
            rintro e wa ⟨⟨v1,rfl⟩,h1,f1⟩
            have hb5:=Fr.at_ f1 ((Bl.new wb (.cells #[.int .u8 (x % 256),.int .u8 (x / 256 % 256)] 5)).at_ HB4.out) (fun e=>e HJA.out)
            obtain ⟨i0,i1,i2,i3⟩:=four_at hb5
            have hrd:Rd (wa.alloc (.cells #[.int .u8 (x % 256),.int .u8 (x / 256 % 256)] 5)) (some ⟨wa.heap.size,0,none⟩) [x % 256,x / 256 % 256]:=rd_row (heap_alloc_new wa _)
            have c:=ct_put2 HKJ.out at_ (b:=wa.heap.size) (c:=2) _ h1 (Bl.new wa (.cells #[.int .u8 (x % 256),.int .u8 (x / 256 % 256)] 5)) hrd rfl HVB.out (Nat.le_refl _) (by simp) (by have:=HAL.out;omega)
            unfold addr0 at c
            have C2:=hid c;clear c h1 f1 hb5 C1 hrd
            go_wp2_with fail
            with_reducible refine C2.out.mono ?_
            rintro e wz ⟨⟨v2,rfl⟩,h2,f2⟩
            go_wp2_with fail
            go_meet
            case rel=>exact h2.less HJK.out
          by_cases d7:d = 7
          · subst d7
            obtain ⟨n,L,M,st,hn,hcs⟩:=HC2.out.ex
            have c:=cs_clear HKJ.out hcs
            unfold addr0 at c
            have C1:=hid c;clear c hcs
            have HN2:=hid hn;clear hn
            go_wp2_with fail
            with_reducible refine C1.out.mono ?_
            rintro e wa ⟨rfl,h1,h2⟩
            have c:=clen_on h2
            unfold addr0 at c
            rw [show ((0:Nat):Int) = 0 from rfl] at c
            have C2:=hid c;clear c C1 h2
            have H1:=hid h1;clear h1
            go_wp2_with fail
            with_reducible refine C2.out.mono ?_
            rintro e wz ⟨rfl,rfl⟩
            go_wp2_with fail
            go_meet
            case rel=>exact CT.more ⟨n,L,M,st,HN2.out,CS.less H1.out HJK.out⟩ (by omega)
          have t2:(d == 2) = false:=by simp [d2]
          have t3:(d == 3) = false:=by simp [d3]
          have t4:(d == 4) = false:=by simp [d4]
          have t5:(d == 5) = false:=by simp [d5]
          have t6:(d == 6) = false:=by simp [d6]
          have t7:(d == 7) = false:=by simp [d7]
          clear d2 d3 d4 d5 d6 d7
          go_wp2_with fail
          go_meet
          case rel=>exact (HC2.out.less HJK.out).more (by omega)
        case' rest =>
          obtain ⟨n,L,M,st,hn,hcs⟩:=hcut.ex
          have HN3:=hid hn
          have H0:=hid hcs
          clear hcut hcs hn e0 e1 e2 e3 HB4 HC2 HKJ HJA HJK hx0 hx1 hx
          have c:=cs_on HK.out H0.out at_ (by have:=HAL.out;omega)
          unfold addr0 at c
          have CQ:=hid c;clear c
          go_wp2_with fail
          with_reducible refine CQ.out.mono ?_
          rintro e wf0 ⟨⟨⟨a0,a1,a2,a3,a4,a5,a6⟩,sk,fk,fa⟩,hA,rfl,h1⟩
          have HA:=hid hA;clear hA
          unfold Ans.v stopC Td.Ins.cells
          obtain ⟨b1,b2,b3⟩:=boxes (w:=wf0) (Td.I7 a0 a1 a2 a3 a4 a5 a6) #[.int .i64 sk,.int .i64 fk,.int .u64 fa] 47 49
          have H1:=hid (h1.bl' b3)
          clear CQ h1 b3 H0
          go_upto_region 38 with (fail)
          obtain ⟨s0,hs⟩:∃ z,z = wf0.heap.size:=⟨_,rfl⟩
          rw [← hs] at b1 b2 ⊢
          clear hs
          have P00:=hid b1
          have Q00:=hid b2
          clear b1 b2
          generalize (wf0.alloc (.cells (Td.I7 a0 a1 a2 a3 a4 a5 a6) 47)).alloc (.cells #[.int .i64 sk,.int .i64 fk,.int .u64 fa] 49) = wg0 at *
          have c:=cs_off HK.out H1.out at_ (by have:=HAL.out;omega)
          unfold addr0 at c
          have CQ:=hid c;clear c
          go_wp2_with fail
          with_reducible refine CQ.out.mono ?_
          rintro e wf1 ⟨A,hA,rfl,h1,kb⟩
          obtain rfl:=hA.one HA.out
          clear hA
          unfold Ans.v stopC Td.Ins.cells
          obtain ⟨b1,b2,b3⟩:=boxes (w:=wf1) (Td.I7 a0 a1 a2 a3 a4 a5 a6) #[.int .i64 sk,.int .i64 fk,.int .u64 fa] 47 49
          have H2:=hid (h1.bl' b3)
          have P01:=hid ((kb.trans b3).at_ P00.out)
          have Q01:=hid ((kb.trans b3).at_ Q00.out)
          clear P00 Q00
          clear CQ h1 b3 H1 kb
          go_upto_region 39 with (fail)
          obtain ⟨s1,hs⟩:∃ z,z = wf1.heap.size:=⟨_,rfl⟩
          rw [← hs] at b1 b2 ⊢
          clear hs
          have P11:=hid b1
          have Q11:=hid b2
          clear b1 b2
          generalize (wf1.alloc (.cells (Td.I7 a0 a1 a2 a3 a4 a5 a6) 47)).alloc (.cells #[.int .i64 sk,.int .i64 fk,.int .u64 fa] 49) = wg1 at *
          have c:=cs_nil HK.out H2.out at_ (by have:=HAL.out;omega)
          unfold addr0 at c
          have CQ:=hid c;clear c
          go_wp2_with fail
          with_reducible refine CQ.out.mono ?_
          rintro e wf2 ⟨A,hA,rfl,h1,kb⟩
          obtain rfl:=hA.one HA.out
          clear hA
          unfold Ans.v stopC Td.Ins.cells
          obtain ⟨b1,b2,b3⟩:=boxes (w:=wf2) (Td.I7 a0 a1 a2 a3 a4 a5 a6) #[.int .i64 sk,.int .i64 fk,.int .u64 fa] 47 49
          have H3:=hid (h1.bl' b3)
          have P02:=hid ((kb.trans b3).at_ P01.out)
          have Q02:=hid ((kb.trans b3).at_ Q01.out)
          clear P01 Q01
          have P12:=hid ((kb.trans b3).at_ P11.out)
          have Q12:=hid ((kb.trans b3).at_ Q11.out)
          clear P11 Q11
          clear CQ h1 b3 H2 kb
          go_upto_region 40 with (fail)
          obtain ⟨s2,hs⟩:∃ z,z = wf2.heap.size:=⟨_,rfl⟩
          rw [← hs] at b1 b2 ⊢
          clear hs
          have P22:=hid b1
          have Q22:=hid b2
          clear b1 b2
          generalize (wf2.alloc (.cells (Td.I7 a0 a1 a2 a3 a4 a5 a6) 47)).alloc (.cells #[.int .i64 sk,.int .i64 fk,.int .u64 fa] 49) = wg2 at *
          have c:=cs_inst HK.out H3.out at_ (by have:=HAL.out;omega)
          unfold addr0 at c
          have CQ:=hid c;clear c
          go_wp2_with fail
          with_reducible refine CQ.out.mono ?_
          rintro e wf3 ⟨A,hA,rfl,h1,kb⟩
          obtain rfl:=hA.one HA.out
          clear hA
          unfold Ans.v stopC Td.Ins.cells
          obtain ⟨b1,b2,b3⟩:=boxes (w:=wf3) (Td.I7 a0 a1 a2 a3 a4 a5 a6) #[.int .i64 sk,.int .i64 fk,.int .u64 fa] 47 49
          have H4:=hid (h1.bl' b3)
          have P03:=hid ((kb.trans b3).at_ P02.out)
          have Q03:=hid ((kb.trans b3).at_ Q02.out)
          clear P02 Q02
          have P13:=hid ((kb.trans b3).at_ P12.out)
          have Q13:=hid ((kb.trans b3).at_ Q12.out)
          clear P12 Q12
          have P23:=hid ((kb.trans b3).at_ P22.out)
          have Q23:=hid ((kb.trans b3).at_ Q22.out)
          clear P22 Q22
          clear CQ h1 b3 H3 kb
          go_upto_region 41 with (fail)
          obtain ⟨s3,hs⟩:∃ z,z = wf3.heap.size:=⟨_,rfl⟩
          rw [← hs] at b1 b2 ⊢
          clear hs
          have P33:=hid b1
          have Q33:=hid b2
          clear b1 b2
          generalize (wf3.alloc (.cells (Td.I7 a0 a1 a2 a3 a4 a5 a6) 47)).alloc (.cells #[.int .i64 sk,.int .i64 fk,.int .u64 fa] 49) = wg3 at *
          obtain ⟨x00,x01,x02,x03,x04,x05,x06⟩:=seven_at P03.out
          obtain ⟨y00,y01,y02⟩:=three_at Q03.out
          obtain ⟨x10,x11,x12,x13,x14,x15,x16⟩:=seven_at P13.out
          obtain ⟨y10,y11,y12⟩:=three_at Q13.out
          obtain ⟨x20,x21,x22,x23,x24,x25,x26⟩:=seven_at P23.out
          obtain ⟨y20,y21,y22⟩:=three_at Q23.out
          obtain ⟨x30,x31,x32,x33,x34,x35,x36⟩:=seven_at P33.out
          obtain ⟨y30,y31,y32⟩:=three_at Q33.out
          have L1:=hid (clen_off H4.out.off_)
          have L2:=hid (clen_nil wg3)
          have L3:=hid (cs_len H4.out)
          unfold addr0 at L1 L3
          clear P03 Q03 P13 Q13 P23 Q23 P33 Q33
          go_wp2_with fail
          with_reducible refine L1.out.mono ?_
          rintro e wh ⟨rfl,rfl⟩
          go_wp2_with fail
          with_reducible refine L2.out.mono ?_
          rintro e wh ⟨rfl,rfl⟩
          go_wp2_with fail
          with_reducible refine L3.out.mono ?_
          rintro e wh ⟨q,rfl,hq,rfl⟩
          go_wp2_with fail
          go_roundw
          case rel=>exact ⟨k + 1,by omega,by omega,by go_num,CT.more ⟨n,L,M,st,HN3.out,H4.out⟩ (by have:=HN.out;omega)⟩
          case measure=>simp [intOf];omega
      · obtain ⟨_,_,_,_,_,hbl⟩:=HC.out.ex
        have HBL:=hid hbl.bl
        clear hbl HC
        have hq:¬ ((k:Int) < 80)∧((k:Int) < (l2:Int)) ∨ ¬ ((k:Int) < (l2:Int)):=by omega
        rcases hq with ⟨q3,q4⟩ | q3
        all_goals
          go_wp2_with fail
          go_ret
          exact ⟨rfl,HBL.out⟩
end Go.Proofs.YtbngjbmfkekdnaaGreatDoor
