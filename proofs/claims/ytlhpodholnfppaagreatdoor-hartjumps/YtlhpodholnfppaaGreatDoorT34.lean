/-
  Three machines side by side.
  HartRuns's walk.
  HartJumps's words.
-/
import Derived.Test.YtlhpodholnfppaaGreatDoorT33
import Derived.Lib.Hide
set_option linter.unusedVariables false
set_option linter.unusedSimpArgs false
set_option maxHeartbeats 16000000
open Go.Lib (hid)
namespace Go.Proofs.YtlhpodholnfppaaGreatDoor
open Go.RowKit
set_option maxRecDepth 100000
structure Mc where
  h:Nat
  sb:Nat
  c:Nat
  B:Nat
  n:Nat
  on:Bool
  s:St
  M:Nat → Int
  st:Nat → Int
def SoloM (K:Nat → Prop) (w:World) (m:Mc):Prop:=Solo K w m.h m.sb m.c m.B m.n m.on m.s m.M m.st
structure Apart (w:World) (K1 K2:Nat → Prop) (a b:Mc):Prop where
  cov:∀ x,x < w.heap.size → K1 x ∨ K2 x
  in1:K2 a.h∧K2 a.c∧K2 a.B
  in2:K1 b.h∧K1 b.c∧K1 b.B
  ne:a.h ≠ b.h∧a.h ≠ b.c∧a.h ≠ b.B∧a.B ≠ b.h∧a.B ≠ b.c∧a.B ≠ b.B∧a.c ≠ b.h∧a.c ≠ b.B
  lo:∀ x,x < 21 → K1 x∧K2 x
  ge:21 ≤ a.h∧21 ≤ a.B∧21 ≤ b.h∧21 ≤ b.B
section
variable {w w':World} {K1 K2 L1 L2:Nat → Prop} {a b c:Mc}
theorem Apart.symm (h:Apart w K1 K2 a b):Apart w K2 K1 b a:=by
  obtain ⟨n1,n2,n3,n4,n5,n6,n7,n8⟩:=h.ne
  exact ⟨fun x hx=>(h.cov x hx).symm,h.in2,h.in1,⟨n1.symm,n7.symm,n4.symm,n3.symm,n8.symm,n6.symm,n2.symm,n5.symm⟩,fun x hx=>(h.lo x hx).symm,⟨h.ge.2.2.1,h.ge.2.2.2,h.ge.1,h.ge.2.1⟩⟩
theorem Apart.hU (h:Apart w K1 K2 a b) (x:Nat) (hx:x < w.heap.size) (e:¬ K1 x ∨ x = a.h ∨ x = a.B):K2 x∧x ≠ b.h∧x ≠ b.c∧x ≠ b.B∧21 ≤ x:=by
  obtain ⟨n1,n2,n3,n4,n5,n6,n7,n8⟩:=h.ne
  rcases e with e | rfl | rfl
  · refine ⟨(h.cov x hx).resolve_left e,fun q=>e (q ▸ h.in2.1),fun q=>e (q ▸ h.in2.2.1),fun q=>e (q ▸ h.in2.2.2),Classical.byContradiction fun q=>e (h.lo x (by omega)).1⟩
  · exact ⟨h.in1.1,n1,n2,n3,h.ge.1⟩
  · exact ⟨h.in1.2.2,n4,n5,n6,h.ge.2.1⟩
theorem Apart.more (h:Apart w K1 K2 a b) (h1:∀ x,K1 x → L1 x) (h2:∀ x,K2 x → L2 x) (hn:∀ x,w.heap.size ≤ x → x < w'.heap.size → L1 x ∨ L2 x):Apart w' L1 L2 a b:=
  ⟨fun x hx=>by
    by_cases hw:x < w.heap.size
    · exact (h.cov x hw).imp (h1 x) (h2 x)
    · exact hn x (by omega) hx,⟨h2 _ h.in1.1,h2 _ h.in1.2.1,h2 _ h.in1.2.2⟩,⟨h1 _ h.in2.1,h1 _ h.in2.2.1,h1 _ h.in2.2.2⟩,h.ne,fun x hx=>⟨h1 x (h.lo x hx).1,h2 x (h.lo x hx).2⟩,h.ge⟩
theorem Apart.made {w1 w2:World} {kb rb:Nat} {rl:List Int} (ha:a.h < w1.heap.size∧a.c < w1.heap.size∧a.B < w1.heap.size) (hg:21 ≤ a.h∧21 ≤ a.B) (hl:∀ x,x < 21 → K1 x) (h21:21 ≤ w1.heap.size) (hn:∀ x,w1.heap.size ≤ x → x < w2.heap.size → K1 x) (hm:Made w1 w2 b.h kb b.sb rb b.c b.B b.n b.on rl b.M b.st K2):Apart w2 K1 K2 a b:=by
  obtain ⟨l1,l2,l3,l4⟩:=hm.lo
  have h1:=hm.ht.lt
  obtain ⟨h2,h3⟩:=hm.lt
  exact ⟨fun x hx=>by
    by_cases hw:x < w1.heap.size
    · exact .inr (hm.old x hw)
    · exact .inl (hn x (by omega) hx),⟨hm.old _ ha.1,hm.old _ ha.2.1,hm.old _ ha.2.2⟩,⟨hn _ l1 h1,hn _ l3 h2,hn _ l4 h3⟩,⟨by omega,by omega,by omega,by omega,by omega,by omega,by omega,by omega⟩,fun x hx=>⟨hl x hx,hm.old x (by omega)⟩,⟨hg.1,hg.2,by omega,by omega⟩⟩
def OutOf (K:Nat → Prop) (m:Mc) (x:Nat):Prop:=K x∧x ≠ m.h∧x ≠ m.c∧x ≠ m.B∧21 ≤ x
structure Trio (J:Nat → Prop) (w:World) (a b c:Mc):Prop where
  ex:∃ Ka Kb Kc,SoloM Ka w a∧SoloM Kb w b∧SoloM Kc w c∧Apart w Ka Kb a b∧Apart w Ka Kc a c∧Apart w Kb Kc b c∧∀ x,J x → (OutOf Ka a x∧OutOf Kb b x∧OutOf Kc c x)
variable {J:Nat → Prop}
theorem Trio.rot (h:Trio J w a b c):Trio J w b c a:=by
  obtain ⟨Ka,Kb,Kc,h1,h2,h3,h4,h5,h6,h7⟩:=h.ex
  exact ⟨Kb,Kc,Ka,h2,h3,h1,h6,h4.symm,h5.symm,fun x hx=>⟨(h7 x hx).2.1,(h7 x hx).2.2,(h7 x hx).1⟩⟩
theorem SoloM.more {K:Nat → Prop} {m:Mc} (h:SoloM K w m) (k:Bl w w'):∃ K',SoloM K' w' m∧(∀ b,K b → K' b)∧(∀ x,w.heap.size ≤ x → x < w'.heap.size → K' x)∧(∀ x,OutOf K m x → OutOf K' m x)∧(∀ x,w.heap.size ≤ x → x < w'.heap.size → OutOf K' m x):=by
  obtain ⟨K',h1,h2,h3⟩:=Solo.more h k
  have hl:=Solo.lt h
  have ht:20 < w.heap.size:=(Solo.tabs h).lt (by decide)
  exact ⟨K',h1,h2,h3,fun x hx=>⟨h2 x hx.1,hx.2⟩,fun x g1 g2=>⟨h3 x g1 g2,by omega,by omega,by omega,by omega⟩⟩
theorem SoloM.moreFr {K U:Nat → Prop} {m:Mc} (h:SoloM K w m) (k:Fr U w w') (hU:∀ x,x < w.heap.size → U x → OutOf K m x):∃ K',SoloM K' w' m∧(∀ b,K b → K' b)∧(∀ x,w.heap.size ≤ x → x < w'.heap.size → K' x)∧(∀ x,OutOf K m x → OutOf K' m x)∧(∀ x,w.heap.size ≤ x → x < w'.heap.size → OutOf K' m x):=by
  obtain ⟨K',h1,h2,h3⟩:=Solo.moreFr h k hU
  have hl:=Solo.lt h
  have ht:20 < w.heap.size:=(Solo.tabs h).lt (by decide)
  exact ⟨K',h1,h2,h3,fun x hx=>⟨h2 x hx.1,hx.2⟩,fun x g1 g2=>⟨h3 x g1 g2,by omega,by omega,by omega,by omega⟩⟩
theorem Trio.fr {U:Nat → Prop} (h:Trio J w a b c) (k:Fr U w w') (hU:∀ x,x < w.heap.size → U x → J x):Trio (fun x=>J x ∨ (w.heap.size ≤ x∧x < w'.heap.size)) w' a b c:=by
  obtain ⟨Ka,Kb,Kc,h1,h2,h3,h4,h5,h6,h7⟩:=h.ex
  obtain ⟨Ka',a1,a2,a3,a4,a5⟩:=h1.moreFr k (fun x hx e=>(h7 x (hU x hx e)).1)
  obtain ⟨Kb',b1,b2,b3,b4,b5⟩:=h2.moreFr k (fun x hx e=>(h7 x (hU x hx e)).2.1)
  obtain ⟨Kc',c1,c2,c3,c4,c5⟩:=h3.moreFr k (fun x hx e=>(h7 x (hU x hx e)).2.2)
  exact ⟨Ka',Kb',Kc',a1,b1,c1,h4.more a2 b2 (fun x g1 g2=>.inl (a3 x g1 g2)),h5.more a2 c2 (fun x g1 g2=>.inl (a3 x g1 g2)),h6.more b2 c2 (fun x g1 g2=>.inl (b3 x g1 g2)),fun x hx=>by
    rcases hx with hx | ⟨g1,g2⟩
    · exact ⟨a4 x (h7 x hx).1,b4 x (h7 x hx).2.1,c4 x (h7 x hx).2.2⟩
    · exact ⟨a5 x g1 g2,b5 x g1 g2,c5 x g1 g2⟩⟩
theorem Trio.bl (h:Trio J w a b c) (k:Bl w w'):Trio (fun x=>J x ∨ (w.heap.size ≤ x∧x < w'.heap.size)) w' a b c:=h.fr (U:=fun _=>False) (Fr.of_bl k) (fun x _ e=>e.elim)
theorem Trio.after {Ka Kb Kc:Nat → Prop} {m:Nat} {s':St} {M' st':Nat → Int} (h2:SoloM Kb w b) (h3:SoloM Kc w c) (h4:Apart w Ka Kb a b) (h5:Apart w Ka Kc a c) (h6:Apart w Kb Kc b c) (h7:∀ x,J x → (OutOf Ka a x∧OutOf Kb b x∧OutOf Kc c x)) (hs:Solo Ka w' a.h a.sb a.c a.B m a.on s' M' st') (f:Fr (fun x=>¬ Ka x ∨ x = a.h ∨ x = a.B) w w') :
    Trio J w' { a with n:=m,s:=s',M:=M',st:=st' } b c∧Fr (fun x=>¬ J x∧21 ≤ x) w w':=by
  obtain ⟨Kb',b1,b2,b3,b4,b5⟩:=h2.moreFr f h4.hU
  obtain ⟨Kc',c1,c2,c3,c4,c5⟩:=h3.moreFr f h5.hU
  have q4:Apart w' Ka Kb' a b:=h4.more (fun x hx=>hx) b2 (fun x g1 g2=>.inr (b3 x g1 g2))
  have q5:Apart w' Ka Kc' a c:=h5.more (fun x hx=>hx) c2 (fun x g1 g2=>.inr (c3 x g1 g2))
  refine ⟨⟨Ka,Kb',Kc',hs,b1,c1,⟨q4.cov,q4.in1,q4.in2,q4.ne,q4.lo,q4.ge⟩,⟨q5.cov,q5.in1,q5.in2,q5.ne,q5.lo,q5.ge⟩,h6.more b2 c2 (fun x g1 g2=>.inl (b3 x g1 g2)),fun x hx=>⟨(h7 x hx).1,b4 x (h7 x hx).2.1,c4 x (h7 x hx).2.2⟩⟩,f.mono fun x hx e=>⟨fun hj=>?_,(h4.hU x hx e).2.2.2.2⟩⟩
  obtain ⟨g1,g2,_,g3,_⟩:=(h7 x hj).1
  rcases e with e | e | e
  · exact e g1
  · exact g2 e
  · exact g3 e
theorem Trio.run (h:Trio J w a b c) (f:Nat) (hf:f < 100000) (hn:a.n < 70000000) :
    Calls Tryz.prog 18 #[addr0 a.h,.int .i64 (f:Int)] w fun e w'=>∃ k fk fa u s' M' st',RunIs l3 a.M a.s f k fk fa u s' M'∧e = .returned (.tuple #[stopV k fk fa,.int .i64 (u:Int)])∧Trio J w' { a with n:=a.n + 9 * f + 9,s:=s',M:=M',st:=st' } b c∧Fr (fun x=>¬ J x∧21 ≤ x) w w':=by
  obtain ⟨Ka,Kb,Kc,h1,h2,h3,h4,h5,h6,h7⟩:=h.ex
  refine (Solo.run h1 f hf hn).mono ?_
  rintro e w' ⟨k,fk,fa,u,s',M',st',g1,g2,g3,g4⟩
  obtain ⟨q1,q2⟩:=Trio.after h2 h3 h4 h5 h6 h7 g3 g4
  exact ⟨k,fk,fa,u,s',M',st',g1,g2,q1,q2⟩
theorem Trio.step (h:Trio J w a b c) (hn:a.n < 80000000) :
    Calls Tryz.prog 11 #[addr0 a.h] w fun e w'=>∃ k fk fa s' M' st',MacIs l3 a.M a.s k fk fa s' M'∧e = .returned (stopV k fk fa)∧Trio J w' { a with n:=a.n + 9,s:=s',M:=M',st:=st' } b c∧Fr (fun x=>¬ J x∧21 ≤ x) w w':=by
  obtain ⟨Ka,Kb,Kc,h1,h2,h3,h4,h5,h6,h7⟩:=h.ex
  refine (Solo.step h1 hn).mono ?_
  rintro e w' ⟨k,fk,fa,s',M',st',g1,g2,g3,g4⟩
  obtain ⟨q1,q2⟩:=Trio.after h2 h3 h4 h5 h6 h7 g3 g4
  exact ⟨k,fk,fa,s',M',st',g1,g2,q1,q2⟩
theorem Trio.state (h:Trio J w a b c):Calls Tryz.prog 17 #[addr0 a.h] w fun e w'=>e = .returned (.agg (stV a.s.pc a.s.xs a.s.ha a.s.hn).toArray)∧Bl w w':=by
  obtain ⟨Ka,Kb,Kc,h1,h2⟩:=h.ex
  exact Solo.state h1
theorem Trio.tabs (h:Trio J w a b c):Td.TabsS w:=by
  obtain ⟨Ka,Kb,Kc,h1,h2⟩:=h.ex
  exact Solo.tabs h1
theorem Trio.len (h:Trio J w a b c):a.s.xs.length = 32:=by
  obtain ⟨Ka,Kb,Kc,h1,h2⟩:=h.ex
  exact (Solo.regs h1).len
theorem trio_made {w0 w1 w2 w3:World} {kb1 kb2 kb3 rb1 rb2 rb3:Nat} {rl:List Int} {K1 K2 K3:Nat → Prop} (hr:Regs rl) (hT:Td.TabsS w0) (ha:a.s = ⟨65536,rl,0,0⟩) (hb:b.s = ⟨65536,rl,0,0⟩) (hc:c.s = ⟨65536,rl,0,0⟩)
    (m1:Made w0 w1 a.h kb1 a.sb rb1 a.c a.B a.n a.on rl a.M a.st K1) (m2:Made w1 w2 b.h kb2 b.sb rb2 b.c b.B b.n b.on rl b.M b.st K2) (m3:Made w2 w3 c.h kb3 c.sb rb3 c.c c.B c.n c.on rl c.M c.st K3):Trio (fun x=>21 ≤ x∧x < w0.heap.size) w3 a b c:=by
  have s1:SoloM K1 w1 a:=by unfold SoloM;rw [ha];exact m1.solo hr hT
  have s2:SoloM K2 w2 b:=by unfold SoloM;rw [hb];exact m2.solo hr (hT.bl m1.bl)
  have s3:SoloM K3 w3 c:=by unfold SoloM;rw [hc];exact m3.solo hr ((hT.bl m1.bl).bl m2.bl)
  have h0:20 < w0.heap.size:=hT.lt (by decide)
  have z1:=m1.bl.size
  have z2:=m2.bl.size
  have z3:=m3.bl.size
  obtain ⟨Ka,a1,a2,a3,a4,a5⟩:=s1.more m2.bl
  obtain ⟨Kx,x1,x2,x3,x4,x5⟩:=a1.more m3.bl
  obtain ⟨Ky,y1,y2,y3,y4,y5⟩:=s2.more m3.bl
  have p12:Apart w2 Ka K2 a b:=Apart.made (by have:=Solo.lt s1;omega) (by have:=m1.lo;omega) (fun x hx=>a2 _ (m1.old x (by omega))) (by omega) a3 m2
  have p13:Apart w3 Kx K3 a c:=Apart.made (by have:=Solo.lt a1;omega) (by have:=m1.lo;omega) (fun x hx=>x2 _ (a2 _ (m1.old x (by omega)))) (by omega) x3 m3
  have p23:Apart w3 Ky K3 b c:=Apart.made (by have:=Solo.lt s2;omega) (by have:=m2.lo;omega) (fun x hx=>y2 _ (m2.old x (by omega))) (by omega) y3 m3
  refine ⟨Kx,Ky,K3,x1,y1,s3,p12.more x2 y2 (fun x g1 g2=>.inl (x3 x g1 g2)),p13,p23,fun x hx=>?_⟩
  obtain ⟨l1,_,l2,l3⟩:=m1.lo
  obtain ⟨l4,_,l5,l6⟩:=m2.lo
  obtain ⟨l7,_,l8,l9⟩:=m3.lo
  exact ⟨⟨x2 _ (a2 _ (m1.old x hx.2)),by omega,by omega,by omega,hx.1⟩,⟨y2 _ (m2.old x (by omega)),by omega,by omega,by omega,hx.1⟩,⟨m3.old x (by omega),by omega,by omega,by omega,hx.1⟩⟩
end
end Go.Proofs.YtlhpodholnfppaaGreatDoor

namespace Go.Proofs.YtlhpodholnfppaaGreatDoor
open Go.RowKit
set_option maxRecDepth 100000
theorem RunIs.le {L:List Rg} {M M1:Nat → Int} {s s1:St} {f u:Nat} {k fk fa:Int} (h:RunIs L M s f k fk fa u s1 M1):u ≤ f:=by
  obtain ⟨_,_,_,h2⟩:=h
  rcases h2 with ⟨e,_⟩ | ⟨e,_⟩ <;> omega
theorem Trio.more {J:Nat → Prop} {w w':World} {a b c:Mc} (h:Trio J w a b c) (k:Bl w w'):∃ J',Trio J' w' a b c∧(∀ x,J x → J' x)∧∀ x,w.heap.size ≤ x → x < w'.heap.size → J' x:=
  ⟨_,h.bl k,fun x hx=>.inl hx,fun x h1 h2=>.inr ⟨h1,h2⟩⟩
theorem Trio.moreFr {J U:Nat → Prop} {w w':World} {a b c:Mc} (h:Trio J w a b c) (k:Fr U w w') (hU:∀ x,x < w.heap.size → U x → J x):∃ J',Trio J' w' a b c∧(∀ x,J x → J' x)∧∀ x,w.heap.size ≤ x → x < w'.heap.size → J' x:=
  ⟨_,h.fr k hU,fun x hx=>.inl hx,fun x h1 h2=>.inr ⟨h1,h2⟩⟩
theorem keptJ {J:Nat → Prop} {x:Nat} (h:J x):¬ (¬ J x∧21 ≤ x):=fun e=>e.1 h
structure Box (J:Nat → Prop) (w:World) (b:Nat) (k fk fa:Int):Prop where
  at_:w.heap[b]? = some (.cells #[.int .i64 k,.int .i64 fk,.int .u64 fa] 33 (0,0))
  j:J b
section
variable {J J':Nat → Prop} {w w':World} {b:Nat} {k fk fa:Int}
theorem Box.fr (h:Box J w b k fk fa) (f:Fr (fun x=>¬ J x∧21 ≤ x) w w'):Box J w' b k fk fa:=⟨f.at_ h.at_ (keptJ h.j),h.j⟩
theorem Box.bl (h:Box J w b k fk fa) (f:Bl w w') (hJ:∀ x,J x → J' x):Box J' w' b k fk fa:=⟨f.at_ h.at_,hJ _ h.j⟩
theorem Box.fr' {U:Nat → Prop} (h:Box J w b k fk fa) (f:Fr U w w') (hb:¬ U b) (hJ:∀ x,J x → J' x):Box J' w' b k fk fa:=⟨f.at_ h.at_ hb,hJ _ h.j⟩
theorem bl_kept {w0:World} (h:Bl w0 w) (f:Fr (fun x=>¬ J x∧21 ≤ x) w w') (hJ:∀ x,21 ≤ x → x < w0.heap.size → J x):Bl w0 w':=bl_fr' h f (fun q hq e=>e.1 (hJ q e.2 hq))
end
theorem runs_walk {A:Option Addr} {l c:Nat} {xs:List Int} {R:Option Addr} {rl rc:Nat} {rs:Nat → Int} (w:World) (hbi:BytesIn w A l c xs) (hri:RegsIn w R rl rs) (hrl:rl ≤ 9223372036854775807) (hrb:∀ j,j < rl → 0 ≤ rs j∧rs j < 18446744073709551616) (fu mo:Int) (hfu:0 ≤ fu∧fu < 256) (hmo:0 ≤ mo∧mo < 256) (hT:Td.TabsS w) :
    Calls Tryz.prog 5 #[.slice A l c,.slice R rl rc,.int .u8 fu,.int .u8 mo] w fun e w'=>e = .returned (.bool true)∧Bl w w':=by
  obtain ⟨F,rfl⟩:=Int.eq_ofNat_of_zero_le hfu.1
  obtain ⟨G,rfl⟩:=Int.eq_ofNat_of_zero_le hmo.1
  have hF:(F:Int) < 256:=hfu.2
  have hG:(G:Int) < 256:=hmo.2
  have hF0:(0:Int) ≤ (F:Int):=by omega
  have hG0:(0:Int) ≤ (G:Int):=by omega
  have NF:=hid (show F < 256∧G < 256 by omega)
  clear hfu hmo
  have HT:=hid hT;clear hT
  have HR:=hid (rg_regs rl rs 32 hrb);clear hrb
  go_enter Tryz.func5,Tryz.ntmps5
  by_cases hl:8000 < l
  · have hI:(8000:Int) < (l:Int):=by omega
    go_wp2_with fail
    with_reducible refine (answers_any w HT.out).mono ?_
    rintro e w1 ⟨rfl,k1⟩
    go_wp2_with fail
    go_ret
    exact ⟨rfl,k1⟩
  · have hI:(l:Int) ≤ 8000:=by omega
    have hl8:l ≤ 8000:=by omega
    have C1:=hid (machines_any (rc:=rc) w hbi hl8 hri hrl true)
    have HB:=hid hbi;clear hbi
    have HRI:=hid hri;clear hri
    have HL:=hid (And.intro hl8 hrl);clear hl8 hrl hl
    go_wp2_with fail
    with_reducible refine C1.out.mono ?_
    rintro e w1 ⟨h1,kb1,sb1,rb1,c1,B1,n1,M1,st1,K1,rfl,hp1,hm1⟩
    have P1:=hid hp1;clear hp1
    have M_1:=hid hm1;clear hm1 C1
    have C2:=hid (machines_any (rc:=rc) w1 (HB.out.bl' M_1.out.bl) HL.out.1 (HRI.out.bl M_1.out.bl) HL.out.2 false)
    go_wp2_with fail
    with_reducible refine C2.out.mono ?_
    rintro e w2 ⟨h2,kb2,sb2,rb2,c2,B2,n2,M2,st2,K2,rfl,hp2,hm2⟩
    have P2:=hid hp2;clear hp2
    have M_2:=hid hm2;clear hm2 C2
    have C3:=hid (machines_any (rc:=rc) w2 (HB.out.bl' (M_1.out.bl.trans M_2.out.bl)) HL.out.1 (HRI.out.bl (M_1.out.bl.trans M_2.out.bl)) HL.out.2 true)
    go_wp2_with fail
    with_reducible refine C3.out.mono ?_
    rintro e w3 ⟨h3,kb3,sb3,rb3,c3,B3,n3,M3,st3,K3,rfl,hp3,hm3⟩
    obtain rfl:=P1.out.one P2.out
    obtain rfl:=P1.out.one hp3
    have TR:=hid (trio_made (a:=⟨h1,sb1,c1,B1,n1,true,⟨65536,rg rl rs 32,0,0⟩,M1,st1⟩) (b:=⟨h2,sb2,c2,B2,n2,false,⟨65536,rg rl rs 32,0,0⟩,M1,st2⟩) (c:=⟨h3,sb3,c3,B3,n3,true,⟨65536,rg rl rs 32,0,0⟩,M1,st3⟩) HR.out HT.out rfl rfl rfl M_1.out M_2.out hm3)
    have BL:=hid ((M_1.out.bl.trans M_2.out.bl).trans hm3.bl)
    have NN:=hid (show n1 ≤ 200000∧n2 ≤ 200000∧n3 ≤ 200000 from ⟨M_1.out.le,M_2.out.le,hm3.le⟩)
    clear hp3 hm3 P1 P2 C3 M_1 M_2 HB HRI HL HR
    unfold addr0
    have cs:=TR.out.run (F + G) (by have:=NF.out;omega) (by have:=NN.out;simp only;omega)
    rw [Int.natCast_add] at cs
    unfold addr0 at cs
    go_wp2_with fail
    --TAIL
    with_reducible refine cs.mono ?_
    rintro e w4 ⟨k1,fk1,fa1,u1,s1,N1,t1,r1,rfl,q1,f1⟩
    have R1:=hid r1;clear r1 cs
    have OLD0:Hid (∀ x,21 ≤ x → x < w.heap.size → (fun x=>21 ≤ x∧x < w.heap.size) x):=hid (fun x g1 g2=>⟨g1,g2⟩)
    have B4:=hid (bl_kept BL.out f1 OLD0.out)
    unfold stopV
    go_upto_region 8 with (fail)
    have kx:=Bl.new w4 (.cells #[.int .i64 k1,.int .i64 fk1,.int .u64 fa1] 33)
    obtain ⟨J1,q2,i1,j1⟩:=q1.more kx
    have X16:Hid (Box J1 (w4.alloc (.cells #[.int .i64 k1,.int .i64 fk1,.int .u64 fa1] 33)) w4.heap.size k1 fk1 fa1):=hid ⟨heap_alloc_new w4 _,j1 _ (Nat.le_refl _) (by simp)⟩
    have B5:=hid (B4.out.trans kx)
    have OLD1:=hid (fun x g1 g2=>i1 x (OLD0.out x g1 g2))
    have T1:=hid q2.rot
    clear kx q1 q2 i1 j1 f1 TR BL B4 OLD0
    generalize w4.alloc (.cells #[.int .i64 k1,.int .i64 fk1,.int .u64 fa1] 33) = V4 at *
    generalize w4.heap.size = t16 at *
    have cs:=T1.out.run F (by have:=NF.out;omega) (by have:=NN.out;simp only;omega)
    unfold addr0 at cs
    go_wp2_with fail
    with_reducible refine cs.mono ?_
    rintro e w5 ⟨k2,fk2,fa2,u2,s2,N2,t2,r2,rfl,q1,f1⟩
    have R2:=hid r2;clear r2 cs
    have B6:=hid (bl_kept B5.out f1 OLD1.out)
    have X16a:=hid (X16.out.fr f1)
    unfold stopV
    go_upto_region 9 with (fail)
    have kx:=Bl.new w5 (.cells #[.int .i64 k2,.int .i64 fk2,.int .u64 fa2] 33)
    obtain ⟨J2,q2,i1,j1⟩:=q1.more kx
    have X18:Hid (Box J2 (w5.alloc (.cells #[.int .i64 k2,.int .i64 fk2,.int .u64 fa2] 33)) w5.heap.size k2 fk2 fa2):=hid ⟨heap_alloc_new w5 _,j1 _ (Nat.le_refl _) (by simp)⟩
    have X16:=hid (X16a.out.bl kx i1)
    have DN:Hid (w5.heap.size ≠ t16):=hid (by have:=lt_at X16a.out.at_;omega)
    have DB:Hid (w.heap.size ≤ w5.heap.size):=hid B6.out.size
    have B5:=hid (B6.out.trans kx)
    have OLD2:=hid (fun x g1 g2=>i1 x (OLD1.out x g1 g2))
    have T2:=hid q2
    clear kx q1 q2 i1 j1 f1 B6 X16a OLD1 T1
    generalize w5.alloc (.cells #[.int .i64 k2,.int .i64 fk2,.int .u64 fa2] 33) = V5 at *
    generalize w5.heap.size = t18 at *
    obtain ⟨e0,e1,e2⟩:=three_at X18.out.at_
    rcases Classical.em (k2 = 6) with h6 | h6
    case' inl =>
      have H6:=hid h6
      subst h6
      have cs:=T2.out.run G (by have:=NF.out;omega) (by have:=NN.out;have:=NF.out;simp only;omega)
      unfold addr0 at cs
      go_wp2_with fail
      with_reducible refine cs.mono ?_
      rintro e w6 ⟨k3,fk3,fa3,u3,s3,N2,t2,r3,rfl,q1,f1⟩
      have R3:=hid (R2.out.more rfl r3);clear r3 cs e0 e1 e2
      have B6:=hid (bl_kept B5.out f1 OLD2.out)
      have X16a:=hid (X16.out.fr f1)
      have X18a:=hid (X18.out.fr f1)
      unfold stopV
      go_upto_region 11 with (fail)
      have kx:=Bl.new w6 (.cells #[.int .i64 k3,.int .i64 fk3,.int .u64 fa3] 33)
      obtain ⟨J3,q2,i1,j1⟩:=q1.more kx
      have X20:Hid (Box J3 (w6.alloc (.cells #[.int .i64 k3,.int .i64 fk3,.int .u64 fa3] 33)) w6.heap.size k3 fk3 fa3):=hid ⟨heap_alloc_new w6 _,j1 _ (Nat.le_refl _) (by simp)⟩
      have X16b:=hid (X16a.out.bl kx i1)
      have X18b:=hid (X18a.out.bl kx i1)
      have B7:=hid (B6.out.trans kx)
      have OLD3:=hid (fun x g1 g2=>i1 x (OLD2.out x g1 g2))
      have T3:=hid q2
      clear kx q1 q2 i1 j1 f1 B6 B5 X16a X18a X16 X18 OLD2 T2
      generalize w6.alloc (.cells #[.int .i64 k3,.int .i64 fk3,.int .u64 fa3] 33) = V6 at *
      generalize w6.heap.size = t20 at *
      obtain ⟨e0,e1,e2⟩:=three_at X20.out.at_
      obtain ⟨d0,d1,d2⟩:=three_at X18b.out.at_
      have z0:=free_at X18b.out.at_
      go_upto_region 12 with (fail)
      have fx:Fr (only t18) V6 (((V6.setCell ⟨t18,0,none⟩ (.int .i64 k3)).setCell ⟨t18,1,none⟩ (.int .i64 fk3)).setCell ⟨t18,2,none⟩ (.int .u64 fa3)):=((Fr.set (S:=only t18) (p:=⟨t18,0,none⟩) rfl _).trans (Fr.set (S:=only t18) (p:=⟨t18,1,none⟩) rfl _)).trans (Fr.set (S:=only t18) (p:=⟨t18,2,none⟩) rfl _)
      obtain ⟨J2,q2,i1,j1⟩:=T3.out.moreFr fx (fun x _ e=>by rw [show x = t18 from e];exact X18b.out.j)
      have X18:Hid (Box J2 (((V6.setCell ⟨t18,0,none⟩ (.int .i64 k3)).setCell ⟨t18,1,none⟩ (.int .i64 fk3)).setCell ⟨t18,2,none⟩ (.int .u64 fa3)) t18 k3 fk3 fa3):=hid ⟨set3 _ _ _ X18b.out.at_,i1 _ X18b.out.j⟩
      have X16:=hid (X16b.out.fr' fx (fun e=>DN.out (Eq.symm e)) i1)
      have B5:=hid (bl_fr' B7.out fx (fun q hq e=>by have e3:q = t18:=e;have:=DB.out;omega))
      have OLD2:=hid (fun x g1 g2=>i1 x (OLD3.out x g1 g2))
      have T2:=hid q2
      clear q2 i1 j1 fx e0 e1 e2 d0 d1 d2 z0 X20 X16b X18b B7 OLD3 T3
      generalize (((V6.setCell ⟨t18,0,none⟩ (.int .i64 k3)).setCell ⟨t18,1,none⟩ (.int .i64 fk3)).setCell ⟨t18,2,none⟩ (.int .u64 fa3)) = V5 at *
      have hu2:(u2:Int) ≤ 256:=by have:=R2.out.le;have:=NF.out;omega
      have hu3:(u3:Int) ≤ 512:=by have:=R3.out.le;have:=NF.out;omega
      have hu0:(0:Int) ≤ (u2:Int):=by omega
      have hu1:(0:Int) ≤ (u3:Int):=by omega
      clear H6
      go_upto_region 13 with (fail)
      (try simp only [Act.put])
      rw [← Int.natCast_add u2 u3]
      obtain ⟨u,hu⟩:∃ u,u = u2 + u3:=⟨_,rfl⟩
      rw [← hu] at R3 ⊢
      clear hu hu2 hu3 hu0 hu1 R2
    case' inr =>
      have h6':=nin h6
      go_upto_region 13 with (fail)
      have R3:=hid (R2.out.less (g:=G) h6);clear R2 e0 e1 e2 h6' h6
    all_goals (
      obtain ⟨rfl,rfl,rfl,rfl,rfl,rfl⟩:=R1.out.one R3.out
      go_upto_region 15 with (fail)
      have kx:=Bl.new V5 (.cells #[.int .i64 6,.int .i64 0,.int .u64 0] 33)
      obtain ⟨J5,q2,i1,j1⟩:=T2.out.rot.more kx
      have X22:Hid (Box J5 (V5.alloc (.cells #[.int .i64 6,.int .i64 0,.int .u64 0] 33)) V5.heap.size 6 0 0):=hid ⟨heap_alloc_new V5 _,j1 _ (Nat.le_refl _) (by simp)⟩
      have D22:Hid (V5.heap.size ≠ t16∧V5.heap.size ≠ t18∧w.heap.size ≤ V5.heap.size):=hid (by have:=lt_at X16.out.at_;have:=lt_at X18.out.at_;have:=B5.out.size;omega)
      have X16b:=hid (X16.out.bl kx i1)
      have X18b:=hid (X18.out.bl kx i1)
      have B7:=hid (B5.out.trans kx)
      have OLD3:=hid (fun x g1 g2=>i1 x (OLD2.out x g1 g2))
      obtain ⟨ma,mb,m1,m2,m3,m4,q3⟩:∃ ma mb:Mc,ma.h = h1∧ma.s = s1∧mb.h = h2∧mb.s = s1∧Trio J5 (V5.alloc (.cells #[.int .i64 6,.int .i64 0,.int .u64 0] 33)) ⟨h3,sb3,c3,B3,n3,true,⟨65536,rg rl rs 32,0,0⟩,M1,st3⟩ ma mb:=⟨_,_,rfl,rfl,rfl,rfl,q2⟩
      have T3:=hid q3
      have EH:=hid (And.intro m1 (And.intro m2 (And.intro m3 m4)))
      have HXL:Hid (s1.xs.length = 32):=hid (by rw [← m2];exact q3.rot.len)
      clear kx q2 q3 i1 j1 m1 m2 m3 m4 X16 X18 B5 OLD2 T2
      generalize V5.alloc (.cells #[.int .i64 6,.int .i64 0,.int .u64 0] 33) = V8 at *
      generalize V5.heap.size = t22 at *
      have hFG0:(0:Int) ≤ (F:Int) + (G:Int):=by omega
      go_loopw [23] (fun i wr=>∃ (n m:Nat) (J:Nat → Prop) (s':St) (M' st':Nat → Int),n ≤ F + G∧i = .int .i64 n∧m ≤ 200000 + 9 * n∧Iter l3 M1 ⟨65536,rg rl rs 32,0,0⟩ n M' s'∧Trio J wr ⟨h3,sb3,c3,B3,m,true,s',M',st'⟩ ma mb∧Box J wr t16 k1 fk1 fa1∧Box J wr t18 k1 fk1 fa1∧Box J wr t22 6 0 0∧Bl w wr∧∀ x,21 ≤ x → x < w.heap.size → J x) (fun i _=>F + G - (intOf i).toNat)
      case atStart=>exact ⟨0,n3,J5,_,M1,st3,by omega,rfl,by have:=NN.out;omega,Iter.zero,T3.out,X16b.out,X18b.out,X22.out,B7.out,OLD3.out⟩
      case round =>
        clear T3 X16b X18b X22 B7 OLD3
        obtain ⟨n,m,J,s',M',st',hn,rfl,hm,hit,htr,hx1,hx2,hx3,hbl,hold⟩:=hrel
        have IT:=hid hit;clear hit
        have TR:=hid htr;clear htr
        have X16:=hid hx1;clear hx1
        have X18:=hid hx2;clear hx2
        have X22:=hid hx3;clear hx3
        have BV:=hid hbl;clear hbl
        have OLD:=hid hold;clear hold
        have HM:=hid hm;clear hm
        have hn0:(0:Int) ≤ (n:Int):=by omega
        by_cases hlt:n < F + G
        · have hltI:(n:Int) < (F:Int) + (G:Int):=by omega
          have HLT:=hid hlt;clear hlt
          have HN:=hid hn;clear hn
          have cs:=TR.out.step (by have:=HM.out;have:=NF.out;have:=HN.out;simp only;omega)
          unfold addr0 at cs
          go_wp2_with fail
          with_reducible refine cs.mono ?_
          rintro e w5 ⟨k4,fk4,fa4,s4,N4,t4,r4,rfl,q1,f1⟩
          have R4:=hid r4;clear r4 cs
          have B6:=hid (bl_kept BV.out f1 OLD.out)
          have X16a:=hid (X16.out.fr f1)
          have X18a:=hid (X18.out.fr f1)
          have X22a:=hid (X22.out.fr f1)
          unfold stopV
          go_upto_region 17 with (fail)
          have kx:=Bl.new w5 (.cells #[.int .i64 k4,.int .i64 fk4,.int .u64 fa4] 33)
          obtain ⟨J6,q2,i1,j1⟩:=q1.more kx
          have X24:Hid (Box J6 (w5.alloc (.cells #[.int .i64 k4,.int .i64 fk4,.int .u64 fa4] 33)) w5.heap.size k4 fk4 fa4):=hid ⟨heap_alloc_new w5 _,j1 _ (Nat.le_refl _) (by simp)⟩
          have X16b:=hid (X16a.out.bl kx i1)
          have X18b:=hid (X18a.out.bl kx i1)
          have X22b:=hid (X22a.out.bl kx i1)
          have B7:=hid (B6.out.trans kx)
          have OLD3:=hid (fun x g1 g2=>i1 x (OLD.out x g1 g2))
          have T6:=hid q2
          clear kx q1 q2 i1 j1 f1 B6 BV X16a X18a X22a X16 X18 X22 OLD TR
          generalize w5.alloc (.cells #[.int .i64 k4,.int .i64 fk4,.int .u64 fa4] 33) = V9 at *
          generalize w5.heap.size = t24 at *
          obtain ⟨e0,e1,e2⟩:=three_at X24.out.at_
          by_cases hz:k4 = 0
          · subst hz
            have hnF:(n:Int) < 512:=by omega
            go_wp2_with fail
            refine ⟨⟨n + 1,m + 9,J6,s4,N4,t4,by have:=HLT.out;omega,by go_num,by have:=HM.out;omega,Iter.succ IT.out R4.out,T6.out,X16b.out,X18b.out,X22b.out,B7.out,OLD3.out⟩,?_⟩
            have:=HLT.out
            simp only [intOf];omega
          · have hz':=nin hz
            have RR:=R1.out.one ⟨_,_,IT.out,.inr ⟨HLT.out,hz,R4.out⟩⟩
            go_upto_region 18 with (fail)
            obtain ⟨d0,d1,d2⟩:=three_at X22b.out.at_
            have z0:=free_at X22b.out.at_
            go_upto_region 20 with (fail)
            have fx:Fr (only t22) V9 (((V9.setCell ⟨t22,0,none⟩ (.int .i64 k4)).setCell ⟨t22,1,none⟩ (.int .i64 fk4)).setCell ⟨t22,2,none⟩ (.int .u64 fa4)):=((Fr.set (S:=only t22) (p:=⟨t22,0,none⟩) rfl _).trans (Fr.set (S:=only t22) (p:=⟨t22,1,none⟩) rfl _)).trans (Fr.set (S:=only t22) (p:=⟨t22,2,none⟩) rfl _)
            obtain ⟨J7,q2,i1,j1⟩:=T6.out.moreFr fx (fun x _ e=>by rw [show x = t22 from e];exact X22b.out.j)
            have X22:Hid (Box J7 (((V9.setCell ⟨t22,0,none⟩ (.int .i64 k4)).setCell ⟨t22,1,none⟩ (.int .i64 fk4)).setCell ⟨t22,2,none⟩ (.int .u64 fa4)) t22 k4 fk4 fa4):=hid ⟨set3 _ _ _ X22b.out.at_,i1 _ X22b.out.j⟩
            have X16:=hid (X16b.out.fr' fx (fun e=>D22.out.1 (Eq.symm e)) i1)
            have X18:=hid (X18b.out.fr' fx (fun e=>D22.out.2.1 (Eq.symm e)) i1)
            have BV:=hid (bl_fr' B7.out fx (fun q hq e=>by have e3:q = t22:=e;have:=D22.out;omega))
            have TRV:=hid q2
            clear q2 i1 j1 fx e0 e1 e2 d0 d1 d2 z0 X24 X16b X18b X22b B7 OLD3 T6
            generalize (((V9.setCell ⟨t22,0,none⟩ (.int .i64 k4)).setCell ⟨t22,1,none⟩ (.int .i64 fk4)).setCell ⟨t22,2,none⟩ (.int .u64 fa4)) = VV at *
            obtain ⟨rfl,rfl,rfl,rfl,rfl,rfl⟩:=RR
            have ca:=answers_any VV TRV.out.tabs
            go_wp2_with fail
            with_reducible refine ca.mono ?_
            rintro e wa ⟨rfl,ka⟩
            clear ca
            obtain ⟨e0,e1,e2⟩:=three_at (ka.at_ X16.out.at_)
            obtain ⟨g0,g1,g2⟩:=three_at (ka.at_ X18.out.at_)
            obtain ⟨h0,h1_,h2_⟩:=three_at (ka.at_ X22.out.at_)
            have TA:=hid (TRV.out.bl ka)
            have KA:=hid (BV.out.trans ka);clear ka
            have ct:=TA.out.rot.state
            rw [EH.out.1,EH.out.2.1] at ct
            unfold addr0 at ct
            go_wp2_with fail
            with_reducible refine ct.mono ?_
            rintro e wb ⟨rfl,kb_⟩
            clear e0 e1 e2 g0 g1 g2 h0 h1_ h2_ ct
            have TB:=hid (TA.out.bl kb_)
            have KB:=hid (KA.out.trans kb_);clear kb_ KA
            have ct:=TB.out.rot.rot.state
            rw [EH.out.2.2.1,EH.out.2.2.2] at ct
            unfold addr0 at ct
            go_wp2_with fail
            with_reducible refine ct.mono ?_
            rintro e wc ⟨rfl,kc_⟩
            have TC_:=hid (TB.out.bl kc_)
            have KC:=hid (KB.out.trans kc_);clear kc_ KB ct
            have hq:=fun W=>state_eql s1.pc s1.ha s1.hn HXL.out W
            have ct:=TC_.out.rot.state
            rw [EH.out.1,EH.out.2.1] at ct
            unfold addr0 at ct
            go_wp2_with (first
              | (refine wplE _ (by rfl) 47 47 (.tmp 114) (.tmp 116) rfl _ _ true rfl rfl (run_eqGuard_agg _ _ _ _ _ _ _ Tryz.eqGuardType47) (hq _) ?_)
              | fail)
            with_reducible refine ct.mono ?_
            rintro e wd ⟨rfl,kd_⟩
            have TD:=hid (TC_.out.bl kd_)
            have KD:=hid (KC.out.trans kd_);clear kd_ KC ct
            have ct:=TD.out.state
            unfold addr0 at ct
            go_wp2_with fail
            with_reducible refine ct.mono ?_
            rintro e we ⟨rfl,ke_⟩
            have KE:=hid (KD.out.trans ke_);clear ke_ KD ct
            go_wp2_with (first
              | (refine wplE _ (by rfl) 47 47 (.tmp 121) (.tmp 123) rfl _ _ true rfl rfl (run_eqGuard_agg _ _ _ _ _ _ _ Tryz.eqGuardType47) (hq _) ?_)
              | fail)
            go_ret
            exact ⟨rfl,KE.out⟩
        · obtain rfl:n = F + G:=by omega
          obtain ⟨rfl,rfl,rfl,rfl,rfl,rfl⟩:=R1.out.one ⟨_,_,IT.out,.inl ⟨rfl,rfl,rfl,rfl,rfl,rfl⟩⟩
          have TRV:=TR
          obtain ⟨VV,hVV⟩:∃ VV,VV = wr:=⟨_,rfl⟩
          subst hVV
          have ca:=answers_any VV TRV.out.tabs
          go_wp2_with fail
          with_reducible refine ca.mono ?_
          rintro e wa ⟨rfl,ka⟩
          clear ca
          obtain ⟨e0,e1,e2⟩:=three_at (ka.at_ X16.out.at_)
          obtain ⟨g0,g1,g2⟩:=three_at (ka.at_ X18.out.at_)
          obtain ⟨h0,h1_,h2_⟩:=three_at (ka.at_ X22.out.at_)
          have TA:=hid (TRV.out.bl ka)
          have KA:=hid (BV.out.trans ka);clear ka
          have ct:=TA.out.rot.state
          rw [EH.out.1,EH.out.2.1] at ct
          unfold addr0 at ct
          go_wp2_with fail
          with_reducible refine ct.mono ?_
          rintro e wb ⟨rfl,kb_⟩
          clear e0 e1 e2 g0 g1 g2 h0 h1_ h2_ ct
          have TB:=hid (TA.out.bl kb_)
          have KB:=hid (KA.out.trans kb_);clear kb_ KA
          have ct:=TB.out.rot.rot.state
          rw [EH.out.2.2.1,EH.out.2.2.2] at ct
          unfold addr0 at ct
          go_wp2_with fail
          with_reducible refine ct.mono ?_
          rintro e wc ⟨rfl,kc_⟩
          have TC_:=hid (TB.out.bl kc_)
          have KC:=hid (KB.out.trans kc_);clear kc_ KB ct
          have hq:=fun W=>state_eql s1.pc s1.ha s1.hn HXL.out W
          have ct:=TC_.out.rot.state
          rw [EH.out.1,EH.out.2.1] at ct
          unfold addr0 at ct
          go_wp2_with (first
            | (refine wplE _ (by rfl) 47 47 (.tmp 114) (.tmp 116) rfl _ _ true rfl rfl (run_eqGuard_agg _ _ _ _ _ _ _ Tryz.eqGuardType47) (hq _) ?_)
            | fail)
          with_reducible refine ct.mono ?_
          rintro e wd ⟨rfl,kd_⟩
          have TD:=hid (TC_.out.bl kd_)
          have KD:=hid (KC.out.trans kd_);clear kd_ KC ct
          have ct:=TD.out.state
          unfold addr0 at ct
          go_wp2_with fail
          with_reducible refine ct.mono ?_
          rintro e we ⟨rfl,ke_⟩
          have KE:=hid (KD.out.trans ke_);clear ke_ KD ct
          go_wp2_with (first
            | (refine wplE _ (by rfl) 47 47 (.tmp 121) (.tmp 123) rfl _ _ true rfl rfl (run_eqGuard_agg _ _ _ _ _ _ _ Tryz.eqGuardType47) (hq _) ?_)
            | fail)
          go_ret
          exact ⟨rfl,KE.out⟩
    )
end Go.Proofs.YtlhpodholnfppaaGreatDoor

namespace Go.Proofs.YtlhpodholnfppaaGreatDoor
open Go.RowKit
set_option maxRecDepth 100000
theorem jal_word:∀ d,d < 32 → ∀ q,q < 503 → Td.dec (q * 2097152 + d * 128 + 111) = ⟨3,(d:Nat),0,0,((2 * q:Nat):Int),0,4⟩:=by decide +kernel
theorem jalr_word:∀ d,d < 32 → Td.dec (d * 32768 + 103) = ⟨4,0,(d:Nat),0,0,0,4⟩:=by decide +kernel
theorem jal_bits:∀ d,d < 32 → ∀ q,q < 503 → bits .and .i64 ((q:Nat):Int) 1023 = ((q:Nat):Int)∧bits .or .i64 0 (((q:Nat):Int) * 2097152) = ((q:Nat):Int) * 2097152∧bits .or .i64 (((q:Nat):Int) * 2097152) 0 = ((q:Nat):Int) * 2097152∧bits .or .u32 (((q:Nat):Int) * 2097152) (((d:Nat):Int) * 128) = ((q:Nat):Int) * 2097152 + ((d:Nat):Int) * 128∧bits .or .u32 (((q:Nat):Int) * 2097152 + ((d:Nat):Int) * 128) 111 = ((q:Nat):Int) * 2097152 + ((d:Nat):Int) * 128 + 111:=by decide +kernel
theorem and_0 (m:Int) (h:m = 1 ∨ m = 255):bits .and .i64 0 m = 0:=by rcases h with rfl | rfl <;> decide
theorem jal_any (d q:Nat) (hd:d < 32) (hq:q < 503) (w:World):Calls Tryz.prog 21 #[.int .i64 (d:Int),.int .i64 (2 * (q:Int))] w fun e w'=>e = .returned (.int .u32 ((q:Int) * 2097152 + (d:Int) * 128 + 111))∧w = w':=by
  obtain ⟨b1,b2,b3,b4,b5⟩:=jal_bits d hd q hq
  have a1:=and_0 1 (.inl rfl)
  have a2:=and_0 255 (.inr rfl)
  have hd0:(0:Int) ≤ (d:Int):=by omega
  have hd1:(d:Int) < 32:=by omega
  have hq0:(0:Int) ≤ (q:Int):=by omega
  have hq1:(q:Int) < 503:=by omega
  have s1:2 * (q:Int) / 1048576 = 0:=by omega
  have s2:2 * (q:Int) / 2048 = 0:=by omega
  have s3:2 * (q:Int) / 4096 = 0:=by omega
  have s4:2 * (q:Int) / 2 = (q:Int):=by omega
  clear hd hq
  go_enter Tryz.func21,Tryz.ntmps21
  go_wp2
  go_ret
  exact ⟨rfl,rfl⟩
end Go.Proofs.YtlhpodholnfppaaGreatDoor
