/-
  The program's step of a machine's state: fetch, and do; what a cache says stays true.
  The program's step of a machine's state: the contract.
  The program's machine: New, State, Set, Space, Step, Run.
-/
import Derived.Test.YtlhpodholnfppaaGreatDoorT29
import Derived.Deep.WholeRow
import Derived.Lib.Hide
set_option linter.unusedVariables false
set_option linter.unusedSimpArgs false
set_option maxHeartbeats 16000000
open Go.Lib (hid)
namespace Go.Proofs.YtlhpodholnfppaaGreatDoor
open Go.RowKit
set_option maxRecDepth 100000
def InsOk (i:Td.Ins):Prop:=(0 ≤ i.rd∧i.rd < 32)∧(0 ≤ i.r1∧i.r1 < 32)∧(0 ≤ i.r2∧i.r2 < 32)
theorem tk0 (s a m:Nat):Td.tk s a m 0 = (Td.pc s a m:Nat):=by unfold Td.tk;simp
theorem parts_ok (o:Int) (s:Nat) (f:Td.Fm):InsOk (Td.parts o s f):=by
  have h1:=Td.pc_lt s 7 5
  have h2:=Td.pc_lt s 15 5
  have h3:=Td.pc_lt s 20 5
  cases f <;> simp only [Td.parts,InsOk,tk0,Td.zeroI] <;> omega
theorem ex_ok (s:Nat):(0 ≤ (Td.ex s).rd∧(Td.ex s).rd < 32)∧(0 ≤ (Td.ex s).r1∧(Td.ex s).r1 < 32)∧(0 ≤ (Td.ex s).r2∧(Td.ex s).r2 < 32):=by
  have h1:=Td.pc_lt s 2 3
  have h2:=Td.pc_lt s 7 3
  have h3:=Td.pc_lt s 7 5
  have h4:=Td.pc_lt s 2 5
  unfold Td.ex Td.exUpper Td.exReckon Td.exMove
  repeat' split
  all_goals simp only [Td.Sh.zero]
  all_goals omega
theorem ins_ok (y:Nat):InsOk (insOf y):=by
  unfold insOf
  split
  · unfold Td.dec
    split
    · simp only [InsOk,Td.zeroI];omega
    · exact parts_ok _ _ _
  · split
    · simp only [InsOk,Td.zeroI];omega
    · exact ex_ok _
theorem AnsIs.ok {L:List Rg} {M:Nat → Int} {pc:Nat} {A:Ans} (h:AnsIs L M pc A):InsOk A.i:=by
  obtain ⟨y,k,x,_,rfl⟩:=h
  have hz:InsOk Td.zeroI:=by simp only [InsOk,Td.zeroI];omega
  unfold ansOf
  split
  · split
    · exact ins_ok _
    · exact hz
  · exact hz
theorem Inv.grow {sb:Nat} {L:List Rg} {M M' st st':Nat → Int} {g:Nat → Option Ent} (h:Inv (oneR sb L M st) g) (hs:Grow M M' st st') (hl:Al L) (hb:∀ x,0 ≤ M x∧M x ≤ 255):Inv (oneR sb L M' st') g:=fun p e he=>by
  obtain ⟨h1,h2,⟨L0,M0,s0,hr⟩,h4⟩:=h p e he
  refine ⟨h1,h2,⟨L,M',st',hr.1,rfl,rfl,rfl⟩,fun L1 M1 s1 hr1=>?_⟩
  obtain ⟨_,e1,e2,e3⟩:=hr1
  subst e1 e2 e3
  obtain ⟨g1,g2,g3⟩:=h4 L1 M st ⟨hr.1,rfl,rfl,rfl⟩
  have hz:e.i.sz.toNat = 2 ∨ e.i.sz.toNat = 4:=by omega
  have hp1:=hs (p / 4096) (by omega)
  have hp2:=hs ((p + e.i.sz.toNat - 1) / 4096) (by omega)
  refine ⟨by omega,by omega,fun q1 q2=>?_⟩
  have ag:∀ y,st y = s1 y → (st y ≤ s1 y∧((∃ x:Nat,x / 4096 = y∧M1 x ≠ M x) → st y < s1 y)) → Agree L1 L1 M M1 y:=fun y hy hst=>by
    refine ⟨fun x hx=>?_,fun q=>Iff.rfl⟩
    apply Classical.byContradiction
    intro hne
    have:=hst.2 ⟨x,hx,hne⟩
    omega
  exact (g3 (by omega) (by omega)).keep hl hl (ag _ (by omega) hp1) (ag _ (by omega) hp2) hb
def Cch (on:Bool) (sb:Nat) (L:List Rg) (M st:Nat → Int) (w:World) (cb B:Nat):Prop:=
  if on = true then ∃ g k,CA w cb B g k∧k ≤ 4096∧Inv (oneR sb L M st) g else COff w cb
section
variable {T:Nat → Prop} {w:World} {b sb cb B n:Nat} {on:Bool} {s:St} {L:List Rg} {M st:Nat → Int} {mo ba en:Int}
theorem Cch.bl {w':World} (h:Cch on sb L M st w cb B) (k:Bl w w'):Cch on sb L M st w' cb B:=by
  unfold Cch at *
  split
  · rename_i ho
    rw [if_pos ho] at h
    obtain ⟨g,q,h1,h2,h3⟩:=h
    exact ⟨g,q,h1.bl k,h2,h3⟩
  · rename_i ho
    rw [if_neg ho] at h
    exact COff.bl h k
theorem Cch.fr {w':World} {U:Nat → Prop} (h:Cch on sb L M st w cb B) (k:Fr U w w') (h1:¬ U cb) (h2:¬ U B):Cch on sb L M st w' cb B:=by
  unfold Cch at *
  split
  · rename_i ho
    rw [if_pos ho] at h
    obtain ⟨g,q,h3,h4,h5⟩:=h
    exact ⟨g,q,h3.fr k h1 h2,h4,h5⟩
  · rename_i ho
    rw [if_neg ho] at h
    exact COff.fr h k h1
theorem Cch.grow {M' st':Nat → Int} (h:Cch on sb L M st w cb B) (hs:Grow M M' st st') (hl:Al L) (hb:∀ x,0 ≤ M x∧M x ≤ 255):Cch on sb L M' st' w cb B:=by
  unfold Cch at *
  split
  · rename_i ho
    rw [if_pos ho] at h
    obtain ⟨g,q,h3,h4,h5⟩:=h
    exact ⟨g,q,h3,h4,h5.grow hs hl hb⟩
  · rename_i ho
    rw [if_neg ho] at h
    exact h
theorem fetch_any (hc:Cch on sb L M st w cb B) (hTB:¬ T B) (hB:21 ≤ B) (hm:MS T w sb n L M st mo ba en) (hT:Td.TabsS w) (pc:Nat) (hpc:pc < 2 ^ 64) :
    Calls Tryz.prog 50 #[addr0 cb,addr0 sb,.int .u64 (pc:Int)] w fun e w'=>∃ A,AnsIs L M pc A∧e = .returned A.v∧Cch on sb L M st w' cb B∧Fr (only B) w w':=by
  unfold Cch at *
  cases on with
  | true =>
    rw [if_pos rfl] at hc
    obtain ⟨g,k,h1,h2,h3⟩:=hc
    exact fetch_on h1 h2 h3 (oneR_sole _ _ _ _) (oneR_blocks hm) hTB hB hm hT pc hpc
  | false =>
    rw [if_neg (by simp)] at hc
    refine (fetch_off hc hm hT pc hpc).mono ?_
    rintro e w' ⟨A,h1,h2,h3⟩
    exact ⟨A,h1,h2,COff.bl hc h3,Fr.of_bl h3⟩
inductive MacIs (L:List Rg) (M:Nat → Int) (s:St):Int → Int → Int → St → (Nat → Int) → Prop
  | bad (A:Ans):AnsIs L M s.pc.toNat A → A.k ≠ 0 → MacIs L M s A.k A.fk A.fa s.rest M
  | go (A:Ans) (k fk fa:Int) (s':St) (M':Nat → Int):AnsIs L M s.pc.toNat A → A.k = 0 → DoIs L M s A.i k fk fa s' M' → MacIs L M s k fk fa s' M'
theorem MacIs.one {k fk fa k' fk' fa':Int} {s1 s2:St} {M1 M2:Nat → Int} (h:MacIs L M s k fk fa s1 M1) (g:MacIs L M s k' fk' fa' s2 M2):k = k'∧fk = fk'∧fa = fa'∧s1 = s2∧M1 = M2:=by
  cases h with
  | bad A h1 h2=>cases g with
    | bad A' g1 g2=>obtain rfl:=h1.one g1;exact ⟨rfl,rfl,rfl,rfl,rfl⟩
    | go A' _ _ _ _ _ g1 g2 g3=>obtain rfl:=h1.one g1;exact absurd g2 h2
  | go A _ _ _ _ _ h1 h2 h3=>cases g with
    | bad A' g1 g2=>obtain rfl:=h1.one g1;exact absurd h2 g2
    | go A' _ _ _ _ _ g1 g2 g3=>obtain rfl:=h1.one g1;exact h3.one g3
theorem MacIs.keep {k fk fa:Int} {s1:St} {M1:Nat → Int} (h:MacIs L M s k fk fa s1 M1) (hM:∀ x,0 ≤ M x∧M x ≤ 255) (hR:Regs s.xs) (hp:0 ≤ s.pc∧s.pc < 18446744073709551616) :
    Regs s1.xs∧0 ≤ s1.pc∧s1.pc < 18446744073709551616:=by
  cases h with
  | bad A h1 h2=>exact ⟨hR,hp⟩
  | go A _ _ _ _ _ h1 h2 h3=>exact h3.keep hM hR hp h1.ok.1
theorem DoIs.stop {i:Td.Ins} {k fk fa:Int} {s1:St} {M1:Nat → Int} (h:DoIs L M s i k fk fa s1 M1) (hk:k ≠ 0):s1 = s.rest∧M1 = M:=by
  cases h with
  | ecall h=>exact ⟨rfl,rfl⟩
  | ebreak h=>exact ⟨rfl,rfl⟩
  | loadBad z h hf=>exact ⟨rfl,rfl⟩
  | storeBad z h hf=>exact ⟨rfl,rfl⟩
  | atomBad o N h hf h0 =>
    refine ⟨rfl,?_⟩
    cases hf <;> first | rfl | exact absurd rfl h0
  | _=>exact absurd rfl hk
theorem MacIs.stop {k fk fa:Int} {s1:St} {M1:Nat → Int} (h:MacIs L M s k fk fa s1 M1) (hk:k ≠ 0):s1 = s.rest∧M1 = M:=by
  cases h with
  | bad A h1 h2=>exact ⟨rfl,rfl⟩
  | go A _ _ _ _ _ h1 h2 h3=>exact h3.stop hk
def StepHaPost (T:Nat → Prop) (w:World) (b sb cb B n:Nat) (on:Bool) (s:St) (L:List Rg) (M st:Nat → Int) (mo ba en:Int) (e:Ending) (w':World):Prop:=
  ∃ k fk fa s' M' st',MacIs L M s k fk fa s' M'∧e = .returned (stopV k fk fa)∧MS T w' sb (n + 9) L M' st' mo ba en∧Cch on sb L M' st' w' cb B∧(k = 0 → StAt w' b s'.pc s'.xs s'.ha s'.hn)∧Fr (fun x=>T x ∨ x = b ∨ x = B) w w'
end
end Go.Proofs.YtlhpodholnfppaaGreatDoor

namespace Go.Proofs.YtlhpodholnfppaaGreatDoor
open Go.RowKit
set_option maxRecDepth 100000
structure Base (T:Nat → Prop) (w:World) (b sb cb B n:Nat) (on:Bool) (L:List Rg) (M st:Nat → Int) (mo ba en:Int):Prop where
  ms:MS T w sb n L M st mo ba en
  cch:Cch on sb L M st w cb B
  tabs:Td.TabsS w
  al:Al L
  nb:¬ T b
  nc:¬ T cb
  nB:¬ T B
  bc:b ≠ cb
  bB:b ≠ B
  cl:cb < w.heap.size
  Bl_:B < w.heap.size
  B21:21 ≤ B
  b21:21 ≤ b
  t21:∀ g,g < 21 → ¬ T g
theorem stepHa_any {T:Nat → Prop} {w:World} {b sb cb B n:Nat} {on:Bool} {s:St} {L:List Rg} {M st:Nat → Int} {mo ba en:Int} (h:StAt w b s.pc s.xs s.ha s.hn) (hR:Regs s.xs) (hp:0 ≤ s.pc∧s.pc < 18446744073709551616) (hb:Base T w b sb cb B n on L M st mo ba en) (hn0:n < 80000000) (hT:∀ b,w.heap.size ≤ b → T b) :
    Calls Tryz.prog 30 #[addr0 b,addr0 sb,addr0 cb] w (StepHaPost T w b sb cb B n on s L M st mo ba en):=by
  have K0:=hid (Bl.new w (.cells #[.int .i64 0,.int .i64 0,.int .u64 0] 33))
  have R0:=hid (heap_alloc_new w (.cells #[.int .i64 0,.int .i64 0,.int .u64 0] 33))
  have hlt:=h.lt
  obtain ⟨p,hpp⟩:=Int.eq_ofNat_of_zero_le hp.1
  have hp64:p < 2 ^ 64:=by omega
  have hsz:(w.alloc (.cells #[.int .i64 0,.int .i64 0,.int .u64 0] 33)).heap.size = w.heap.size + 1:=by simp
  have HM:=hid (hb.ms.gap K0.out w.heap.size (w.alloc (.cells #[.int .i64 0,.int .i64 0,.int .u64 0] 33)).heap.size (Nat.le_refl _))
  have HF:=hid (fetch_any (hb.cch.bl K0.out) (gap_not hb.nB) hb.B21 HM.out (hb.tabs.bl K0.out) p hp64)
  have HST:=hid (h.bl K0.out)
  have HR:=hid hR;clear hR
  have HB:=hid hb;clear hb
  have HN0:=hid hn0;clear hn0
  have HT:=hid hT;clear hT
  have HSZ:=hid hsz;clear hsz
  clear h
  obtain ⟨pc,xs,ha,hn⟩:=s
  simp only at hpp HST HR hp
  subst hpp
  unfold addr0 at *
  go_enter Tryz.func30,Tryz.ntmps30
  go_upto_region 1 with (fail)
  generalize w.alloc (.cells #[.int .i64 0,.int .i64 0,.int .u64 0] 33) = W at *
  have c0:=HST.out.pc_
  go_wp2_with fail
  with_reducible refine HF.out.mono ?_
  rintro e w1 ⟨⟨⟨a0,a1,a2,a3,a4,a5,a6⟩,k,fk,fa⟩,han,rfl,hcc,hfr⟩
  have HAN:=hid han;clear han
  have HCC:=hid hcc;clear hcc
  have R1:=hid (hfr.at_ R0.out (fun e=>by have e3:w.heap.size = B:=e;have:=HB.out.Bl_;omega))
  have HST1:=hid (HST.out.fr hfr (fun e=>HB.out.bB e))
  have HM1:=hid (HM.out.kept hfr (fun x e e2=>HB.out.nB (by rw [← show x = B from e2];exact e.1)))
  have HF1:=hid ((Fr.of_bl (S:=fun x=>T x ∨ x = b ∨ x = B) K0.out).trans (hfr.mono fun x _ e=>.inr (.inr e)))
  have HFS:=hid hfr.size
  clear hfr HF HM HST R0 c0
  unfold Ans.v stopC Td.Ins.cells
  go_upto_region 2 with (fail)
  have K2:=hid ((Bl.new w1 (.cells (Td.I7 a0 a1 a2 a3 a4 a5 a6) 38)).alloc (.cells #[.int .i64 k,.int .i64 fk,.int .u64 fa] 33))
  obtain ⟨b0,b1⟩:=two_newD w1 (.cells (Td.I7 a0 a1 a2 a3 a4 a5 a6) 38) (.cells #[.int .i64 k,.int .i64 fk,.int .u64 fa] 33)
  generalize (w1.alloc (.cells (Td.I7 a0 a1 a2 a3 a4 a5 a6) 38)).alloc (.cells #[.int .i64 k,.int .i64 fk,.int .u64 fa] 33) = V at *
  have hlt1:=lt_at R1.out
  have R2:=hid (K2.out.at_ R1.out)
  have B0:=hid b0;clear b0
  have B1:=hid b1;clear b1
  have HST2:=hid (HST1.out.bl K2.out)
  have HM2:=hid (HM1.out.bl K2.out)
  have HCC2:=hid (HCC.out.bl K2.out)
  have HF2:=hid (HF1.out.trans (Fr.of_bl K2.out))
  have hszV:w1.heap.size + 1 < V.heap.size:=lt_at B1.out
  clear HST1 HM1 HCC HF1 R1 K2
  obtain ⟨d0,d1,d2⟩:=three_at B1.out
  obtain ⟨e0,e1,e2⟩:=three_at R2.out
  have z0:=free_at R2.out
  by_cases hk:k = 0
  · subst hk
    obtain ⟨c0,c1,c2,c3,c4,c5,c6⟩:=seven_at B0.out
    have hok:=HAN.out.ok
    have hdo:=haDo_any (s:=⟨(p:Int),xs,ha,hn⟩) HST2.out HR.out HM2.out (gap_not HB.out.nb) HN0.out (fun x hx=>by have h5:=HT.out;have h6:=HSZ.out;have h7:=HFS.out;exact ⟨h5 x (by omega),fun e=>by omega⟩) ⟨a0,a1,a2,a3,a4,a5,a6⟩ hok.1 hok.2.1 hok.2.2
    have HDO:=hid hdo;clear hdo hok
    unfold addr0 at HDO
    go_wp2_with fail
    with_reducible refine HDO.out.mono ?_
    rintro e w2 ⟨k2,fk2,fa2,s',M',hdi,rfl,⟨st',hg,hm2⟩,hst2,f2⟩
    have HDI:=hid hdi;clear hdi
    have HG:=hid hg;clear hg
    have HM3:=hid hm2;clear hm2
    have HST3:=hid hst2;clear hst2
    have nR:¬ (gap T w.heap.size W.heap.size w.heap.size ∨ w.heap.size = b):=fun e=>by
      rcases e with e | e
      · exact gap_no (by have h6:=HSZ.out;omega) (Nat.le_refl _) e
      · omega
    have R3:=hid (f2.at_ R2.out nR)
    have HCC3:=hid ((HCC2.out.fr f2 (fun e=>by
      rcases e with e | e
      · exact HB.out.nc e.1
      · exact HB.out.bc e.symm) (fun e=>by
      rcases e with e | e
      · exact HB.out.nB e.1
      · exact HB.out.bB e.symm)).grow HG.out HB.out.al HB.out.ms.by_)
    have HF3:=hid (HF2.out.trans (f2.mono fun x _ e=>by
      rcases e with e | e
      · exact .inl e.1
      · exact .inr (.inl e)))
    clear f2 nR c0 c1 c2 c3 c4 c5 c6 d0 d1 d2 e0 e1 e2 z0 HST2 HM2 HCC2 HF2 R2 B0 B1 HDO
    obtain ⟨e0,e1,e2⟩:=three_at R3.out
    have z0:=free_at R3.out
    unfold stopV
    go_wp2_with fail
    (try simp only [Exit.inBlock,Exit.then])
    refine bodyPost_ret (results_cell_row rfl _ _ w.heap.size 33 _ (0,0) _ rfl (set3 (.int .i64 k2) (.int .i64 fk2) (.int .u64 fa2) R3.out) Tryz.underlying33 rfl (by kernel_rfl)) rfl ?_
    have k7:Fr (only w.heap.size) w2 (((w2.setCell ⟨w.heap.size,0,none⟩ (.int .i64 k2)).setCell ⟨w.heap.size,1,none⟩ (.int .i64 fk2)).setCell ⟨w.heap.size,2,none⟩ (.int .u64 fa2)):=((Fr.set (S:=only w.heap.size) (p:=⟨w.heap.size,0,none⟩) rfl _).trans (Fr.set (S:=only w.heap.size) (p:=⟨w.heap.size,1,none⟩) rfl _)).trans (Fr.set (S:=only w.heap.size) (p:=⟨w.heap.size,2,none⟩) rfl _)
    refine ⟨k2,fk2,fa2,s',M',st',MacIs.go _ _ _ _ _ _ HAN.out rfl HDI.out,rfl,(HM3.out.kept k7 (fun x e e2=>e.2 (by have e3:x = w.heap.size:=e2;have h6:=HSZ.out;omega))).ungap,HCC3.out.fr k7 (fun e=>by have e3:cb = w.heap.size:=e;have:=HB.out.cl;omega) (fun e=>by have e3:B = w.heap.size:=e;have:=HB.out.Bl_;omega),fun e=>(HST3.out e).fr k7 (fun e=>by have e3:b = w.heap.size:=e;omega),?_⟩
    exact ((HF3.out.newCellC (p:=⟨w.heap.size,0,none⟩) (Nat.le_refl _) _).newCellC (p:=⟨w.heap.size,1,none⟩) (Nat.le_refl _) _).newCellC (p:=⟨w.heap.size,2,none⟩) (Nat.le_refl _) _
  · have hk':=nin hk
    go_wp2_with fail
    (try simp only [Exit.inBlock,Exit.then])
    refine bodyPost_ret (results_cell_row rfl _ _ w.heap.size 33 _ (0,0) _ rfl (set3 (.int .i64 k) (.int .i64 fk) (.int .u64 fa) R2.out) Tryz.underlying33 rfl (by kernel_rfl)) rfl ?_
    have k7:Fr (only w.heap.size) V (((V.setCell ⟨w.heap.size,0,none⟩ (.int .i64 k)).setCell ⟨w.heap.size,1,none⟩ (.int .i64 fk)).setCell ⟨w.heap.size,2,none⟩ (.int .u64 fa)):=((Fr.set (S:=only w.heap.size) (p:=⟨w.heap.size,0,none⟩) rfl _).trans (Fr.set (S:=only w.heap.size) (p:=⟨w.heap.size,1,none⟩) rfl _)).trans (Fr.set (S:=only w.heap.size) (p:=⟨w.heap.size,2,none⟩) rfl _)
    refine ⟨k,fk,fa,⟨(p:Int),xs,0,0⟩,M,st,MacIs.bad (s:=⟨(p:Int),xs,ha,hn⟩) ⟨⟨a0,a1,a2,a3,a4,a5,a6⟩,k,fk,fa⟩ HAN.out hk,rfl,((HM2.out.kept k7 (fun x e e2=>e.2 (by have e3:x = w.heap.size:=e2;have h6:=HSZ.out;omega))).ungap).mono (by omega),HCC2.out.fr k7 (fun e=>by have e3:cb = w.heap.size:=e;have:=HB.out.cl;omega) (fun e=>by have e3:B = w.heap.size:=e;have:=HB.out.Bl_;omega),fun e=>absurd e hk,?_⟩
    exact ((HF2.out.newCellC (p:=⟨w.heap.size,0,none⟩) (Nat.le_refl _) _).newCellC (p:=⟨w.heap.size,1,none⟩) (Nat.le_refl _) _).newCellC (p:=⟨w.heap.size,2,none⟩) (Nat.le_refl _) _
end Go.Proofs.YtlhpodholnfppaaGreatDoor

namespace Go.Proofs.YtlhpodholnfppaaGreatDoor
open Go.RowKit
set_option maxRecDepth 100000
structure HtAt (w:World) (hb:Nat) (pc:Int) (xs:List Int) (ha hn:Int) (sb cb:Nat):Prop where
  blk:w.heap[hb]? = some (.cells (stV pc xs ha hn ++ [addr0 sb,addr0 cb]).toArray 76 (0,0))
  len:xs.length = 32
theorem size47:(Tryz.prog.info? 47).map (·.size) = some 35:=by kernel_rfl
theorem stV_one (pc:Int) (xs:List Int) (ha hn:Int):(stV pc xs ha hn).toArray.all (·.oneCell') = true:=by
  refine all_oneCell_toArray fun v hv=>?_
  simp only [stV,List.mem_append,List.mem_cons,List.mem_map,List.not_mem_nil,or_false] at hv
  rcases hv with (rfl | ⟨x,_,rfl⟩) | rfl | rfl <;> rfl
theorem heap_setCells {t:TypeId} {b:Nat} (post:List Value):∀ (vs old pre:List Value) (w:World),w.heap[b]? = some (.cells (pre ++ (old ++ post)).toArray t (0,0)) → old.length = vs.length →
    (w.setCells b pre.length vs).heap[b]? = some (.cells (pre ++ (vs ++ post)).toArray t (0,0))
  | [],old,pre,w,h,hl=>by
    have:old = []:=List.length_eq_zero_iff.1 (by simpa using hl)
    subst this
    exact h
  | v :: vs,[],pre,w,h,hl=>by simp at hl
  | v :: vs,u :: old,pre,w,h,hl=>by
    rw [World.setCells]
    have h1:=heap_setCell_same w b pre.length _ _ v h
    rw [List.setIfInBounds_toArray,List.set_append_right _ _ (Nat.le_refl _),Nat.sub_self,List.cons_append,List.set_cons_zero] at h1
    have h2:=heap_setCells post vs old (pre ++ [v]) (w.setCell ⟨b,pre.length,none⟩ v) (by simpa using h1) (by simpa using hl)
    simpa using h2
section
variable {w w':World} {hb sb cb:Nat} {pc ha hn:Int} {xs:List Int}
theorem HtAt.lt (h:HtAt w hb pc xs ha hn sb cb):hb < w.heap.size:=lt_at h.blk
theorem HtAt.bl (h:HtAt w hb pc xs ha hn sb cb) (k:Bl w w'):HtAt w' hb pc xs ha hn sb cb:=⟨k.at_ h.blk,h.len⟩
theorem HtAt.fr {U:Nat → Prop} (h:HtAt w hb pc xs ha hn sb cb) (k:Fr U w w') (hn':¬ U hb):HtAt w' hb pc xs ha hn sb cb:=⟨k.at_ h.blk hn',h.len⟩
theorem HtAt.free (h:HtAt w hb pc xs ha hn sb cb) (i:Nat):w.frozen? ⟨hb,i,none⟩ = false:=by simp [World.frozen?,h.blk]
theorem HtAt.cell (h:HtAt w hb pc xs ha hn sb cb) (i:Nat):w.cell? ⟨hb,i,none⟩ = (stV pc xs ha hn ++ [addr0 sb,addr0 cb])[i]?:=by
  rw [cell_of_row w hb _ _ _ (0,0) h.blk,List.getElem?_toArray]
theorem HtAt.ptrs (h:HtAt w hb pc xs ha hn sb cb):w.cell? ⟨hb,35,none⟩ = some (addr0 sb)∧w.cell? ⟨hb,36,none⟩ = some (addr0 cb):=by
  have hl:=stV_len pc ha hn h.len
  constructor <;> rw [h.cell,List.getElem?_append_right (by omega),hl] <;> rfl
theorem HtAt.range (h:HtAt w hb pc xs ha hn sb cb):w.rangeAt hb 0 (stV pc xs ha hn):=fun j v hv=>by
  have hj:j < (stV pc xs ha hn).length:=(List.getElem?_eq_some_iff.1 hv).1
  rw [Nat.zero_add,h.cell,List.getElem?_append_left hj];exact hv
theorem HtAt.there (h:HtAt w hb pc xs ha hn sb cb):w.there hb 0 35:=fun j hj=>by
  have hl:=stV_len pc ha hn h.len
  refine ⟨?_,h.free _⟩
  rw [Nat.zero_add,h.cell,List.getElem?_append_left (by omega),List.getElem?_eq_getElem (by omega)];rfl
theorem HtAt.load (h:HtAt w hb pc xs ha hn sb cb):(Instr.loadAt 47 (.pointer (some ⟨hb,0,none⟩))).run Tryz.prog w = .ok (.agg (stV pc xs ha hn).toArray) w:=
  run_loadAt_mid w hb 0 _ _ _ h.range Tryz.underlying47 rfl (by rw [stV_len _ _ _ h.len];exact size47)
theorem HtAt.store (h:HtAt w hb pc xs ha hn sb cb) (pc':Int) (xs':List Int) (ha' hn':Int) (hl:xs'.length = 32) :
    (Instr.storeAt 47 (.pointer (some ⟨hb,0,none⟩)) (.agg (stV pc' xs' ha' hn').toArray)).run Tryz.prog w = .ok () (w.setCells hb 0 (stV pc' xs' ha' hn')):=by
  have:=run_storeAt_mid (P:=Tryz.prog) w hb 0 47 (stV pc' xs' ha' hn').toArray (by rw [List.size_toArray,stV_len _ _ _ hl];exact h.there) (by rw [List.size_toArray,stV_len _ _ _ hl];exact size47) (stV_one _ _ _ _)
  simpa using this
theorem HtAt.stored (h:HtAt w hb pc xs ha hn sb cb) (pc':Int) (xs':List Int) (ha' hn':Int) (hl:xs'.length = 32):HtAt (w.setCells hb 0 (stV pc' xs' ha' hn')) hb pc' xs' ha' hn' sb cb∧Fr (only hb) w (w.setCells hb 0 (stV pc' xs' ha' hn')):=by
  refine ⟨⟨?_,hl⟩,?_⟩
  · exact heap_setCells [addr0 sb,addr0 cb] (stV pc' xs' ha' hn') (stV pc xs ha hn) [] w (by simpa using h.blk) (by rw [stV_len _ _ _ hl,stV_len _ _ _ h.len])
  · have key:∀ (vs:List Value) (o:Nat) (w:World),Fr (only hb) w (w.setCells hb o vs):=by
      intro vs
      induction vs with
      | nil=>intro o w;exact Fr.of_bl (Bl.refl _)
      | cons v vs ih=>intro o w;rw [World.setCells];exact (Fr.set (S:=only hb) (p:=⟨hb,o,none⟩) rfl _).trans (ih _ _)
    exact key _ _ _
theorem StAt.load {w:World} {b:Nat} {pc ha hn:Int} {xs:List Int} (h:StAt w b pc xs ha hn):(Instr.loadAt 47 (.pointer (some ⟨b,0,none⟩))).run Tryz.prog w = .ok (.agg (stV pc xs ha hn).toArray) w:=
  run_loadAt_mid w b 0 _ _ _ (fun j v hv=>by rw [Nat.zero_add,cell_of_row w b _ _ _ (0,0) h.blk,List.getElem?_toArray];exact hv) Tryz.underlying47 rfl (by rw [stV_len _ _ _ h.len];exact size47)
theorem HtAt.rest (h:HtAt w hb pc xs ha hn sb cb) (a n:Int):HtAt ((w.setCell ⟨hb,33,none⟩ (.int .u64 a)).setCell ⟨hb,34,none⟩ (.int .i64 n)) hb pc xs a n sb cb:=by
  have hl:=stV_len pc ha hn h.len
  refine ⟨?_,h.len⟩
  have h1:=heap_setCell_same w hb 33 _ _ (.int .u64 a) h.blk
  rw [List.setIfInBounds_toArray] at h1
  rw [heap_setCell_same _ hb 34 _ _ _ h1,List.setIfInBounds_toArray,List.set_append_left _ _ (by omega),List.set_append_left _ _ (by rw [List.length_set];omega),stV_setHold _ _ _ _ _ h.len]
theorem HtAt.hold (h:HtAt w hb pc xs ha hn sb cb):w.cell? ⟨hb,33,none⟩ = some (.int .u64 ha)∧w.cell? ⟨hb,34,none⟩ = some (.int .i64 hn):=by
  have hl:=stV_len pc ha hn h.len
  obtain ⟨h1,h2⟩:=stV_hold pc ha hn h.len
  constructor <;> rw [h.cell,List.getElem?_append_left (by omega)] <;> assumption
end
section
variable {P:Program} (w:World) {ops:Array Oper} {rest:List Oper} {o:Oper} {a:Act} {Q:Exit → Act → World → Prop}
theorem wplL (hg:o.guard = none) (x:Operand) (t:TypeId) (hop:o.op = Op.load t x) (vx v1:Value) (hx:a.eval x = vx) (hrun:(Instr.loadAt t vx).run P w = .ok v1 w) (hK:wpList P ops Q rest (a.put o.dst v1) w):wpList P ops Q (o :: rest) a w:=by
  refine wpList_plain hg fun K' hK'=>?_
  unfold Oper.wp
  simp [execOp,hop,hx,hrun,Result.andThen]
  exact hK' _ _ hK
theorem wplS {w1:World} (hg:o.guard = none) (x v:Operand) (t:TypeId) (hop:o.op = Op.store t x v) (vx vv:Value) (hx:a.eval x = vx) (hv:a.eval v = vv) (hrun:(Instr.storeAt t vx vv).run P w = .ok () w1) (hK:wpList P ops Q rest (a.put o.dst undef) w1):wpList P ops Q (o :: rest) a w:=by
  refine wpList_plain hg fun K' hK'=>?_
  unfold Oper.wp
  simp [execOp,hop,hx,hv,hrun,Result.andThen]
  exact hK' _ _ hK
end
theorem store47new (w:World) (pc:Int) (xs:List Int) (ha hn:Int) (hl:xs.length = 32) :
    (Instr.storeAt 47 (.pointer (some ⟨w.heap.size,0,none⟩)) (.agg (stV pc xs ha hn).toArray)).run Tryz.prog (w.alloc (.cells #[.int .u64 0,.int .u64 0,.int .u64 0,.int .u64 0,.int .u64 0,.int .u64 0,.int .u64 0,.int .u64 0,.int .u64 0,.int .u64 0,.int .u64 0,.int .u64 0,.int .u64 0,.int .u64 0,.int .u64 0,.int .u64 0,.int .u64 0,.int .u64 0,.int .u64 0,.int .u64 0,.int .u64 0,.int .u64 0,.int .u64 0,.int .u64 0,.int .u64 0,.int .u64 0,.int .u64 0,.int .u64 0,.int .u64 0,.int .u64 0,.int .u64 0,.int .u64 0,.int .u64 0,.int .u64 0,.int .i64 0] 47)) = .ok () (w.alloc (.cells (stV pc xs ha hn).toArray 47)):=
  run_storeAt_new (P:=Tryz.prog) w 47 #[.int .u64 0,.int .u64 0,.int .u64 0,.int .u64 0,.int .u64 0,.int .u64 0,.int .u64 0,.int .u64 0,.int .u64 0,.int .u64 0,.int .u64 0,.int .u64 0,.int .u64 0,.int .u64 0,.int .u64 0,.int .u64 0,.int .u64 0,.int .u64 0,.int .u64 0,.int .u64 0,.int .u64 0,.int .u64 0,.int .u64 0,.int .u64 0,.int .u64 0,.int .u64 0,.int .u64 0,.int .u64 0,.int .u64 0,.int .u64 0,.int .u64 0,.int .u64 0,.int .u64 0,.int .u64 0,.int .i64 0] _ (by rw [List.size_toArray,stV_len _ _ _ hl];exact size47) (by show 35 = (stV pc xs ha hn).toArray.size;rw [List.size_toArray,stV_len pc ha hn hl]) (stV_one _ _ _ _)
theorem hnew_any (w:World) (sb cb:Nat):Calls Tryz.prog 28 #[addr0 sb,addr0 cb] w fun e w'=>e = .returned (addr0 w.heap.size)∧HtAt w' w.heap.size 0 (List.replicate 32 0) 0 0 sb cb∧Bl w w'∧w'.heap.size = w.heap.size + 1:=by
  unfold addr0
  go_enter Tryz.func28,Tryz.ntmps28
  go_wp2_with fail
  go_ret
  exact ⟨rfl,⟨heap_alloc_new _ _,by simp⟩,Bl.new _ _,by simp⟩
theorem hstate_any {w:World} {hb sb cb:Nat} {pc ha hn:Int} {xs:List Int} (h:HtAt w hb pc xs ha hn sb cb) :
    Calls Tryz.prog 17 #[addr0 hb] w fun e w'=>e = .returned (.agg (stV pc xs ha hn).toArray)∧Bl w w':=by
  have hsn:=store47new w pc xs ha hn h.len
  have hld:=(h.bl (Bl.new w (.cells #[.int .u64 0,.int .u64 0,.int .u64 0,.int .u64 0,.int .u64 0,.int .u64 0,.int .u64 0,.int .u64 0,.int .u64 0,.int .u64 0,.int .u64 0,.int .u64 0,.int .u64 0,.int .u64 0,.int .u64 0,.int .u64 0,.int .u64 0,.int .u64 0,.int .u64 0,.int .u64 0,.int .u64 0,.int .u64 0,.int .u64 0,.int .u64 0,.int .u64 0,.int .u64 0,.int .u64 0,.int .u64 0,.int .u64 0,.int .u64 0,.int .u64 0,.int .u64 0,.int .u64 0,.int .u64 0,.int .i64 0] 47))).load
  have hl:=h.len
  clear h
  unfold addr0
  go_enter Tryz.func17,Tryz.ntmps17
  go_wp2_with (first
    | (refine wplL _ rfl (.tmp 8) 47 rfl _ _ rfl hld ?_)
    | (refine wplS _ rfl (.tmp 2) (.tmp 9) 47 rfl _ _ rfl rfl hsn ?_)
    | go_in)
  refine bodyPost_ret (results_cell_row rfl _ _ w.heap.size 47 _ (0,0) _ rfl (heap_alloc_new w (.cells (stV pc xs ha hn).toArray 47)) Tryz.underlying47 rfl (by rw [List.size_toArray,stV_len _ _ _ hl];exact size47)) rfl ?_
  exact ⟨rfl,Bl.new _ _⟩
theorem hset_any {w:World} {hb sb cb:Nat} {pc ha hn:Int} {xs:List Int} (h:HtAt w hb pc xs ha hn sb cb) (p:Int) (ys:List Int) (a n:Int) (hl:ys.length = 32) :
    Calls Tryz.prog 19 #[addr0 hb,.agg (stV p ys a n).toArray] w fun e w'=>e = .returned (.tuple #[])∧HtAt w' hb p (ys.set 0 0) a n sb cb∧Fr (only hb) w w':=by
  have K0:=hid (Bl.new w (.cells (stV p ys a n).toArray 47))
  have S0:=hid (⟨heap_alloc_new w (.cells (stV p ys a n).toArray 47),hl⟩:StAt (w.alloc (.cells (stV p ys a n).toArray 47)) w.heap.size p ys a n)
  have H0:=hid (h.bl K0.out)
  have hlt:=h.lt
  clear h
  unfold addr0
  go_enter Tryz.func19,Tryz.ntmps19
  go_upto_region 2 with (fail)
  generalize w.alloc (.cells (stV p ys a n).toArray 47) = W at *
  have c0:=S0.out.x 0 (by omega)
  have z0:=S0.out.free (1 + 0)
  go_upto_region 3 with (fail)
  have S1:=hid (S0.out.setReg 0 (by omega) 0)
  have f1:Fr (only w.heap.size) W (W.setCell ⟨w.heap.size,1 + 0,none⟩ (.int .u64 0)):=Fr.set (S:=only w.heap.size) (p:=⟨w.heap.size,1 + 0,none⟩) rfl _
  have H1:=hid (H0.out.fr f1 (fun e=>by have e3:hb = w.heap.size:=e;omega))
  have F1:=hid ((Fr.of_bl (S:=only hb) K0.out).newCellC (p:=⟨w.heap.size,1 + 0,none⟩) (Nat.le_refl _) (.int .u64 0))
  clear c0 z0 f1
  simp only [Nat.add_zero] at S1 H1 F1
  generalize W.setCell ⟨w.heap.size,1,none⟩ (.int .u64 0) = V at *
  have hld:=S1.out.load
  have hsn:=H1.out.store p (ys.set 0 0) a n (by simp [hl])
  go_wp2_with (first
    | (refine wplL _ rfl (.tmp 3) 47 rfl _ _ rfl hld ?_)
    | (refine wplS _ rfl (.tmp 11) (.tmp 9) 47 rfl _ _ rfl rfl hsn ?_)
    | go_in)
  refine bodyPost_end (results_none rfl _ _ _) rfl ?_
  obtain ⟨g1,g2⟩:=H1.out.stored p (ys.set 0 0) a n (by simp [hl])
  exact ⟨rfl,g1,F1.out.trans g2⟩
theorem hnil_set (w:World) (cs:Array Value):Calls Tryz.prog 19 #[.pointer none,.agg cs] w fun e w'=>e = .returned (.tuple #[])∧Bl w w':=by
  go_enter Tryz.func19,Tryz.ntmps19
  go_wp2_with fail
  (try simp only [Exit.inBlock,Exit.then])
  refine bodyPost_ret (results_none rfl _ _ _) rfl ?_
  exact ⟨rfl,Bl.new _ _⟩
theorem hnil_space (w:World):Calls Tryz.prog 20 #[.pointer none] w fun e w'=>e = .returned (.pointer none)∧w = w':=by
  go_enter Tryz.func20,Tryz.ntmps20
  go_wp2
  go_ret
  exact ⟨rfl,rfl⟩
theorem hnil_state (w:World):Calls Tryz.prog 17 #[.pointer none] w fun e w'=>e = .returned (.agg (stV 0 (List.replicate 32 0) 0 0).toArray)∧Bl w w':=by
  have hsn:(Instr.storeAt 47 (.pointer (some ⟨w.heap.size,0,none⟩)) (.agg #[.int .u64 0,.int .u64 0,.int .u64 0,.int .u64 0,.int .u64 0,.int .u64 0,.int .u64 0,.int .u64 0,.int .u64 0,.int .u64 0,.int .u64 0,.int .u64 0,.int .u64 0,.int .u64 0,.int .u64 0,.int .u64 0,.int .u64 0,.int .u64 0,.int .u64 0,.int .u64 0,.int .u64 0,.int .u64 0,.int .u64 0,.int .u64 0,.int .u64 0,.int .u64 0,.int .u64 0,.int .u64 0,.int .u64 0,.int .u64 0,.int .u64 0,.int .u64 0,.int .u64 0,.int .u64 0,.int .i64 0])).run Tryz.prog (w.alloc (.cells #[.int .u64 0,.int .u64 0,.int .u64 0,.int .u64 0,.int .u64 0,.int .u64 0,.int .u64 0,.int .u64 0,.int .u64 0,.int .u64 0,.int .u64 0,.int .u64 0,.int .u64 0,.int .u64 0,.int .u64 0,.int .u64 0,.int .u64 0,.int .u64 0,.int .u64 0,.int .u64 0,.int .u64 0,.int .u64 0,.int .u64 0,.int .u64 0,.int .u64 0,.int .u64 0,.int .u64 0,.int .u64 0,.int .u64 0,.int .u64 0,.int .u64 0,.int .u64 0,.int .u64 0,.int .u64 0,.int .i64 0] 47)) = .ok () (w.alloc (.cells #[.int .u64 0,.int .u64 0,.int .u64 0,.int .u64 0,.int .u64 0,.int .u64 0,.int .u64 0,.int .u64 0,.int .u64 0,.int .u64 0,.int .u64 0,.int .u64 0,.int .u64 0,.int .u64 0,.int .u64 0,.int .u64 0,.int .u64 0,.int .u64 0,.int .u64 0,.int .u64 0,.int .u64 0,.int .u64 0,.int .u64 0,.int .u64 0,.int .u64 0,.int .u64 0,.int .u64 0,.int .u64 0,.int .u64 0,.int .u64 0,.int .u64 0,.int .u64 0,.int .u64 0,.int .u64 0,.int .i64 0] 47)):=store47new w 0 (List.replicate 32 0) 0 0 rfl
  go_enter Tryz.func17,Tryz.ntmps17
  go_wp2_with (first
    | (refine wplS _ rfl (.tmp 2) (.tmp 5) 47 rfl _ _ rfl rfl hsn ?_)
    | go_in)
  (try simp only [Exit.inBlock,Exit.then])
  refine bodyPost_ret (results_cell_row rfl _ _ w.heap.size 47 _ (0,0) _ rfl (heap_alloc_new w (.cells #[.int .u64 0,.int .u64 0,.int .u64 0,.int .u64 0,.int .u64 0,.int .u64 0,.int .u64 0,.int .u64 0,.int .u64 0,.int .u64 0,.int .u64 0,.int .u64 0,.int .u64 0,.int .u64 0,.int .u64 0,.int .u64 0,.int .u64 0,.int .u64 0,.int .u64 0,.int .u64 0,.int .u64 0,.int .u64 0,.int .u64 0,.int .u64 0,.int .u64 0,.int .u64 0,.int .u64 0,.int .u64 0,.int .u64 0,.int .u64 0,.int .u64 0,.int .u64 0,.int .u64 0,.int .u64 0,.int .i64 0] 47)) Tryz.underlying47 rfl (by exact size47)) rfl ?_
  exact ⟨rfl,Bl.new _ _⟩
theorem hnil_step (w:World):Calls Tryz.prog 11 #[.pointer none] w fun e w'=>e = .returned (stopV 3 0 0)∧Bl w w':=by
  unfold stopV
  go_enter Tryz.func11,Tryz.ntmps11
  go_wp2_with fail
  (try simp only [Exit.inBlock,Exit.then])
  refine bodyPost_ret (results_cell_row rfl _ _ w.heap.size 33 _ (0,0) _ rfl (heap_alloc_new w (.cells #[.int .i64 3,.int .i64 0,.int .u64 0] 33)) Tryz.underlying33 rfl (by kernel_rfl)) rfl ?_
  exact ⟨rfl,Bl.new _ _⟩
theorem hnil_run (w:World) (fuel:Int):Calls Tryz.prog 18 #[.pointer none,.int .i64 fuel] w fun e w'=>e = .returned (.tuple #[stopV 3 0 0,.int .i64 0])∧Bl w w':=by
  unfold stopV
  go_enter Tryz.func18,Tryz.ntmps18
  go_wp2_with fail
  (try simp only [Exit.inBlock,Exit.then])
  refine bodyPost_ret (results_row_tmp rfl _ _ w.heap.size 33 _ (0,0) _ rfl (heap_alloc_new w (.cells #[.int .i64 3,.int .i64 0,.int .u64 0] 33)) Tryz.underlying33 rfl (by kernel_rfl)) rfl ?_
  exact ⟨rfl,Bl.new _ _⟩
end Go.Proofs.YtlhpodholnfppaaGreatDoor
