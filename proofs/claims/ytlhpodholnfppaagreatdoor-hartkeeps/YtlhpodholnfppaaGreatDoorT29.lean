/-
  The program's do: what an instruction does with a machine's state and space.
  Which prot a place has, as the law asks it.
  Clear of a wide span of whole pages: whatever pages are held, in whatever order they come.
  Clear of a wide span of whole pages.
  What each call that may change a space leaves: bytes or prots that changed have a greater stamp.
  Bytes that are put where something is mapped; the law's answers: what a program that does nothing does not answer.
-/
import Derived.Test.YtlhpodholnfppaaGreatDoorT28
import Derived.Test.YtlhpodholnfppaaGreatDoorT13
import Derived.Test.YtlhpodholnfppaaGreatDoorT12
import Derived.Test.YtlhpodholnfppaaGreatDoorT25
import Derived.Lib.Hide
set_option linter.unusedVariables false
set_option linter.unusedSimpArgs false
set_option maxHeartbeats 16000000
open Go.Lib (hid)
namespace Go.Proofs.YtlhpodholnfppaaGreatDoor
open Go.RowKit
set_option maxRecDepth 100000
section
variable {T:Nat → Prop} {w:World} {b sb n:Nat} {s:St} {L:List Rg} {M st:Nat → Int} {mo ba en:Int}
def DoHaPost (T:Nat → Prop) (w:World) (b sb n:Nat) (s:St) (L:List Rg) (M st:Nat → Int) (mo ba en:Int) (i:Td.Ins) (e:Ending) (w':World):Prop:=
  ∃ k fk fa s' M',DoIs L M s i k fk fa s' M'∧e = .returned (stopV k fk fa)∧(∃ st',Grow M M' st st'∧MS T w' sb (n + 9) L M' st' mo ba en)∧(k = 0 → StAt w' b s'.pc s'.xs s'.ha s'.hn)∧Fr (fun x=>T x ∨ x = b) w w'
theorem do_fin {Z:World} {hi:Nat} {k:Int} {s':St} {M':Nat → Int} {z0 z1 z2:Value} (v0 v1 v2:Value) (hres:Z.heap[w.heap.size + 1]? = some (.cells #[z0,z1,z2] 33 (0,0))) (hms:∃ st',Grow M M' st st'∧MS (gap T w.heap.size hi) Z sb n L M' st' mo ba en) (hhi:w.heap.size + 1 < hi) (hfr:Fr (fun x=>T x ∨ x = b) w Z) (hst:k = 0 → StAt Z b s'.pc s'.xs s'.ha s'.hn) (hb:b < w.heap.size) :
    (((Z.setCell ⟨w.heap.size + 1,0,none⟩ v0).setCell ⟨w.heap.size + 1,1,none⟩ v1).setCell ⟨w.heap.size + 1,2,none⟩ v2).heap[w.heap.size + 1]? = some (.cells #[v0,v1,v2] 33 (0,0)) ∧
    (∃ st',Grow M M' st st'∧MS T (((Z.setCell ⟨w.heap.size + 1,0,none⟩ v0).setCell ⟨w.heap.size + 1,1,none⟩ v1).setCell ⟨w.heap.size + 1,2,none⟩ v2) sb n L M' st' mo ba en)∧(k = 0 → StAt (((Z.setCell ⟨w.heap.size + 1,0,none⟩ v0).setCell ⟨w.heap.size + 1,1,none⟩ v1).setCell ⟨w.heap.size + 1,2,none⟩ v2) b s'.pc s'.xs s'.ha s'.hn) ∧
    Fr (fun x=>T x ∨ x = b) w (((Z.setCell ⟨w.heap.size + 1,0,none⟩ v0).setCell ⟨w.heap.size + 1,1,none⟩ v1).setCell ⟨w.heap.size + 1,2,none⟩ v2):=by
  have k7:Fr (only (w.heap.size + 1)) Z (((Z.setCell ⟨w.heap.size + 1,0,none⟩ v0).setCell ⟨w.heap.size + 1,1,none⟩ v1).setCell ⟨w.heap.size + 1,2,none⟩ v2):=((Fr.set (S:=only (w.heap.size + 1)) (p:=⟨w.heap.size + 1,0,none⟩) rfl _).trans (Fr.set (S:=only (w.heap.size + 1)) (p:=⟨w.heap.size + 1,1,none⟩) rfl _)).trans (Fr.set (S:=only (w.heap.size + 1)) (p:=⟨w.heap.size + 1,2,none⟩) rfl _)
  obtain ⟨st',hg,h1⟩:=hms
  exact ⟨set3 _ _ _ hres,⟨st',hg,(h1.kept k7 (fun x e e2=>e.2 (by have e3:x = w.heap.size + 1:=e2;omega))).ungap⟩,fun e=>(hst e).fr k7 (fun e=>by have e3:b = w.heap.size + 1:=e;omega),
    ((hfr.newCellC (p:=⟨w.heap.size + 1,0,none⟩) (by simp) _).newCellC (p:=⟨w.heap.size + 1,1,none⟩) (by simp) _).newCellC (p:=⟨w.heap.size + 1,2,none⟩) (by simp) _⟩
structure DoV (T:Nat → Prop) (w:World) (b sb n:Nat) (pc:Int) (xs:List Int) (ha hn:Int) (L:List Rg) (M st:Nat → Int) (mo ba en:Int) (i:Td.Ins) (V:World):Prop where
  stt:StAt V b pc xs ha hn
  box:V.heap[w.heap.size]? = some (.cells (Td.I7 i.op i.rd i.r1 i.r2 i.im i.od i.sz) 38 (0,0))
  res:V.heap[w.heap.size + 1]? = some (.cells #[.int .i64 0,.int .i64 0,.int .u64 0] 33 (0,0))
  ms:MS (gap T w.heap.size V.heap.size) V sb n L M st mo ba en
  fr:Fr (only b) w V
  size:w.heap.size + 1 < V.heap.size
theorem DoV.mono {pc ha hn:Int} {xs:List Int} {i:Td.Ins} {V:World} (h:DoV T w b sb n pc xs ha hn L M st mo ba en i V) (hn9:n ≤ n + 9):∃ st',Grow M M st st'∧MS (gap T w.heap.size V.heap.size) V sb (n + 9) L M st' mo ba en:=⟨st,Grow.refl M st,h.ms.mono hn9⟩
theorem dov_of {pc ha hn:Int} {xs:List Int} {i:Td.Ins} (h:StAt w b pc xs ha hn) (hm:MS T w sb n L M st mo ba en) (hTb:¬ T b) (p:Int) :
    DoV T w b sb n p xs ha hn L M st mo ba en i (((w.alloc (.cells i.cells 38)).alloc (.cells #[.int .i64 0,.int .i64 0,.int .u64 0] 33)).setCell ⟨b,0,none⟩ (.int .u64 p)):=by
  have k0:Bl w ((w.alloc (.cells i.cells 38)).alloc (.cells #[.int .i64 0,.int .i64 0,.int .u64 0] 33)):=(Bl.new _ _).alloc _
  obtain ⟨b0,b1⟩:=two_newD w (.cells i.cells 38) (.cells #[.int .i64 0,.int .i64 0,.int .u64 0] 33)
  have hl:=h.lt
  generalize (w.alloc (.cells i.cells 38)).alloc (.cells #[.int .i64 0,.int .i64 0,.int .u64 0] 33) = W at *
  have f:Fr (only b) W (W.setCell ⟨b,0,none⟩ (.int .u64 p)):=Fr.set (S:=only b) (p:=⟨b,0,none⟩) rfl _
  have hs:(W.setCell ⟨b,0,none⟩ (.int .u64 p)).heap.size = W.heap.size:=by simp [World.setCell]
  have hl1:=lt_at b1
  refine ⟨(h.bl k0).setPc p,f.at_ b0 (fun e=>by have e3:w.heap.size = b:=e;omega),f.at_ b1 (fun e=>by have e3:w.heap.size + 1 = b:=e;omega),?_,(Fr.of_bl k0).trans f,by rw [hs];exact hl1⟩
  rw [hs]
  exact (hm.gap k0 w.heap.size W.heap.size (Nat.le_refl _)).kept f (fun x e e2=>hTb (by rw [← show x = b from e2];exact e.1))
theorem DoV.turn {pc ha hn pc' ha' hn':Int} {xs xs':List Int} {i:Td.Ins} {V Z:World} (h:DoV T w b sb n pc xs ha hn L M st mo ba en i V) (hTb:¬ T b) (hb:b < w.heap.size) (k:Fr (only b) V Z) (hs:StAt Z b pc' xs' ha' hn') :
    Z.heap[w.heap.size + 1]? = some (.cells #[.int .i64 0,.int .i64 0,.int .u64 0] 33 (0,0))∧(∃ st',Grow M M st st'∧MS (gap T w.heap.size V.heap.size) Z sb (n + 9) L M st' mo ba en)∧Fr (fun x=>T x ∨ x = b) w Z:=
  ⟨k.at_ h.res (fun e=>by have e3:w.heap.size + 1 = b:=e;omega),⟨st,Grow.refl M st,(h.ms.kept k (fun x e e2=>hTb (by rw [← show x = b from e2];exact e.1))).mono (by omega)⟩,(h.fr.mono fun x _ e=>.inr e).trans (k.mono fun x _ e=>.inr e)⟩
theorem isBranch_no {op:Int} (h:¬ (5 ≤ op∧op ≤ 10)) (w:World):Calls Tryz.prog 80 #[.int .i64 op] w fun e w'=>e = .returned (.bool false)∧w = w':=by
  have:=isBranch_any op w;rwa [decide_eq_false h] at this
theorem isLoad_no {op:Int} (h:¬ (11 ≤ op∧op ≤ 17)) (w:World):Calls Tryz.prog 82 #[.int .i64 op] w fun e w'=>e = .returned (.bool false)∧w = w':=by
  have:=isLoad_any op w;rwa [decide_eq_false h] at this
theorem isStore_no {op:Int} (h:¬ (18 ≤ op∧op ≤ 21)) (w:World):Calls Tryz.prog 84 #[.int .i64 op] w fun e w'=>e = .returned (.bool false)∧w = w':=by
  have:=isStore_any op w;rwa [decide_eq_false h] at this
theorem isBranch_yes {op:Int} (h:5 ≤ op∧op ≤ 10) (w:World):Calls Tryz.prog 80 #[.int .i64 op] w fun e w'=>e = .returned (.bool true)∧w = w':=by
  have:=isBranch_any op w;rwa [decide_eq_true h] at this
theorem isLoad_yes {op:Int} (h:11 ≤ op∧op ≤ 17) (w:World):Calls Tryz.prog 82 #[.int .i64 op] w fun e w'=>e = .returned (.bool true)∧w = w':=by
  have:=isLoad_any op w;rwa [decide_eq_true h] at this
theorem isStore_yes {op:Int} (h:18 ≤ op∧op ≤ 21) (w:World):Calls Tryz.prog 84 #[.int .i64 op] w fun e w'=>e = .returned (.bool true)∧w = w':=by
  have:=isStore_any op w;rwa [decide_eq_true h] at this
theorem haWidth_no {op:Int} (h:op < 63 ∨ 84 < op) (w:World):Calls Tryz.prog 86 #[.int .i64 op] w fun e w'=>e = .returned (.int .i64 0)∧w = w':=by
  have h1:=awidth_any op w
  have h2:awid op = 0:=by rcases awid_iff op with h3 | h3 <;> omega
  rwa [h2] at h1
theorem keepG7 {g b:Nat} {w8 w9:World} {v0 v1 v2 v3 v4 v5 v6:Value} (k:Keeps g b w8 w9) (h:w8.cell? ⟨g,0,none⟩ = some v0∧w8.cell? ⟨g,1,none⟩ = some v1∧w8.cell? ⟨g,2,none⟩ = some v2∧w8.cell? ⟨g,3,none⟩ = some v3∧w8.cell? ⟨g,4,none⟩ = some v4∧w8.cell? ⟨g,5,none⟩ = some v5∧w8.cell? ⟨g,6,none⟩ = some v6):w9.cell? ⟨g,0,none⟩ = some v0∧w9.cell? ⟨g,1,none⟩ = some v1∧w9.cell? ⟨g,2,none⟩ = some v2∧w9.cell? ⟨g,3,none⟩ = some v3∧w9.cell? ⟨g,4,none⟩ = some v4∧w9.cell? ⟨g,5,none⟩ = some v5∧w9.cell? ⟨g,6,none⟩ = some v6:=
  ⟨k _ _ h.1 (.inl rfl),k _ _ h.2.1 (.inl rfl),k _ _ h.2.2.1 (.inl rfl),k _ _ h.2.2.2.1 (.inl rfl),k _ _ h.2.2.2.2.1 (.inl rfl),k _ _ h.2.2.2.2.2.1 (.inl rfl),k _ _ h.2.2.2.2.2.2 (.inl rfl)⟩
theorem andNot64 (a:Nat) (h:a < 18446744073709551616):bits .andNot .u64 (a:Int) 1 = (a:Int) / 2 * 2:=by
  have h1:=u64_andNot_nat a 1 h (by decide)
  rw [show ((1:Nat):Int) = 1 from rfl] at h1
  rw [h1,show (a:Int) / 2 * 2 = ((a / 2 * 2:Nat):Int) by omega]
  congr 1
  refine Nat.eq_of_testBit_eq fun i=>?_
  rw [show a / 2 * 2 = (a >>> 1) <<< 1 by rw [Nat.shiftLeft_eq,Nat.shiftRight_eq_div_pow],show 18446744073709551615 - 1 = (2 ^ 63 - 1) <<< 1 by decide,Nat.testBit_and,Nat.testBit_shiftLeft,Nat.testBit_shiftLeft,Nat.testBit_shiftRight,Nat.testBit_two_pow_sub_one]
  by_cases h0:1 ≤ i
  · rw [show 1 + (i - 1) = i by omega]
    by_cases h6:i < 64
    · simp [h0,show i - 1 < 63 by omega]
    · rw [Nat.testBit_lt_two_pow (x:=a) (i:=i) (Nat.lt_of_lt_of_le h (show 2 ^ 64 ≤ 2 ^ i from Nat.pow_le_pow_right (by decide) (by omega)))]
      simp
  · simp [h0]
theorem step_zero {L:List Rg} {M:Nat → Int} {ha hn op:Int} {a:Nat} {x:Int} {o:Out} {M':Nat → Int} (h:StepIs L M ha hn op a x o M') (hk:o.k = 0):o.fk = 0∧o.fa = 0:=by
  cases h <;> first | exact ⟨rfl,rfl⟩ | (simp only [badO] at hk;omega)
theorem only_ne {b g:Nat} (h:b < g):¬ only b g:=fun e=>by have e3:g = b:=e;omega
theorem haDo_jumps (h:StAt w b s.pc s.xs s.ha s.hn) (hR:Regs s.xs) (hm:MS T w sb n L M st mo ba en) (hTb:¬ T b) (hn0:n < 80000000) (hT:∀ b,w.heap.size ≤ b → T b) (i:Td.Ins) (hd:0 ≤ i.rd∧i.rd < 32) (hr:0 ≤ i.r1∧i.r1 < 32) (hr2:0 ≤ i.r2∧i.r2 < 32) (hc:i.op = 2 ∨ i.op = 3 ∨ i.op = 4) :
    Calls Tryz.prog 51 #[addr0 b,addr0 sb,.agg i.cells] w (DoHaPost T w b sb n s L M st mo ba en i):=by
  have K0:=hid ((Bl.new w (.cells i.cells 38)).alloc (.cells #[.int .i64 0,.int .i64 0,.int .u64 0] 33))
  obtain ⟨b0,b1⟩:=two_newD w (.cells i.cells 38) (.cells #[.int .i64 0,.int .i64 0,.int .u64 0] 33)
  have DV:=hid (dov_of (i:=i) h hm hTb (s.nxt i))
  have hlt:=h.lt
  have hstW:=h.bl K0.out
  have HR:=hid hR
  have HT:=hid hT;clear hT
  have HTB:=hid hTb;clear hTb
  have HC:=hid hc;clear hc
  have HN:=hid hn0;clear hn0
  clear h hm hR
  have B0:=hid b0;clear b0
  obtain ⟨pc,xs,ha,hn⟩:=s
  obtain ⟨op,rd,r1,r2,im,od,sz⟩:=i
  simp only [St.nxt] at hd hr hr2 hstW HR HC DV
  unfold addr0 at *
  go_enter Tryz.func51,Tryz.ntmps51
  go_upto_region 1 with (fail)
  generalize (w.alloc (.cells (Td.I7 op rd r1 r2 im od sz) 38)).alloc (.cells #[.int .i64 0,.int .i64 0,.int .u64 0] 33) = W at *
  have c0:=hstW.pc_
  have z0:=hstW.free 0
  obtain ⟨d0,d1,d2,d3,d4,d5,d6⟩:=seven_at B0.out
  go_upto_region 5 with (fail)
  generalize hN:IntKind.u64.wrap (pc + IntKind.u64.wrap sz) = np at *
  generalize W.setCell ⟨b,0,none⟩ (.int .u64 np) = V at *
  have HN9:=hid hN;clear hN
  clear c0 z0 d0 d1 d2 d3 d4 d5 d6 hstW B0 K0 b1
  obtain ⟨d0,d1,d2,d3,d4,d5,d6⟩:=seven_at DV.out.box
  simp only at d0 d1 d2 d3 d4 d5 d6
  obtain ⟨e0,e1,e2⟩:=three_at DV.out.res
  have z0:=free_at DV.out.res
  have hsz:=DV.out.size
  rcases HC.out with rfl | rfl | rfl
  · have CP:=hid (put_any DV.out.stt HR.out rd hd (IntKind.u64.wrap (pc + IntKind.u64.wrap im)))
    unfold addr0 at CP
    go_wp2_with fail
    with_reducible refine CP.out.mono ?_
    rintro e W1 ⟨rfl,g1,f1,y1⟩
    obtain ⟨r1',r2',r3'⟩:=DV.out.turn HTB.out hlt f1 g1
    have R1:=hid r1';clear r1'
    have R2:=hid r2';clear r2'
    have R3:=hid r3';clear r3'
    have G1:=hid g1;clear g1
    clear f1 d0 d1 d2 d3 d4 d5 d6 e0 e1 e2 z0
    obtain ⟨e0,e1,e2⟩:=three_at R1.out
    have z0:=free_at R1.out
    go_wp2_with fail
    (try simp only [Exit.inBlock,Exit.then])
    obtain ⟨s1,s2,s3,s4⟩:=do_fin (k:=0) (s':=⟨np,setX xs rd (IntKind.u64.wrap (pc + IntKind.u64.wrap im)),ha,hn⟩) (.int .i64 0) (.int .i64 0) (.int .u64 0) R1.out R2.out hsz R3.out (fun _=>G1.out) hlt
    refine bodyPost_ret (results_cell_row rfl _ _ (w.heap.size + 1) 33 _ (0,0) _ rfl s1 Tryz.underlying33 rfl (by kernel_rfl)) rfl ?_
    exact ⟨0,0,0,⟨np,setX xs rd (IntKind.u64.wrap (pc + IntKind.u64.wrap im)),ha,hn⟩,M,(by have:=DoIs.auipc (L:=L) (M:=M) (s:=⟨pc,xs,ha,hn⟩) (i:=⟨2,rd,r1,r2,im,od,sz⟩) rfl;unfold St.nxt at this;simp only at this;rw [HN9.out] at this;exact this),rfl,s2,s3,s4⟩
  · have CJ:=hid (jump_any DV.out.stt HR.out rd hd (IntKind.u64.wrap (pc + IntKind.u64.wrap im)))
    unfold addr0 at CJ
    go_wp2_with fail
    with_reducible refine CJ.out.mono ?_
    rintro e W1 ⟨rfl,g1,f1,y1⟩
    obtain ⟨r1',r2',r3'⟩:=DV.out.turn HTB.out hlt f1 g1
    have R1:=hid r1';clear r1'
    have R2:=hid r2';clear r2'
    have R3:=hid r3';clear r3'
    have G1:=hid g1;clear g1
    clear f1 d0 d1 d2 d3 d4 d5 d6 e0 e1 e2 z0
    obtain ⟨e0,e1,e2⟩:=three_at R1.out
    have z0:=free_at R1.out
    go_wp2_with fail
    (try simp only [Exit.inBlock,Exit.then])
    obtain ⟨s1,s2,s3,s4⟩:=do_fin (k:=0) (s':=⟨IntKind.u64.wrap (pc + IntKind.u64.wrap im),setX xs rd np,ha,hn⟩) (.int .i64 0) (.int .i64 0) (.int .u64 0) R1.out R2.out hsz R3.out (fun _=>G1.out) hlt
    refine bodyPost_ret (results_cell_row rfl _ _ (w.heap.size + 1) 33 _ (0,0) _ rfl s1 Tryz.underlying33 rfl (by kernel_rfl)) rfl ?_
    exact ⟨0,0,0,⟨IntKind.u64.wrap (pc + IntKind.u64.wrap im),setX xs rd np,ha,hn⟩,M,(by have:=DoIs.jal (L:=L) (M:=M) (s:=⟨pc,xs,ha,hn⟩) (i:=⟨3,rd,r1,r2,im,od,sz⟩) rfl;unfold St.nxt at this;simp only at this;rw [HN9.out] at this;exact this),rfl,s2,s3,s4⟩
  · obtain ⟨a,haa⟩:=Int.eq_ofNat_of_zero_le (show 0 ≤ adr xs ⟨4,rd,r1,r2,im,od,sz⟩ from (wrap_bd _).1)
    have hab:a < 18446744073709551616:=by have:=(wrap_bd (rx xs r1 + IntKind.u64.wrap im)).2;unfold adr at haa;simp only at haa;omega
    have CA:=hid (fun U (k:Bl V U)=>place_any (DV.out.stt.bl k) ⟨4,rd,r1,r2,im,od,sz⟩ hr)
    simp only [haa] at CA
    have CJ:=hid (fun U (k:Bl V U)=>jump_any (DV.out.stt.bl k) HR.out rd hd ((a:Int) / 2 * 2))
    have an:=andNot64 a hab
    unfold addr0 at CA CJ
    have HS:=hid (And.intro d0 (And.intro d1 (And.intro d2 (And.intro d3 (And.intro d4 (And.intro d5 d6))))))
    go_upto_region 10 with (fail)
    clear d0 d1 d2 d3 d4 d5 d6
    go_region_held3 (fun w'=>w'.cell? ⟨w.heap.size,0,none⟩ = some (.int .i64 4)∧w'.cell? ⟨w.heap.size,1,none⟩ = some (.int .i64 rd)∧w'.cell? ⟨w.heap.size,2,none⟩ = some (.int .i64 r1)∧w'.cell? ⟨w.heap.size,3,none⟩ = some (.int .i64 r2)∧w'.cell? ⟨w.heap.size,4,none⟩ = some (.int .i64 im)∧w'.cell? ⟨w.heap.size,5,none⟩ = some (.int .i64 od)∧w'.cell? ⟨w.heap.size,6,none⟩ = some (.int .i64 sz)) (first | (refine keepG7 (b:=b) (w8:=W2) ?_ hkk2;(repeat' (first | with_reducible apply Keeps.rfl' | with_reducible apply Keeps.drew))) | (refine keepG7 (b:=b) (w8:=W1) ?_ hkk;(repeat' (first | with_reducible apply Keeps.rfl' | with_reducible apply Keeps.drew))) | (refine keepG7 (b:=b) (w8:=V) ?_ HS.out;(repeat' (first | with_reducible apply Keeps.rfl' | with_reducible apply Keeps.drew)))) (first | (go_at_call 79;with_reducible refine (CA.out V.drew (Bl.refl V).drew).mono ?_;rintro e W1 ⟨rfl,k3⟩;have hkk:=keepG7 (b:=b) ((Keeps.bl (Bl.refl V).drew).trans (Keeps.bl k3)) HS.out;have K3:=hid ((Bl.refl V).drew.trans k3)) | (go_at_call 78;with_reducible refine (CJ.out W1 K3.out).mono ?_;rintro e W2 ⟨rfl,g1,f1',y1⟩;have hkk2:=keepG7 (b:=w.heap.size) (g:=w.heap.size) (Keeps.fr (U:=only b) f1' (only_ne hlt) (only_ne hlt)) hkk;have f1:=(Fr.of_bl (S:=only b) K3.out).trans f1'))
    clear hkk hkk2 HS CA CJ K3
    (try simp only [Exit.inBlock,Exit.then])
    obtain ⟨r1',r2',r3'⟩:=DV.out.turn HTB.out hlt f1 g1
    have R1:=hid r1';clear r1'
    have R2:=hid r2';clear r2'
    have R3:=hid r3';clear r3'
    have G1:=hid g1;clear g1
    clear f1 e0 e1 e2 z0
    obtain ⟨e0,e1,e2⟩:=three_at R1.out
    have z0:=free_at R1.out
    go_wp2_with fail
    (try simp only [Exit.inBlock,Exit.then])
    obtain ⟨s1,s2,s3,s4⟩:=do_fin (k:=0) (s':=⟨(a:Int) / 2 * 2,setX xs rd np,ha,hn⟩) (.int .i64 0) (.int .i64 0) (.int .u64 0) R1.out R2.out hsz R3.out (fun _=>G1.out) hlt
    refine bodyPost_ret (results_cell_row rfl _ _ (w.heap.size + 1) 33 _ (0,0) _ rfl s1 Tryz.underlying33 rfl (by kernel_rfl)) rfl ?_
    exact ⟨0,0,0,⟨(a:Int) / 2 * 2,setX xs rd np,ha,hn⟩,M,(by have:=DoIs.jalr (L:=L) (M:=M) (s:=⟨pc,xs,ha,hn⟩) (i:=⟨4,rd,r1,r2,im,od,sz⟩) rfl;unfold St.nxt at this;simp only at this;rw [HN9.out,haa] at this;exact this),rfl,s2,s3,s4⟩
theorem haDo_plain (h:StAt w b s.pc s.xs s.ha s.hn) (hR:Regs s.xs) (hm:MS T w sb n L M st mo ba en) (hTb:¬ T b) (hn0:n < 80000000) (hT:∀ b,w.heap.size ≤ b → T b) (i:Td.Ins) (hd:0 ≤ i.rd∧i.rd < 32) (hr:0 ≤ i.r1∧i.r1 < 32) (hr2:0 ≤ i.r2∧i.r2 < 32) (hc:(5 ≤ i.op∧i.op ≤ 10) ∨ i.op = 85 ∨ i.op = 86 ∨ i.op = 87 ∨ i.op = 88 ∨ (i.op = 1 ∨ (22 ≤ i.op∧i.op ≤ 62) ∨ i.op ≤ 0 ∨ 88 < i.op)) :
    Calls Tryz.prog 51 #[addr0 b,addr0 sb,.agg i.cells] w (DoHaPost T w b sb n s L M st mo ba en i):=by
  have K0:=hid ((Bl.new w (.cells i.cells 38)).alloc (.cells #[.int .i64 0,.int .i64 0,.int .u64 0] 33))
  obtain ⟨b0,b1⟩:=two_newD w (.cells i.cells 38) (.cells #[.int .i64 0,.int .i64 0,.int .u64 0] 33)
  have DV:=hid (dov_of (i:=i) h hm hTb (s.nxt i))
  have hlt:=h.lt
  have hstW:=h.bl K0.out
  have HR:=hid hR
  have HT:=hid hT;clear hT
  have HTB:=hid hTb;clear hTb
  have HC:=hid hc;clear hc
  have HN:=hid hn0;clear hn0
  clear h hm hR
  have B0:=hid b0;clear b0
  obtain ⟨pc,xs,ha,hn⟩:=s
  obtain ⟨op,rd,r1,r2,im,od,sz⟩:=i
  simp only [St.nxt] at hd hr hr2 hstW HR HC DV
  unfold addr0 at *
  go_enter Tryz.func51,Tryz.ntmps51
  go_upto_region 1 with (fail)
  generalize (w.alloc (.cells (Td.I7 op rd r1 r2 im od sz) 38)).alloc (.cells #[.int .i64 0,.int .i64 0,.int .u64 0] 33) = W at *
  have c0:=hstW.pc_
  have z0:=hstW.free 0
  obtain ⟨d0,d1,d2,d3,d4,d5,d6⟩:=seven_at B0.out
  go_upto_region 5 with (fail)
  generalize hN:IntKind.u64.wrap (pc + IntKind.u64.wrap sz) = np at *
  generalize W.setCell ⟨b,0,none⟩ (.int .u64 np) = V at *
  have HN9:=hid hN;clear hN
  clear c0 z0 d0 d1 d2 d3 d4 d5 d6 hstW B0 K0 b1
  obtain ⟨d0,d1,d2,d3,d4,d5,d6⟩:=seven_at DV.out.box
  simp only at d0 d1 d2 d3 d4 d5 d6
  obtain ⟨e0,e1,e2⟩:=three_at DV.out.res
  have z0:=free_at DV.out.res
  have hsz:=DV.out.size
  rcases HC.out with hc | rfl | rfl | rfl | rfl | hc
  · clear HC
    have q2:=nin (show ¬ op = 2 by omega)
    have q3:=nin (show ¬ op = 3 by omega)
    have q4:=nin (show ¬ op = 4 by omega)
    have CB:=hid (fun W=>isBranch_yes hc W)
    have CJ:=hid (branch_any (here:=pc) DV.out.stt ⟨op,rd,r1,r2,im,od,sz⟩ hc hr hr2)
    unfold addr0 at CJ
    go_wp2_with (go_at_call 80;with_reducible refine (CB.out _).mono ?_;rintro e W1 ⟨rfl,rfl⟩)
    with_reducible refine CJ.out.mono ?_
    rintro e W1 ⟨rfl,g1,f1⟩
    obtain ⟨r1',r2',r3'⟩:=DV.out.turn HTB.out hlt f1 g1
    have R1:=hid r1';clear r1'
    have R2:=hid r2';clear r2'
    have R3:=hid r3';clear r3'
    have G1:=hid g1;clear g1
    clear f1 d0 d1 d2 d3 d4 d5 d6 e0 e1 e2 z0
    obtain ⟨e0,e1,e2⟩:=three_at R1.out
    have z0:=free_at R1.out
    go_wp2_with fail
    (try simp only [Exit.inBlock,Exit.then])
    obtain ⟨s1,s2,s3,s4⟩:=do_fin (k:=0) (s':=⟨brPc xs ⟨op,rd,r1,r2,im,od,sz⟩ np pc,xs,ha,hn⟩) (.int .i64 0) (.int .i64 0) (.int .u64 0) R1.out R2.out hsz R3.out (fun _=>G1.out) hlt
    refine bodyPost_ret (results_cell_row rfl _ _ (w.heap.size + 1) 33 _ (0,0) _ rfl s1 Tryz.underlying33 rfl (by kernel_rfl)) rfl ?_
    exact ⟨0,0,0,⟨brPc xs ⟨op,rd,r1,r2,im,od,sz⟩ np pc,xs,ha,hn⟩,M,(by have:=DoIs.branch (L:=L) (M:=M) (s:=⟨pc,xs,ha,hn⟩) (i:=⟨op,rd,r1,r2,im,od,sz⟩) hc;unfold St.nxt at this;simp only at this;rw [HN9.out] at this;exact this),rfl,s2,s3,s4⟩
  · clear HC
    have CB:=hid (fun W=>isBranch_no (op:=85) (by omega) W)
    have CL:=hid (fun W=>isLoad_no (op:=85) (by omega) W)
    have CS:=hid (fun W=>isStore_no (op:=85) (by omega) W)
    have CW:=hid (fun W=>haWidth_no (op:=85) (by omega) W)
    go_wp2_with (first | (go_at_call 80;with_reducible refine (CB.out _).mono ?_;rintro e W1 ⟨rfl,rfl⟩) | (go_at_call 82;with_reducible refine (CL.out _).mono ?_;rintro e W1 ⟨rfl,rfl⟩) | (go_at_call 84;with_reducible refine (CS.out _).mono ?_;rintro e W1 ⟨rfl,rfl⟩) | (go_at_call 86;with_reducible refine (CW.out _).mono ?_;rintro e W1 ⟨rfl,rfl⟩))
    (try simp only [Exit.inBlock,Exit.then])
    obtain ⟨s1,s2,s3,s4⟩:=do_fin (k:=0) (s':=⟨np,xs,ha,hn⟩) (.int .i64 0) (.int .i64 0) (.int .u64 0) DV.out.res (DV.out.mono (by omega)) hsz (DV.out.fr.mono fun x _ e=>.inr e) (fun _=>DV.out.stt) hlt
    refine bodyPost_ret (results_cell_row rfl _ _ (w.heap.size + 1) 33 _ (0,0) _ rfl s1 Tryz.underlying33 rfl (by kernel_rfl)) rfl ?_
    exact ⟨0,0,0,⟨np,xs,ha,hn⟩,M,(by have:=DoIs.fence (L:=L) (M:=M) (s:=⟨pc,xs,ha,hn⟩) (i:=⟨85,rd,r1,r2,im,od,sz⟩) (.inl rfl);unfold St.nxt at this;simp only at this;rw [HN9.out] at this;exact this),rfl,s2,s3,s4⟩
  · clear HC
    have CB:=hid (fun W=>isBranch_no (op:=86) (by omega) W)
    have CL:=hid (fun W=>isLoad_no (op:=86) (by omega) W)
    have CS:=hid (fun W=>isStore_no (op:=86) (by omega) W)
    have CW:=hid (fun W=>haWidth_no (op:=86) (by omega) W)
    go_wp2_with (first | (go_at_call 80;with_reducible refine (CB.out _).mono ?_;rintro e W1 ⟨rfl,rfl⟩) | (go_at_call 82;with_reducible refine (CL.out _).mono ?_;rintro e W1 ⟨rfl,rfl⟩) | (go_at_call 84;with_reducible refine (CS.out _).mono ?_;rintro e W1 ⟨rfl,rfl⟩) | (go_at_call 86;with_reducible refine (CW.out _).mono ?_;rintro e W1 ⟨rfl,rfl⟩))
    (try simp only [Exit.inBlock,Exit.then])
    obtain ⟨s1,s2,s3,s4⟩:=do_fin (k:=0) (s':=⟨np,xs,ha,hn⟩) (.int .i64 0) (.int .i64 0) (.int .u64 0) DV.out.res (DV.out.mono (by omega)) hsz (DV.out.fr.mono fun x _ e=>.inr e) (fun _=>DV.out.stt) hlt
    refine bodyPost_ret (results_cell_row rfl _ _ (w.heap.size + 1) 33 _ (0,0) _ rfl s1 Tryz.underlying33 rfl (by kernel_rfl)) rfl ?_
    exact ⟨0,0,0,⟨np,xs,ha,hn⟩,M,(by have:=DoIs.fence (L:=L) (M:=M) (s:=⟨pc,xs,ha,hn⟩) (i:=⟨86,rd,r1,r2,im,od,sz⟩) (.inr rfl);unfold St.nxt at this;simp only at this;rw [HN9.out] at this;exact this),rfl,s2,s3,s4⟩
  · clear HC
    have CB:=hid (fun W=>isBranch_no (op:=87) (by omega) W)
    have CL:=hid (fun W=>isLoad_no (op:=87) (by omega) W)
    have CS:=hid (fun W=>isStore_no (op:=87) (by omega) W)
    have CW:=hid (fun W=>haWidth_no (op:=87) (by omega) W)
    go_wp2_with (first | (go_at_call 80;with_reducible refine (CB.out _).mono ?_;rintro e W1 ⟨rfl,rfl⟩) | (go_at_call 82;with_reducible refine (CL.out _).mono ?_;rintro e W1 ⟨rfl,rfl⟩) | (go_at_call 84;with_reducible refine (CS.out _).mono ?_;rintro e W1 ⟨rfl,rfl⟩) | (go_at_call 86;with_reducible refine (CW.out _).mono ?_;rintro e W1 ⟨rfl,rfl⟩))
    (try simp only [Exit.inBlock,Exit.then])
    obtain ⟨s1,s2,s3,s4⟩:=do_fin (k:=1) (s':=⟨pc,xs,0,0⟩) (.int .i64 1) (.int .i64 0) (.int .u64 0) DV.out.res (DV.out.mono (by omega)) hsz (DV.out.fr.mono fun x _ e=>.inr e) (fun e=>by cases e) hlt
    refine bodyPost_ret (results_cell_row rfl _ _ (w.heap.size + 1) 33 _ (0,0) _ rfl s1 Tryz.underlying33 rfl (by kernel_rfl)) rfl ?_
    exact ⟨1,0,0,⟨pc,xs,0,0⟩,M,(DoIs.ecall (L:=L) (M:=M) (s:=⟨pc,xs,ha,hn⟩) (i:=⟨87,rd,r1,r2,im,od,sz⟩) rfl),rfl,s2,s3,s4⟩
  · clear HC
    have CB:=hid (fun W=>isBranch_no (op:=88) (by omega) W)
    have CL:=hid (fun W=>isLoad_no (op:=88) (by omega) W)
    have CS:=hid (fun W=>isStore_no (op:=88) (by omega) W)
    have CW:=hid (fun W=>haWidth_no (op:=88) (by omega) W)
    go_wp2_with (first | (go_at_call 80;with_reducible refine (CB.out _).mono ?_;rintro e W1 ⟨rfl,rfl⟩) | (go_at_call 82;with_reducible refine (CL.out _).mono ?_;rintro e W1 ⟨rfl,rfl⟩) | (go_at_call 84;with_reducible refine (CS.out _).mono ?_;rintro e W1 ⟨rfl,rfl⟩) | (go_at_call 86;with_reducible refine (CW.out _).mono ?_;rintro e W1 ⟨rfl,rfl⟩))
    (try simp only [Exit.inBlock,Exit.then])
    obtain ⟨s1,s2,s3,s4⟩:=do_fin (k:=2) (s':=⟨pc,xs,0,0⟩) (.int .i64 2) (.int .i64 0) (.int .u64 0) DV.out.res (DV.out.mono (by omega)) hsz (DV.out.fr.mono fun x _ e=>.inr e) (fun e=>by cases e) hlt
    refine bodyPost_ret (results_cell_row rfl _ _ (w.heap.size + 1) 33 _ (0,0) _ rfl s1 Tryz.underlying33 rfl (by kernel_rfl)) rfl ?_
    exact ⟨2,0,0,⟨pc,xs,0,0⟩,M,(DoIs.ebreak (L:=L) (M:=M) (s:=⟨pc,xs,ha,hn⟩) (i:=⟨88,rd,r1,r2,im,od,sz⟩) rfl),rfl,s2,s3,s4⟩
  · clear HC
    have q2:=nin (show ¬ op = 2 by omega)
    have q3:=nin (show ¬ op = 3 by omega)
    have q4:=nin (show ¬ op = 4 by omega)
    have q85:=nin (show ¬ op = 85 by omega)
    have q86:=nin (show ¬ op = 86 by omega)
    have q87:=nin (show ¬ op = 87 by omega)
    have q88:=nin (show ¬ op = 88 by omega)
    have CB:=hid (fun W=>isBranch_no (op:=op) (by omega) W)
    have CL:=hid (fun W=>isLoad_no (op:=op) (by omega) W)
    have CS:=hid (fun W=>isStore_no (op:=op) (by omega) W)
    have CW:=hid (fun W=>haWidth_no (op:=op) (by omega) W)
    have CJ:=hid (reckon_any DV.out.stt HR.out ⟨op,rd,r1,r2,im,od,sz⟩ hd hr hr2)
    unfold addr0 at CJ
    go_wp2_with (first | (go_at_call 80;with_reducible refine (CB.out _).mono ?_;rintro e W1 ⟨rfl,rfl⟩) | (go_at_call 82;with_reducible refine (CL.out _).mono ?_;rintro e W1 ⟨rfl,rfl⟩) | (go_at_call 84;with_reducible refine (CS.out _).mono ?_;rintro e W1 ⟨rfl,rfl⟩) | (go_at_call 86;with_reducible refine (CW.out _).mono ?_;rintro e W1 ⟨rfl,rfl⟩))
    with_reducible refine CJ.out.mono ?_
    rintro e W1 ⟨rfl,g1,f1⟩
    obtain ⟨r1',r2',r3'⟩:=DV.out.turn HTB.out hlt f1 g1
    have R1:=hid r1';clear r1'
    have R2:=hid r2';clear r2'
    have R3:=hid r3';clear r3'
    have G1:=hid g1;clear g1
    clear f1 d0 d1 d2 d3 d4 d5 d6 e0 e1 e2 z0
    obtain ⟨e0,e1,e2⟩:=three_at R1.out
    have z0:=free_at R1.out
    go_wp2_with fail
    (try simp only [Exit.inBlock,Exit.then])
    obtain ⟨s1,s2,s3,s4⟩:=do_fin (k:=0) (s':=⟨np,setX xs rd (recV xs ⟨op,rd,r1,r2,im,od,sz⟩),ha,hn⟩) (.int .i64 0) (.int .i64 0) (.int .u64 0) R1.out R2.out hsz R3.out (fun _=>G1.out) hlt
    refine bodyPost_ret (results_cell_row rfl _ _ (w.heap.size + 1) 33 _ (0,0) _ rfl s1 Tryz.underlying33 rfl (by kernel_rfl)) rfl ?_
    exact ⟨0,0,0,⟨np,setX xs rd (recV xs ⟨op,rd,r1,r2,im,od,sz⟩),ha,hn⟩,M,(by have:=DoIs.reck (L:=L) (M:=M) (s:=⟨pc,xs,ha,hn⟩) (i:=⟨op,rd,r1,r2,im,od,sz⟩) hc;unfold St.nxt at this;simp only at this;rw [HN9.out] at this;exact this),rfl,s2,s3,s4⟩
theorem haDo_space (h:StAt w b s.pc s.xs s.ha s.hn) (hR:Regs s.xs) (hm:MS T w sb n L M st mo ba en) (hTb:¬ T b) (hn0:n < 80000000) (hT:∀ b,w.heap.size ≤ b → T b) (i:Td.Ins) (hd:0 ≤ i.rd∧i.rd < 32) (hr:0 ≤ i.r1∧i.r1 < 32) (hr2:0 ≤ i.r2∧i.r2 < 32) (hc:(11 ≤ i.op∧i.op ≤ 17) ∨ (18 ≤ i.op∧i.op ≤ 21) ∨ (63 ≤ i.op∧i.op ≤ 84)) :
    Calls Tryz.prog 51 #[addr0 b,addr0 sb,.agg i.cells] w (DoHaPost T w b sb n s L M st mo ba en i):=by
  have K0:=hid ((Bl.new w (.cells i.cells 38)).alloc (.cells #[.int .i64 0,.int .i64 0,.int .u64 0] 33))
  obtain ⟨b0,b1⟩:=two_newD w (.cells i.cells 38) (.cells #[.int .i64 0,.int .i64 0,.int .u64 0] 33)
  have DV:=hid (dov_of (i:=i) h hm hTb (s.nxt i))
  have hlt:=h.lt
  have hstW:=h.bl K0.out
  have HR:=hid hR
  have HT:=hid hT;clear hT
  have HTB:=hid hTb;clear hTb
  have HC:=hid hc;clear hc
  have HN:=hid hn0;clear hn0
  clear h hm hR
  have B0:=hid b0;clear b0
  obtain ⟨pc,xs,ha,hn⟩:=s
  obtain ⟨op,rd,r1,r2,im,od,sz⟩:=i
  simp only [St.nxt] at hd hr hr2 hstW HR HC DV
  unfold addr0 at *
  go_enter Tryz.func51,Tryz.ntmps51
  go_upto_region 1 with (fail)
  generalize (w.alloc (.cells (Td.I7 op rd r1 r2 im od sz) 38)).alloc (.cells #[.int .i64 0,.int .i64 0,.int .u64 0] 33) = W at *
  have c0:=hstW.pc_
  have z0:=hstW.free 0
  obtain ⟨d0,d1,d2,d3,d4,d5,d6⟩:=seven_at B0.out
  go_upto_region 5 with (fail)
  generalize hN:IntKind.u64.wrap (pc + IntKind.u64.wrap sz) = np at *
  generalize W.setCell ⟨b,0,none⟩ (.int .u64 np) = V at *
  have HN9:=hid hN;clear hN
  clear c0 z0 d0 d1 d2 d3 d4 d5 d6 hstW B0 K0 b1
  obtain ⟨d0,d1,d2,d3,d4,d5,d6⟩:=seven_at DV.out.box
  simp only at d0 d1 d2 d3 d4 d5 d6
  obtain ⟨e0,e1,e2⟩:=three_at DV.out.res
  have z0:=free_at DV.out.res
  have hsz:=DV.out.size
  rcases HC.out with hc | hc | hc
  · clear HC
    have q2:=nin (show ¬ op = 2 by omega)
    have q3:=nin (show ¬ op = 3 by omega)
    have q4:=nin (show ¬ op = 4 by omega)
    have CB:=hid (fun W=>isBranch_no (op:=op) (by omega) W)
    have CL:=hid (fun W=>isLoad_yes hc W)
    have CX:=hid (haLoad_any DV.out.stt HR.out DV.out.ms ⟨op,rd,r1,r2,im,od,sz⟩ hc hd hr)
    unfold addr0 at CX
    go_wp2_with (first | (go_at_call 80;with_reducible refine (CB.out _).mono ?_;rintro e W1 ⟨rfl,rfl⟩) | (go_at_call 82;with_reducible refine (CL.out _).mono ?_;rintro e W1 ⟨rfl,rfl⟩))
    with_reducible refine CX.out.mono ?_
    rintro e W1 (⟨z,hf,rfl,k1⟩ | ⟨hf,rfl,g1,f1⟩)
    · unfold stopV
      have HF:=hid hf;clear hf
      have R1:=hid (k1.at_ DV.out.res)
      have R2:=hid (show ∃ st',Grow M M st st'∧MS (gap T w.heap.size V.heap.size) W1 sb (n + 9) L M st' mo ba en from ⟨st,Grow.refl M st,(DV.out.ms.bl k1).mono (by omega)⟩)
      have R3:=hid ((DV.out.fr.mono fun x _ e=>Or.inr (a:=T x) e).trans (Fr.of_bl k1))
      clear d0 d1 d2 d3 d4 d5 d6 e0 e1 e2 z0
      obtain ⟨e0,e1,e2⟩:=three_at R1.out
      have z0:=free_at R1.out
      go_wp2_with fail
      (try simp only [Exit.inBlock,Exit.then])
      obtain ⟨s1,s2,s3,s4⟩:=do_fin (k:=4) (s':=⟨pc,xs,0,0⟩) (.int .i64 4) (.int .i64 1) (.int .u64 z) R1.out R2.out hsz R3.out (fun e=>by cases e) hlt
      refine bodyPost_ret (results_cell_row rfl _ _ (w.heap.size + 1) 33 _ (0,0) _ rfl s1 Tryz.underlying33 rfl (by kernel_rfl)) rfl ?_
      exact ⟨4,1,z,⟨pc,xs,0,0⟩,M,(DoIs.loadBad (L:=L) (M:=M) (s:=⟨pc,xs,ha,hn⟩) (i:=⟨op,rd,r1,r2,im,od,sz⟩) z hc HF.out),rfl,s2,s3,s4⟩
    · unfold stopV
      have HF:=hid hf;clear hf
      obtain ⟨r1',r2',r3'⟩:=DV.out.turn HTB.out hlt f1 g1
      have G1:=hid g1;clear g1
      have R1:=hid r1'
      have R2:=hid r2'
      have R3:=hid r3'
      clear d0 d1 d2 d3 d4 d5 d6 e0 e1 e2 z0
      obtain ⟨e0,e1,e2⟩:=three_at R1.out
      have z0:=free_at R1.out
      go_wp2_with fail
      (try simp only [Exit.inBlock,Exit.then])
      obtain ⟨s1,s2,s3,s4⟩:=do_fin (k:=0) (s':=⟨np,setX xs rd (loadV op (numAt M (adr xs ⟨op,rd,r1,r2,im,od,sz⟩).toNat (lwid op))),ha,hn⟩) (.int .i64 0) (.int .i64 0) (.int .u64 0) R1.out R2.out hsz R3.out (fun _=>G1.out) hlt
      refine bodyPost_ret (results_cell_row rfl _ _ (w.heap.size + 1) 33 _ (0,0) _ rfl s1 Tryz.underlying33 rfl (by kernel_rfl)) rfl ?_
      exact ⟨0,0,0,⟨np,setX xs rd (loadV op (numAt M (adr xs ⟨op,rd,r1,r2,im,od,sz⟩).toNat (lwid op))),ha,hn⟩,M,(by have:=DoIs.loadOk (L:=L) (M:=M) (s:=⟨pc,xs,ha,hn⟩) (i:=⟨op,rd,r1,r2,im,od,sz⟩) hc HF.out;unfold St.nxt at this;simp only at this;rw [HN9.out] at this;exact this),rfl,s2,s3,s4⟩
  · clear HC
    have q2:=nin (show ¬ op = 2 by omega)
    have q3:=nin (show ¬ op = 3 by omega)
    have q4:=nin (show ¬ op = 4 by omega)
    have CB:=hid (fun W=>isBranch_no (op:=op) (by omega) W)
    have CL:=hid (fun W=>isLoad_no (op:=op) (by omega) W)
    have CS:=hid (fun W=>isStore_yes hc W)
    have CX:=hid (haStore_any DV.out.stt DV.out.ms (gap_not HTB.out) HN.out (gap_new HT.out w.heap.size (Nat.le_of_lt (Nat.lt_of_succ_lt hsz))) ⟨op,rd,r1,r2,im,od,sz⟩ hc hr hr2)
    unfold addr0 at CX
    go_wp2_with (first | (go_at_call 80;with_reducible refine (CB.out _).mono ?_;rintro e W1 ⟨rfl,rfl⟩) | (go_at_call 82;with_reducible refine (CL.out _).mono ?_;rintro e W1 ⟨rfl,rfl⟩) | (go_at_call 84;with_reducible refine (CS.out _).mono ?_;rintro e W1 ⟨rfl,rfl⟩))
    with_reducible refine CX.out.mono ?_
    rintro e W1 (⟨z,hf,rfl,k1⟩ | ⟨hf,rfl,hms,f1⟩)
    · unfold stopV
      have HF:=hid hf;clear hf
      have R1:=hid (k1.at_ DV.out.res)
      have R2:=hid (show ∃ st',Grow M M st st'∧MS (gap T w.heap.size V.heap.size) W1 sb (n + 9) L M st' mo ba en from ⟨st,Grow.refl M st,(DV.out.ms.bl k1).mono (by omega)⟩)
      have R3:=hid ((DV.out.fr.mono fun x _ e=>Or.inr (a:=T x) e).trans (Fr.of_bl k1))
      clear d0 d1 d2 d3 d4 d5 d6 e0 e1 e2 z0
      obtain ⟨e0,e1,e2⟩:=three_at R1.out
      have z0:=free_at R1.out
      go_wp2_with fail
      (try simp only [Exit.inBlock,Exit.then])
      obtain ⟨s1,s2,s3,s4⟩:=do_fin (k:=4) (s':=⟨pc,xs,0,0⟩) (.int .i64 4) (.int .i64 2) (.int .u64 z) R1.out R2.out hsz R3.out (fun e=>by cases e) hlt
      refine bodyPost_ret (results_cell_row rfl _ _ (w.heap.size + 1) 33 _ (0,0) _ rfl s1 Tryz.underlying33 rfl (by kernel_rfl)) rfl ?_
      exact ⟨4,2,z,⟨pc,xs,0,0⟩,M,(DoIs.storeBad (L:=L) (M:=M) (s:=⟨pc,xs,ha,hn⟩) (i:=⟨op,rd,r1,r2,im,od,sz⟩) z hc HF.out),rfl,s2,s3,s4⟩
    · unfold stopV
      have HF:=hid hf;clear hf
      have G1:=hid (DV.out.stt.fr f1 (gap_not HTB.out))
      have R1:=hid (f1.at_ DV.out.res (gap_no hsz (Nat.le_succ _)))
      have R2:=hid hms
      have R3:=hid ((DV.out.fr.mono fun x _ e=>Or.inr (a:=T x) e).trans (f1.ungap.mono fun x _ e=>.inl e))
      clear d0 d1 d2 d3 d4 d5 d6 e0 e1 e2 z0
      obtain ⟨e0,e1,e2⟩:=three_at R1.out
      have z0:=free_at R1.out
      go_wp2_with fail
      (try simp only [Exit.inBlock,Exit.then])
      obtain ⟨s1,s2,s3,s4⟩:=do_fin (k:=0) (s':=⟨np,xs,ha,hn⟩) (.int .i64 0) (.int .i64 0) (.int .u64 0) R1.out R2.out hsz R3.out (fun _=>G1.out) hlt
      refine bodyPost_ret (results_cell_row rfl _ _ (w.heap.size + 1) 33 _ (0,0) _ rfl s1 Tryz.underlying33 rfl (by kernel_rfl)) rfl ?_
      exact ⟨0,0,0,⟨np,xs,ha,hn⟩,(lay M (adr xs ⟨op,rd,r1,r2,im,od,sz⟩).toNat (putB (rx xs r2) (swid op))),(by have:=DoIs.storeOk (L:=L) (M:=M) (s:=⟨pc,xs,ha,hn⟩) (i:=⟨op,rd,r1,r2,im,od,sz⟩) hc HF.out;unfold St.nxt at this;simp only at this;rw [HN9.out] at this;exact this),rfl,s2,s3,s4⟩
  · clear HC
    have q2:=nin (show ¬ op = 2 by omega)
    have q3:=nin (show ¬ op = 3 by omega)
    have q4:=nin (show ¬ op = 4 by omega)
    have CB:=hid (fun W=>isBranch_no (op:=op) (by omega) W)
    have CL:=hid (fun W=>isLoad_no (op:=op) (by omega) W)
    have CS:=hid (fun W=>isStore_no (op:=op) (by omega) W)
    have CW:=hid (fun W=>awidth_any op W)
    have hq:(0:Int) < (awid op:Int):=by rcases awid_iff op with h3 | h3 <;> omega
    have CX:=hid (haAtomic_any DV.out.stt HR.out DV.out.ms (gap_not HTB.out) HN.out (gap_new HT.out w.heap.size (Nat.le_of_lt (Nat.lt_of_succ_lt hsz))) ⟨op,rd,r1,r2,im,od,sz⟩ hd hr hr2)
    generalize (awid op:Int) = q at *
    unfold addr0 at CX
    go_wp2_with (first | (go_at_call 80;with_reducible refine (CB.out _).mono ?_;rintro e W1 ⟨rfl,rfl⟩) | (go_at_call 82;with_reducible refine (CL.out _).mono ?_;rintro e W1 ⟨rfl,rfl⟩) | (go_at_call 84;with_reducible refine (CS.out _).mono ?_;rintro e W1 ⟨rfl,rfl⟩) | (go_at_call 86;with_reducible refine (CW.out _).mono ?_;rintro e W1 ⟨rfl,rfl⟩))
    with_reducible refine CX.out.mono ?_
    rintro e W1 ⟨⟨y,ta,tn,k,fk,fa⟩,M',hs,rfl,hms,hst,f1⟩
    have HST:=hid hst;clear hst
    have HIS:=hid hs;clear hs
    by_cases hk:k = 0
    · subst hk
      rw [if_pos rfl]
      unfold stopV
      have R1:=hid (f1.at_ DV.out.res (fun e=>by rcases e with e | e;exact gap_no hsz (Nat.le_succ _) e;omega))
      have R2:=hid hms
      have R3:=hid ((DV.out.fr.mono fun x _ e=>Or.inr (a:=T x) e).trans (f1.mono fun x _ e=>by rcases e with e | e;exact .inl e.1;exact .inr e))
      clear d0 d1 d2 d3 d4 d5 d6 e0 e1 e2 z0
      obtain ⟨e0,e1,e2⟩:=three_at R1.out
      have z0:=free_at R1.out
      go_wp2_with fail
      (try simp only [Exit.inBlock,Exit.then])
      obtain ⟨s1,s2,s3,s4⟩:=do_fin (k:=0) (s':=⟨np,setX xs rd y,ta,tn⟩) (.int .i64 0) (.int .i64 0) (.int .u64 0) R1.out R2.out hsz R3.out (fun _=>HST.out trivial) hlt
      refine bodyPost_ret (results_cell_row rfl _ _ (w.heap.size + 1) 33 _ (0,0) _ rfl s1 Tryz.underlying33 rfl (by kernel_rfl)) rfl ?_
      exact ⟨0,0,0,⟨np,setX xs rd y,ta,tn⟩,M',(by obtain ⟨e1,e2⟩:=step_zero HIS.out rfl;simp only at e1 e2;have:=DoIs.atomOk (L:=L) (M:=M) (s:=⟨pc,xs,ha,hn⟩) (i:=⟨op,rd,r1,r2,im,od,sz⟩) _ _ hc HIS.out rfl;unfold St.nxt at this;simp only at this;rw [HN9.out,e1,e2] at this;exact this),rfl,s2,s3,s4⟩
    · rw [if_neg hk]
      unfold stopV
      have R1:=hid (f1.at_ DV.out.res (fun e=>by rcases e with e | e;exact gap_no hsz (Nat.le_succ _) e;omega))
      have R2:=hid hms
      have R3:=hid ((DV.out.fr.mono fun x _ e=>Or.inr (a:=T x) e).trans (f1.mono fun x _ e=>by rcases e with e | e;exact .inl e.1;exact .inr e))
      clear d0 d1 d2 d3 d4 d5 d6 e0 e1 e2 z0
      obtain ⟨e0,e1,e2⟩:=three_at R1.out
      have z0:=free_at R1.out
      go_wp2_with fail
      (try simp only [Exit.inBlock,Exit.then])
      obtain ⟨s1,s2,s3,s4⟩:=do_fin (k:=k) (s':=⟨pc,xs,0,0⟩) (.int .i64 k) (.int .i64 fk) (.int .u64 fa) R1.out R2.out hsz R3.out (fun e=>absurd e hk) hlt
      refine bodyPost_ret (results_cell_row rfl _ _ (w.heap.size + 1) 33 _ (0,0) _ rfl s1 Tryz.underlying33 rfl (by kernel_rfl)) rfl ?_
      exact ⟨k,fk,fa,⟨pc,xs,0,0⟩,M',(DoIs.atomBad (L:=L) (M:=M) (s:=⟨pc,xs,ha,hn⟩) (i:=⟨op,rd,r1,r2,im,od,sz⟩) _ _ hc HIS.out hk),rfl,s2,s3,s4⟩
theorem haDo_any (h:StAt w b s.pc s.xs s.ha s.hn) (hR:Regs s.xs) (hm:MS T w sb n L M st mo ba en) (hTb:¬ T b) (hn0:n < 80000000) (hT:∀ b,w.heap.size ≤ b → T b) (i:Td.Ins) (hd:0 ≤ i.rd∧i.rd < 32) (hr:0 ≤ i.r1∧i.r1 < 32) (hr2:0 ≤ i.r2∧i.r2 < 32) :
    Calls Tryz.prog 51 #[addr0 b,addr0 sb,.agg i.cells] w (DoHaPost T w b sb n s L M st mo ba en i):=by
  by_cases h1:i.op = 2 ∨ i.op = 3 ∨ i.op = 4
  · exact haDo_jumps h hR hm hTb hn0 hT i hd hr hr2 h1
  · by_cases h2:(11 ≤ i.op∧i.op ≤ 17) ∨ (18 ≤ i.op∧i.op ≤ 21) ∨ (63 ≤ i.op∧i.op ≤ 84)
    · exact haDo_space h hR hm hTb hn0 hT i hd hr hr2 h2
    · exact haDo_plain h hR hm hTb hn0 hT i hd hr hr2 (by omega)
end
end Go.Proofs.YtlhpodholnfppaaGreatDoor

namespace Go.Proofs.YtlhpodholnfppaaGreatDoor
open Go.RowKit
set_option maxRecDepth 100000
end Go.Proofs.YtlhpodholnfppaaGreatDoor

namespace Go.Proofs.YtlhpodholnfppaaGreatDoor
open Go.RowKit
set_option maxRecDepth 100000
section
variable {H:Type} (w:World) {ops:Array Oper} {rest:List Oper} {o:Oper} {a:Act} {Q:Exit → Act → World → Prop}
end
end Go.Proofs.YtlhpodholnfppaaGreatDoor

namespace Go.Proofs.YtlhpodholnfppaaGreatDoor
open Go.RowKit
set_option maxRecDepth 100000
end Go.Proofs.YtlhpodholnfppaaGreatDoor

namespace Go.Proofs.YtlhpodholnfppaaGreatDoor
open Go.RowKit
set_option maxRecDepth 100000
def Step (L L':List Rg) (M M' st st':Nat → Int):Prop:=∀ p,p < 2 ^ 64 → st p ≤ st' p∧(((∃ x:Nat,x / 4096 = p∧M' x ≠ M x) ∨ (∃ q,¬ (In L ((p:Int) * 4096) q ↔ In L' ((p:Int) * 4096) q))) → st p < st' p)
theorem Step.bytes {L:List Rg} {M M' st st':Nat → Int} (h:Rise st st' (fun p=>∃ x:Nat,x / 4096 = p∧M' x ≠ M x)):Step L L M M' st st':=fun p hp=>⟨(h p hp).1,fun e=>by
  rcases e with e | ⟨q,hq⟩
  · exact (h p hp).2 e
  · exact absurd Iff.rfl hq⟩
section
variable {T:Nat → Prop} {w w':World} {sb n:Nat} {L:List Rg} {M st:Nat → Int} {mo ba en:Int}
end
end Go.Proofs.YtlhpodholnfppaaGreatDoor

namespace Go.Proofs.YtlhpodholnfppaaGreatDoor
open Go.RowKit
set_option maxRecDepth 100000
def PutRel (L:List Rg) (M:Nat → Int) (a:Nat) (xs:List Int) (t:Nat) (M':Nat → Int):Prop:=
  ∀ x:Nat,((a ≤ x∧x < a + t∧∃ q,In L (x:Int) q) → M' x = xs.getD (x - a) 0)∧(¬ (a ≤ x∧x < a + t∧∃ q,In L (x:Int) q) → M' x = M x)
theorem PutRel.zero (L:List Rg) (M:Nat → Int) (a:Nat) (xs:List Int):PutRel L M a xs 0 M:=fun x=>⟨fun h=>by omega,fun _=>rfl⟩
theorem PutRel.one {L:List Rg} {M M1 M2:Nat → Int} {a t:Nat} {xs:List Int} (h:PutRel L M a xs t M1) (k:PutRel L M a xs t M2):M1 = M2:=by
  funext x
  by_cases hc:a ≤ x∧x < a + t∧∃ q,In L (x:Int) q
  · rw [(h x).1 hc,(k x).1 hc]
  · rw [(h x).2 hc,(k x).2 hc]
theorem put_rel {L:List Rg} {M st:Nat → Int} {a:Nat} {xs:List Int} (hl:Al L) (ha:a + xs.length ≤ 18446744073709551616) :
    PutStep L a xs (fun t M1 st1=>PutRel L M a xs t M1∧Rise st st1 (fun p=>∃ x:Nat,x / 4096 = p∧M1 x ≠ M x)):=by
  intro t M1 st1 c d hp ht hc hd
  obtain ⟨hp,hr⟩:=hp
  obtain rfl:c = a + t:=by omega
  have hpage:∀ x:Nat,a + t ≤ x → x < a + t + d → x / 4096 = (a + t) / 4096:=fun x h1 h2=>by omega
  have hin:∀ x:Nat,a + t ≤ x → x < a + t + d → ((∃ q,In L (x:Int) q) ↔ ∃ q,In L ((a + t:Nat):Int) q):=fun x h1 h2=>by
    have e:(x:Int) / 4096 = ((a + t:Nat):Int) / 4096:=by have:=hpage x h1 h2;omega
    constructor
    · rintro ⟨q,hq⟩
      exact ⟨q,by rw [in_page hl,← e,← in_page hl];exact hq⟩
    · rintro ⟨q,hq⟩
      exact ⟨q,by rw [in_page hl,e,← in_page hl];exact hq⟩
  have hlen:((xs.drop t).take d).length = d:=by rw [List.length_take,List.length_drop];omega
  refine ⟨fun hm st2 hr2=>⟨fun x=>?_,?_⟩,fun hm=>⟨fun x=>?_,hr⟩⟩
  · by_cases h1:a + t ≤ x∧x < a + t + d
    · have hx:=(hin x h1.1 h1.2).2 hm
      refine ⟨fun _=>?_,fun h=>absurd ⟨by omega,by omega,hx⟩ h⟩
      have e1:=lay_at M1 (a + t) ((xs.drop t).take d) (x - (a + t)) (by rw [hlen];omega)
      rw [show a + t + (x - (a + t)) = x by omega] at e1
      rw [e1,List.getD_eq_getElem?_getD,List.getElem?_take_of_lt (by omega),List.getElem?_drop,List.getD_eq_getElem?_getD,show t + (x - (a + t)) = x - a by omega]
    · rw [lay_out _ _ _ _ (by rw [hlen];omega)]
      refine ⟨fun h=>(hp x).1 ⟨h.1,by omega,h.2.2⟩,fun h=>(hp x).2 fun h'=>h ⟨h'.1,by omega,h'.2.2⟩⟩
  · refine (hr.trans hr2).mono fun p ⟨x,hx,hne⟩=>?_
    by_cases h1:lay M1 (a + t) ((xs.drop t).take d) x = M1 x
    · exact .inl ⟨x,hx,by rw [← h1];exact hne⟩
    · have h2:=lay_ne h1
      rw [hlen] at h2
      exact .inr ⟨x,h2.1,by omega,hx.symm⟩
  · refine ⟨fun h=>?_,fun h=>(hp x).2 fun h'=>h ⟨h'.1,by omega,h'.2.2⟩⟩
    rcases Nat.lt_or_ge x (a + t) with h1 | h1
    · exact (hp x).1 ⟨h.1,h1,h.2.2⟩
    · obtain ⟨q,hq⟩:=(hin x h1 (by omega)).1 h.2.2
      exact absurd hq (hm q)
theorem mput_rel {T:Nat → Prop} {w:World} {sb n0:Nat} {L:List Rg} {M st:Nat → Int} {mo ba en:Int} (h:MS T w sb n0 L M st mo ba en) (a:Nat) (A:Option Addr) (len cap:Nat) (xs:List Int) (hr:Rd w A xs) (hl:xs.length = len) (hlc:len ≤ cap) (hb:∀ k,0 ≤ xs.getD k 0∧xs.getD k 0 ≤ 255)
    (hA:0 < len → ∀ ad,A = some ad → ¬ T ad.block) (ha:a + len ≤ 18446744073709551615) (hlen:len ≤ 100000) (hn:n0 < 10000000) (hT:∀ b,w.heap.size ≤ b → T b) :
    Calls Tryz.prog 26 #[addr0 sb,.int .u64 (a:Int),.slice A len cap] w fun e w'=>e = .returned (.tuple #[])∧∃ M' st',MS T w' sb (n0 + 6 * len) L M' st' mo ba en∧PutRel L M a xs len M'∧Step L L M M' st st'∧Fr T w w':=by
  refine (mput_any h a A len cap xs hr hl hlc hb hA (by omega) hlen hn hT _ ⟨PutRel.zero L M a xs,(Rise.refl st).mono fun p ⟨x,_,hx⟩=>absurd rfl hx⟩ (put_rel h.rs.al (by omega))).mono ?_
  rintro e w' ⟨rfl,M',st',h1,⟨h2,h3⟩,h4⟩
  exact ⟨rfl,M',st',h1,h2,Step.bytes h3,h4⟩
def oneR (sb:Nat) (L:List Rg) (M st:Nat → Int):Sps:=fun b L' M' st'=>b = sb∧L' = L∧M' = M∧st' = st
theorem oneR_sole (sb:Nat) (L:List Rg) (M st:Nat → Int):Sole (oneR sb L M st) sb L M st:=⟨⟨rfl,rfl,rfl,rfl⟩,fun _ _ _ h=>h.2⟩
theorem oneR_blocks {T:Nat → Prop} {w:World} {sb n:Nat} {L:List Rg} {M st:Nat → Int} {mo ba en:Int} (h:MS T w sb n L M st mo ba en):Blocks (oneR sb L M st) w:=fun b L' M' st' hr=>by
  rw [hr.1];exact h.block_
end Go.Proofs.YtlhpodholnfppaaGreatDoor
