/-
  What a cache finds of what it keeps.
  What a cache keeps; the contract of a cache's Fetch, on, off and none.
-/
import Derived.Test.YtlhpodholnfppaaGreatDoorT23
import Derived.Test.YtlhpodholnfppaaGreatDoorT14
import Derived.LaidEql
import Derived.Lib.Hide
set_option linter.unusedVariables false
set_option linter.unusedSimpArgs false
set_option maxHeartbeats 16000000
open Go.Lib (hid)
namespace Go.Proofs.YtlhpodholnfppaaGreatDoor
open Go.RowKit
set_option maxRecDepth 100000
theorem ptr_eql {a b:Nat} {w:World} (ha:∃ cs t,w.heap[a]? = some (.cells cs t (0,0))) (hb:∃ cs t,w.heap[b]? = some (.cells cs t (0,0))) (n:Nat):(Op.equalIn (n + 1) 55 (.pointer (some ⟨a,0,none⟩)) (.pointer (some ⟨b,0,none⟩))).run Tryz.prog w = .ok (decide (a = b)) w:=by
  have hu:=run_underlying (P:=Tryz.prog) Tryz.underlying55 w
  obtain ⟨ca,ta,ha⟩:=ha
  obtain ⟨cb,tb,hb⟩:=hb
  by_cases h:a = b
  · subst h
    have hs:=run_sameAddr_same (P:=Tryz.prog) (w:=w) ⟨a,0,none⟩
    simp [Op.equalIn,hu,Result.andThen,hs]
  · have hs:=run_sameAddr_other (P:=Tryz.prog) (w:=w) (a:=⟨a,0,none⟩) (b:=⟨b,0,none⟩) (fun e=>h (by injection e)) ha hb
    simp [Op.equalIn,hu,Result.andThen,hs,h]
theorem MS.block_ {T:Nat → Prop} {w:World} {sb n:Nat} {L:List Rg} {M st:Nat → Int} {mo ba en:Int} (h:MS T w sb n L M st mo ba en):∃ cs t,w.heap[sb]? = some (.cells cs t (0,0)):=by
  obtain ⟨rg,f,k0,⟨pm,sm,c,l,h1⟩,h2,h3⟩:=h.ex
  exact ⟨_,_,h1.blk⟩
theorem ten_at {w:World} {b:Nat} {t:TypeId} {a0 a1 a2 a3 a4 a5 a6 a7 a8 a9:Value} (h:w.heap[b]? = some (.cells #[a0,a1,a2,a3,a4,a5,a6,a7,a8,a9] t (0,0))) :
    w.cell? ⟨b,0,none⟩ = some a0∧w.cell? ⟨b,1,none⟩ = some a1∧w.cell? ⟨b,2,none⟩ = some a2∧w.cell? ⟨b,3,none⟩ = some a3∧w.cell? ⟨b,4,none⟩ = some a4∧w.cell? ⟨b,5,none⟩ = some a5∧w.cell? ⟨b,6,none⟩ = some a6∧w.cell? ⟨b,7,none⟩ = some a7∧w.cell? ⟨b,8,none⟩ = some a8∧w.cell? ⟨b,9,none⟩ = some a9:=by
  refine ⟨?_,?_,?_,?_,?_,?_,?_,?_,?_,?_⟩ <;> simp [World.cell?,h]
theorem new_next (w:World) (o o':Obj):((w.alloc o).alloc o').heap[w.heap.size + 1]? = some o':=by
  have:=heap_alloc_new (w.alloc o) o'
  rw [show (w.alloc o).heap.size = w.heap.size + 1 by simp] at this
  exact this
theorem Fr.newCellC {S:Nat → Prop} {w0 w:World} (f:Fr S w0 w) {p:Addr} (hp:w0.heap.size ≤ p.block) (u:Value):Fr S w0 (w.setCell p u):=
  ⟨f.os,f.tape,f.output,by simpa [World.setCell] using f.size,fun k hk hn=>by rw [Below.heap_setCell _ _ _ _ (by omega)];exact f.block k hk hn⟩
theorem CA.cellC {w:World} {cb B k:Nat} {g:Nat → Option Ent} (h:CA w cb B g k) {p:Addr} (h1:cb ≠ p.block) (h2:B ≠ p.block) (u:Value):CA (w.setCell p u) cb B g k:=
  ⟨by rw [Below.heap_setCell _ _ _ _ h1];exact h.blk,h.map.of_block (Below.heap_setCell _ _ _ _ h2)⟩
section
variable {w0 w:World} {b cb B k:Nat} {g:Nat → Option Ent} {S:Nat → Prop}
theorem Fr.bl7 (f:Fr S w0 w) (hg:w0.heap.size ≤ b) (x0 x1 x2 x3 x4 x5 x6:Value):Fr S w0 (((((((w.setCell ⟨b,0,none⟩ x0).setCell ⟨b,1,none⟩ x1).setCell ⟨b,2,none⟩ x2).setCell ⟨b,3,none⟩ x3).setCell ⟨b,4,none⟩ x4).setCell ⟨b,5,none⟩ x5).setCell ⟨b,6,none⟩ x6):=
  ((((((f.newCellC (p:=⟨b,0,none⟩) hg x0).newCellC (p:=⟨b,1,none⟩) hg x1).newCellC (p:=⟨b,2,none⟩) hg x2).newCellC (p:=⟨b,3,none⟩) hg x3).newCellC (p:=⟨b,4,none⟩) hg x4).newCellC (p:=⟨b,5,none⟩) hg x5).newCellC (p:=⟨b,6,none⟩) hg x6
theorem Fr.bl3 (f:Fr S w0 w) (hg:w0.heap.size ≤ b) (p q r:Value):Fr S w0 (((w.setCell ⟨b,0,none⟩ p).setCell ⟨b,1,none⟩ q).setCell ⟨b,2,none⟩ r):=
  ((f.newCellC (p:=⟨b,0,none⟩) hg p).newCellC (p:=⟨b,1,none⟩) hg q).newCellC (p:=⟨b,2,none⟩) hg r
theorem CA.bl7 (h:CA w cb B g k) (h1:cb ≠ b) (h2:B ≠ b) (x0 x1 x2 x3 x4 x5 x6:Value):CA (((((((w.setCell ⟨b,0,none⟩ x0).setCell ⟨b,1,none⟩ x1).setCell ⟨b,2,none⟩ x2).setCell ⟨b,3,none⟩ x3).setCell ⟨b,4,none⟩ x4).setCell ⟨b,5,none⟩ x5).setCell ⟨b,6,none⟩ x6) cb B g k:=
  ((((((h.cellC (p:=⟨b,0,none⟩) h1 h2 x0).cellC (p:=⟨b,1,none⟩) h1 h2 x1).cellC (p:=⟨b,2,none⟩) h1 h2 x2).cellC (p:=⟨b,3,none⟩) h1 h2 x3).cellC (p:=⟨b,4,none⟩) h1 h2 x4).cellC (p:=⟨b,5,none⟩) h1 h2 x5).cellC (p:=⟨b,6,none⟩) h1 h2 x6
theorem CA.bl3 (h:CA w cb B g k) (h1:cb ≠ b) (h2:B ≠ b) (p q r:Value):CA (((w.setCell ⟨b,0,none⟩ p).setCell ⟨b,1,none⟩ q).setCell ⟨b,2,none⟩ r) cb B g k:=
  ((h.cellC (p:=⟨b,0,none⟩) h1 h2 p).cellC (p:=⟨b,1,none⟩) h1 h2 q).cellC (p:=⟨b,2,none⟩) h1 h2 r
end
section
variable {T:Nat → Prop} {w:World} {sb n:Nat} {L:List Rg} {M st:Nat → Int} {mo ba en:Int} {cb B k:Nat} {g:Nat → Option Ent}
def NoFind (w:World) (e:Ending) (w':World):Prop:=e = .returned (.tuple #[.agg (Td.I7 0 0 0 0 0 0 0),.bool false])∧Bl w w'
theorem find_off (h:COff w cb) (sb pc:Nat) (hpc:pc < 2 ^ 64):Calls Tryz.prog 74 #[addr0 cb,addr0 sb,.int .u64 (pc:Int)] w (NoFind w):=by
  have K0:=hid (Bl.new w (.cells (Td.I7 0 0 0 0 0 0 0) 38))
  have hlook:(Instr.lookup 116 (.map none) (.int .u64 (pc:Int)) true).run Tryz.prog (w.alloc (.cells (Td.I7 0 0 0 0 0 0 0) 38)) = .ok (.tuple #[zeroEnt,.bool false]) (w.alloc (.cells (Td.I7 0 0 0 0 0 0 0) 38)):=Maps.look_nil true law27 Tryz.underlying116 (zeroDec _) (key_of hpc)
  have c0:=(h.bl K0.out).cell
  have A0:=hid (heap_alloc_new w (.cells (Td.I7 0 0 0 0 0 0 0) 38))
  clear h
  unfold zeroEnt at hlook
  unfold addr0
  go_enter Tryz.func74,Tryz.ntmps74
  go_upto_region 4 with (fail)
  have A1:=hid ((Bl.new _ (.cells #[.int .i64 0,.int .i64 0,.int .i64 0,.int .i64 0,.int .i64 0,.int .i64 0,.int .i64 0,.pointer none,.int .u64 0,.int .u64 0] 177)).at_ A0.out)
  have K1:=hid (K0.out.alloc (.cells #[.int .i64 0,.int .i64 0,.int .i64 0,.int .i64 0,.int .i64 0,.int .i64 0,.int .i64 0,.pointer none,.int .u64 0,.int .u64 0] 177))
  clear hlook c0
  generalize (w.alloc (.cells (Td.I7 0 0 0 0 0 0 0) 38)).alloc (.cells #[.int .i64 0,.int .i64 0,.int .i64 0,.int .i64 0,.int .i64 0,.int .i64 0,.int .i64 0,.pointer none,.int .u64 0,.int .u64 0] 177) = W at *
  obtain ⟨e0,e1,e2,e3,e4,e5,e6⟩:=seven_at A1.out
  have z0:=free_at A1.out
  go_wp2
  (try simp only [Exit.inBlock,Exit.then])
  refine bodyPost_ret (results_row_tmp rfl _ _ w.heap.size 38 _ (0,0) _ rfl (set7 _ _ _ _ _ _ _ A1.out) Tryz.underlying38 rfl (by kernel_rfl)) rfl ?_
  exact ⟨rfl,bl7 K1.out (Nat.le_refl _) _ _ _ _ _ _ _⟩
theorem find_none (h:CA w cb B g k) (sb pc:Nat) (hpc:pc < 2 ^ 64) (hg:g pc = none):Calls Tryz.prog 74 #[addr0 cb,addr0 sb,.int .u64 (pc:Int)] w (NoFind w):=by
  have hpcI:(pc:Int) ≤ 18446744073709551615:=by omega
  have K0:=hid (Bl.new w (.cells (Td.I7 0 0 0 0 0 0 0) 38))
  have hlook:=(h.bl K0.out).map.look (p:=pc) (by omega)
  rw [hg] at hlook
  have c0:=(h.bl K0.out).cell
  have A0:=hid (heap_alloc_new w (.cells (Td.I7 0 0 0 0 0 0 0) 38))
  clear h hg
  simp only [entV,Option.isSome_none] at hlook
  unfold zeroEnt at hlook
  unfold addr0
  go_enter Tryz.func74,Tryz.ntmps74
  go_upto_region 4 with (fail)
  have A1:=hid ((Bl.new _ (.cells #[.int .i64 0,.int .i64 0,.int .i64 0,.int .i64 0,.int .i64 0,.int .i64 0,.int .i64 0,.pointer none,.int .u64 0,.int .u64 0] 177)).at_ A0.out)
  have K1:=hid (K0.out.alloc (.cells #[.int .i64 0,.int .i64 0,.int .i64 0,.int .i64 0,.int .i64 0,.int .i64 0,.int .i64 0,.pointer none,.int .u64 0,.int .u64 0] 177))
  clear hlook c0
  generalize (w.alloc (.cells (Td.I7 0 0 0 0 0 0 0) 38)).alloc (.cells #[.int .i64 0,.int .i64 0,.int .i64 0,.int .i64 0,.int .i64 0,.int .i64 0,.int .i64 0,.pointer none,.int .u64 0,.int .u64 0] 177) = W at *
  obtain ⟨e0,e1,e2,e3,e4,e5,e6⟩:=seven_at A1.out
  have z0:=free_at A1.out
  go_wp2
  (try simp only [Exit.inBlock,Exit.then])
  refine bodyPost_ret (results_row_tmp rfl _ _ w.heap.size 38 _ (0,0) _ rfl (set7 _ _ _ _ _ _ _ A1.out) Tryz.underlying38 rfl (by kernel_rfl)) rfl ?_
  exact ⟨rfl,bl7 K1.out (Nat.le_refl _) _ _ _ _ _ _ _⟩
def FindPost (cb B k:Nat) (g:Nat → Option Ent) (pc sb:Nat) (st:Nat → Int) (e:Ent) (w:World) (x:Ending) (w':World):Prop:=
      ((e.sb = sb∧e.f = st (pc / 4096)∧e.l = st ((pc + e.i.sz.toNat - 1) / 4096))∧x = .returned (.tuple #[.agg e.i.cells,.bool true])∧Bl w w') ∨
      (¬ (e.sb = sb∧e.f = st (pc / 4096)∧e.l = st ((pc + e.i.sz.toNat - 1) / 4096))∧x = .returned (.tuple #[.agg (Td.I7 0 0 0 0 0 0 0),.bool false])∧(∃ k',CA w' cb B (putE g pc none) k'∧k' ≤ k)∧Fr (only B) w w')
theorem find_some (h:CA w cb B g k) (hm:MS T w sb n L M st mo ba en) (pc:Nat) (hpc:pc < 274877906944) (e:Ent) (hg:g pc = some e) (hs:e.i.sz = 2 ∨ e.i.sz = 4) (hsb:∃ cs t,w.heap[e.sb]? = some (.cells cs t (0,0))) :
    Calls Tryz.prog 74 #[addr0 cb,addr0 sb,.int .u64 (pc:Int)] w (FindPost cb B k g pc sb st e w):=by
  have hpcI:(pc:Int) ≤ 18446744073709551615:=by omega
  have K0:=hid (Bl.new w (.cells (Td.I7 0 0 0 0 0 0 0) 38))
  have hlook:=(h.bl K0.out).map.look (p:=pc) (by omega)
  rw [hg] at hlook
  have c0:=(h.bl K0.out).cell
  have A0:=hid (heap_alloc_new w (.cells (Td.I7 0 0 0 0 0 0 0) 38))
  obtain ⟨⟨a0,a1,a2,a3,a4,a5,a6⟩,b,f,l⟩:=e
  simp only [entV,Option.isSome_some,Ent.v] at hlook
  simp only at hs hsb
  clear hg
  have HSB:=hid hsb;clear hsb
  have HMB:=hid hm.block_
  have hne:=h.ne
  have hltB:=h.map.lt
  have hltC:=lt_at h.blk
  have cs:=fun W (kk:Bl w W)=>source_any (hm.bl kk) pc a6 hpc hs
  obtain ⟨v1,hv1⟩:∃ v1,v1 = st (pc / 4096):=⟨_,rfl⟩
  obtain ⟨v2,hv2⟩:∃ v2,v2 = st ((pc + a6.toNat - 1) / 4096):=⟨_,rfl⟩
  simp only [← hv1,← hv2] at cs
  have HV1:=hid hv1;clear hv1
  have HV2:=hid hv2;clear hv2
  have CS0:=hid cs;clear cs hm hs
  have H:=hid h;clear h
  unfold addr0 at *
  go_enter Tryz.func74,Tryz.ntmps74
  go_upto_region 4 with (fail)
  have A1:=hid ((Bl.new _ (.cells #[.int .i64 a0,.int .i64 a1,.int .i64 a2,.int .i64 a3,.int .i64 a4,.int .i64 a5,.int .i64 a6,.pointer (some ⟨b,0,none⟩),.int .u64 f,.int .u64 l] 177)).at_ A0.out)
  have K1:=hid (K0.out.alloc (.cells #[.int .i64 a0,.int .i64 a1,.int .i64 a2,.int .i64 a3,.int .i64 a4,.int .i64 a5,.int .i64 a6,.pointer (some ⟨b,0,none⟩),.int .u64 f,.int .u64 l] 177))
  have A2:=hid (new_next w (.cells (Td.I7 0 0 0 0 0 0 0) 38) (.cells #[.int .i64 a0,.int .i64 a1,.int .i64 a2,.int .i64 a3,.int .i64 a4,.int .i64 a5,.int .i64 a6,.pointer (some ⟨b,0,none⟩),.int .u64 f,.int .u64 l] 177))
  have CS:=hid (fun W kk=>CS0.out W (K1.out.trans kk))
  clear hlook c0
  generalize (w.alloc (.cells (Td.I7 0 0 0 0 0 0 0) 38)).alloc (.cells #[.int .i64 a0,.int .i64 a1,.int .i64 a2,.int .i64 a3,.int .i64 a4,.int .i64 a5,.int .i64 a6,.pointer (some ⟨b,0,none⟩),.int .u64 f,.int .u64 l] 177) = W at *
  obtain ⟨d0,d1,d2,d3,d4,d5,d6,d7,d8,d9⟩:=ten_at A2.out
  go_upto_region 6 with (fail)
  refine wp_region_hd 8 (fun w'=>w'.cell? ⟨w.heap.size + 1,6,none⟩ = some (.int .i64 a6)∧w'.cell? ⟨w.heap.size + 1,7,none⟩ = some (.pointer (some ⟨b,0,none⟩))∧w'.cell? ⟨w.heap.size + 1,8,none⟩ = some (.int .u64 f)∧w'.cell? ⟨w.heap.size + 1,9,none⟩ = some (.int .u64 l)∧Bl W w') (by kernel_rfl) (by decide) (⟨d6,d7,d8,d9,(Bl.refl _).drew⟩) (fun hHeld=>?_)
  refine wpHd_take (i:=0) (v:=?_) rfl (by kernel_rfl) (fun _ _ _ h=>h) (Or.inl ⟨by rfl,?hy⟩) hHeld ?_
  case hy=>(intro w hSw;(try dsimp only at hSw);go_split_ands;go_simp;try (with_reducible rfl))
  (try simp only [Act.put,List.getElem_toArray,List.getElem_cons_zero,List.getElem_cons_succ,List.setIfInBounds_toArray,List.set_cons_zero,List.set_cons_succ])
  refine wpHd_take (i:=1) (v:=?_) rfl (by kernel_rfl) (fun _ _ _ h=>h) (Or.inl ⟨by rfl,?hy⟩) hHeld ?_
  case hy=>(intro w hSw;(try dsimp only at hSw);go_split_ands;go_simp;try (with_reducible rfl))
  (try simp only [Act.put,List.getElem_toArray,List.getElem_cons_zero,List.getElem_cons_succ,List.setIfInBounds_toArray,List.set_cons_zero,List.set_cons_succ])
  refine wpHd_take (i:=2) (v:=?_) rfl (by kernel_rfl) (fun _ _ _ h=>h) (Or.inl ⟨by rfl,?hy⟩) hHeld ?_
  case hy=>(intro w hSw;(try dsimp only at hSw);go_split_ands;go_simp;try (with_reducible rfl))
  (try simp only [Act.put,List.getElem_toArray,List.getElem_cons_zero,List.getElem_cons_succ,List.setIfInBounds_toArray,List.set_cons_zero,List.set_cons_succ])
  refine wpHd_take (i:=3) (v:=?_) rfl (by kernel_rfl) (fun _ _ _ h=>h) (Or.inl ⟨by rfl,?hy⟩) hHeld ?_
  case hy=>(intro w hSw;(try dsimp only at hSw);go_split_ands;go_simp;try (with_reducible rfl))
  (try simp only [Act.put,List.getElem_toArray,List.getElem_cons_zero,List.getElem_cons_succ,List.setIfInBounds_toArray,List.set_cons_zero,List.set_cons_succ])
  refine wpHd_take (i:=4) (v:=?_) rfl (by kernel_rfl) (fun _ _ _ h=>h) (Or.inl ⟨by rfl,?hy⟩) hHeld ?_
  case hy=>(intro w hSw;(try dsimp only at hSw);go_split_ands;go_simp;try (with_reducible rfl))
  (try simp only [Act.put,List.getElem_toArray,List.getElem_cons_zero,List.getElem_cons_succ,List.setIfInBounds_toArray,List.set_cons_zero,List.set_cons_succ])
  refine wpHd_take (i:=5) (v:=?_) rfl (by kernel_rfl) (fun _ _ _ h=>h) (Or.inl ⟨by rfl,?hy⟩) hHeld ?_
  case hy=>(intro w hSw;(try dsimp only at hSw);go_split_ands;go_simp;try (with_reducible rfl))
  (try simp only [Act.put,List.getElem_toArray,List.getElem_cons_zero,List.getElem_cons_succ,List.setIfInBounds_toArray,List.set_cons_zero,List.set_cons_succ])
  refine wpHd_take (i:=6) (v:=?_) rfl (by kernel_rfl) (fun _ _ _ h=>h) (Or.inl ⟨by rfl,?hy⟩) hHeld ?_
  case hy=>(intro w hSw;(try dsimp only at hSw);go_split_ands;go_simp;try (with_reducible rfl))
  (try simp only [Act.put,List.getElem_toArray,List.getElem_cons_zero,List.getElem_cons_succ,List.setIfInBounds_toArray,List.set_cons_zero,List.set_cons_succ])
  refine wpHd_one (i:=7) rfl (by kernel_rfl) (fun K hK=>?_)
  go_simp
  refine (CS.out _ hHeld.2.2.2.2).mono ?_
  rintro e w9 ⟨rfl,k9⟩
  refine hK.out _ _ ?_ (fun hHeld=>?_)
  · exact ⟨k9.cell' hHeld.1,k9.cell' hHeld.2.1,k9.cell' hHeld.2.2.1,k9.cell' hHeld.2.2.2.1,hHeld.2.2.2.2.trans k9⟩
  clear hK K
  (try simp only [Act.put,List.getElem_toArray,List.getElem_cons_zero,List.getElem_cons_succ,List.setIfInBounds_toArray,List.set_cons_zero,List.set_cons_succ])
  refine ⟨by kernel_rfl,?_⟩
  simp only [List.drop_succ_cons,List.drop_zero]
  have hw:=hid (hHeld.2.2.2.2)
  have K9':=K1.out.trans hw.out
  obtain ⟨cs1,t1,hb1⟩:=HSB.out
  obtain ⟨cs2,t2,hb2⟩:=HMB.out
  have hq:=ptr_eql ⟨cs1,t1,K9'.at_ hb1⟩ ⟨cs2,t2,K9'.at_ hb2⟩ 9998
  simp only [Nat.reduceAdd] at hq
  clear hb1 hb2 K9'
  clear d0 d1 d2 d3 d4 d5 d6 d7 d8 d9 CS CS0 hHeld
  have E1:=hid (hw.out.at_ A1.out)
  have E2:=hid (hw.out.at_ A2.out)
  have K9:=hid (K1.out.trans hw.out)
  by_cases hc:b = sb∧f = v1∧l = v2
  · obtain ⟨rfl,rfl,rfl⟩:=hc
    rw [decide_eq_true rfl] at hq
    obtain ⟨d0,d1,d2,d3,d4,d5,d6,_⟩:=ten_at E2.out
    obtain ⟨e0,e1,e2,e3,e4,e5,e6⟩:=seven_at E1.out
    have z0:=free_at E1.out
    go_wp2_with fail
    (try simp only [Exit.inBlock,Exit.then])
    refine bodyPost_ret (results_row_tmp rfl _ _ w.heap.size 38 _ (0,0) _ rfl (set7 _ _ _ _ _ _ _ E1.out) Tryz.underlying38 rfl (by kernel_rfl)) rfl ?_
    exact Or.inl ⟨⟨rfl,HV1.out,HV2.out⟩,rfl,bl7 K9.out (Nat.le_refl _) _ _ _ _ _ _ _⟩
  · have HCC:=hid hc
    have c0:=(H.out.bl K9.out).cell
    obtain ⟨w10,hdel,⟨k',hm',hk'⟩,ht⟩:=(H.out.bl K9.out).map.del (p:=pc) (by omega) 0
    have HC:=hid ((H.out.bl K9.out).turned hm' ht)
    have hfr:=Fr.turned ht
    have E3:=hid (hfr.at_ E1.out (fun e=>by have e':w.heap.size = B:=e;omega))
    have HF:=hid ((Fr.of_bl (S:=only B) K9.out).trans hfr)
    obtain ⟨e0,e1,e2,e3,e4,e5,e6⟩:=seven_at E3.out
    have z0:=free_at E3.out
    have HK:=hid hk'
    clear hfr ht hm' hk'
    have hc3:(¬ b = sb) ∨ (b = sb∧¬ f = v1) ∨ (b = sb∧f = v1∧¬ l = v2):=by
      by_cases h1:b = sb
      · by_cases h2:f = v1
        · exact .inr (.inr ⟨h1,h2,fun h3=>hc ⟨h1,h2,h3⟩⟩)
        · exact .inr (.inl ⟨h1,h2⟩)
      · exact .inl h1
    clear hc
    rcases hc3 with h1 | ⟨h1,h2⟩ | ⟨h1,h2,h3⟩
    · rw [decide_eq_false h1] at hq
      clear h1
      go_wp2_with fail
      (try simp only [Exit.inBlock,Exit.then])
      refine bodyPost_ret (results_row_tmp rfl _ _ w.heap.size 38 _ (0,0) _ rfl (set7 _ _ _ _ _ _ _ E3.out) Tryz.underlying38 rfl (by kernel_rfl)) rfl ?_
      exact Or.inr ⟨by rw [← HV1.out,← HV2.out];exact HCC.out,rfl,⟨k',HC.out.bl7 (by omega) (by omega) _ _ _ _ _ _ _,HK.out⟩,HF.out.bl7 (Nat.le_refl _) _ _ _ _ _ _ _⟩
    · rw [decide_eq_true h1] at hq
      clear h1
      go_wp2_with fail
      (try simp only [Exit.inBlock,Exit.then])
      refine bodyPost_ret (results_row_tmp rfl _ _ w.heap.size 38 _ (0,0) _ rfl (set7 _ _ _ _ _ _ _ E3.out) Tryz.underlying38 rfl (by kernel_rfl)) rfl ?_
      exact Or.inr ⟨by rw [← HV1.out,← HV2.out];exact HCC.out,rfl,⟨k',HC.out.bl7 (by omega) (by omega) _ _ _ _ _ _ _,HK.out⟩,HF.out.bl7 (Nat.le_refl _) _ _ _ _ _ _ _⟩
    · rw [decide_eq_true h1] at hq
      clear h1
      go_wp2_with fail
      (try simp only [Exit.inBlock,Exit.then])
      refine bodyPost_ret (results_row_tmp rfl _ _ w.heap.size 38 _ (0,0) _ rfl (set7 _ _ _ _ _ _ _ E3.out) Tryz.underlying38 rfl (by kernel_rfl)) rfl ?_
      exact Or.inr ⟨by rw [← HV1.out,← HV2.out];exact HCC.out,rfl,⟨k',HC.out.bl7 (by omega) (by omega) _ _ _ _ _ _ _,HK.out⟩,HF.out.bl7 (Nat.le_refl _) _ _ _ _ _ _ _⟩
end
end Go.Proofs.YtlhpodholnfppaaGreatDoor

namespace Go.Proofs.YtlhpodholnfppaaGreatDoor
open Go.RowKit
set_option maxRecDepth 100000
theorem eqC (w:World) (p:Option Nat):(binOp .eql 116 (.map p) (.map none)).run Tryz.prog w = .ok (.bool p.isNone) w:=run_eql_map_nil_sl (P:=Tryz.prog) w 116 _ _ p Tryz.underlying116
section
variable {T:Nat → Prop} {w:World} {sb n:Nat} {L:List Rg} {M st:Nat → Int} {mo ba en:Int} {cb B k:Nat} {g:Nat → Option Ent}
theorem keep_off (h:COff w cb) (sb pc:Nat) (i:Td.Ins):Calls Tryz.prog 76 #[addr0 cb,addr0 sb,.int .u64 (pc:Int),.agg i.cells] w fun e w'=>e = .returned (.tuple #[])∧Bl w w':=by
  obtain ⟨a0,a1,a2,a3,a4,a5,a6⟩:=i
  have c0:=(h.bl (Bl.new w (.cells (Td.I7 a0 a1 a2 a3 a4 a5 a6) 38))).cell
  have hq:=fun W=>eqC W none
  clear h
  unfold Td.Ins.cells addr0
  go_enter Tryz.func76,Tryz.ntmps76
  go_wp2
  first | go_end0 | ((try simp only [Exit.inBlock,Exit.then]);refine bodyPost_ret (results_none rfl _ _ _) rfl ?_)
  exact ⟨rfl,Bl.new _ _⟩
def KeepPost (cb B:Nat) (g:Nat → Option Ent) (pc:Nat) (E:Ent) (w:World) (e:Ending) (w':World):Prop:=
  e = .returned (.tuple #[])∧(∃ g' k',CA w' cb B g' k'∧k' ≤ 4096∧(g' = putE g pc (some E) ∨ g' = putE noEnt pc (some E)))∧Fr (only B) w w'
theorem keep_on (h:CA w cb B g k) (hk:k ≤ 4096) (hm:MS T w sb n L M st mo ba en) (hTB:¬ T B) (pc:Nat) (hpc:pc < 274877906944) (i:Td.Ins) (hs:i.sz = 2 ∨ i.sz = 4) :
    Calls Tryz.prog 76 #[addr0 cb,addr0 sb,.int .u64 (pc:Int),.agg i.cells] w (KeepPost cb B g pc ⟨i,sb,st (pc / 4096),st ((pc + i.sz.toNat - 1) / 4096)⟩ w):=by
  obtain ⟨a0,a1,a2,a3,a4,a5,a6⟩:=i
  simp only at hs
  obtain ⟨v1,hv1⟩:∃ v1,v1 = st (pc / 4096):=⟨_,rfl⟩
  obtain ⟨v2,hv2⟩:∃ v2,v2 = st ((pc + a6.toNat - 1) / 4096):=⟨_,rfl⟩
  have cs:=fun W W' (hW:MS T W sb n L M st mo ba en) (kk:Bl W W')=>source_any (hW.bl kk) pc a6 hpc hs
  simp only [← hv1,← hv2] at cs
  simp only [← hv1,← hv2]
  clear hv1 hv2 hs
  have CS0:=hid cs;clear cs
  have hpcI:(pc:Int) ≤ 18446744073709551615:=by omega
  have hpcN:pc < 2 ^ 64:=by omega
  have hltB:=h.map.lt
  have hltC:=lt_at h.blk
  have hne:=h.ne
  have K0:=hid (Bl.new w (.cells (Td.I7 a0 a1 a2 a3 a4 a5 a6) 38))
  have A0:=hid (heap_alloc_new w (.cells (Td.I7 a0 a1 a2 a3 a4 a5 a6) 38))
  have H1:=hid (h.bl K0.out)
  have c0:=H1.out.cell
  have hq:=fun W=>eqC W (some B)
  have hln:=H1.out.map.len 3
  have HM1:=hid (hm.bl K0.out)
  have HT:=hid hTB;clear hTB
  clear h hm
  unfold Td.Ins.cells
  unfold addr0 at *
  go_enter Tryz.func76,Tryz.ntmps76
  go_upto_region 1 with (fail)
  have hkI:(k:Int) ≤ 4096:=by omega
  by_cases hfull:4096 ≤ k
  · have hfI:(4096:Int) ≤ (k:Int):=by omega
    have ccl:=cclear_on H1.out
    have CCL:=hid ccl;clear ccl
    unfold addr0 at CCL
    generalize w.alloc (.cells (Td.I7 a0 a1 a2 a3 a4 a5 a6) 38) = W0 at *
    go_wp2_with fail
    with_reducible refine CCL.out.mono ?_
    rintro e W ⟨rfl,hc,hf⟩
    have H2:=hid hc
    have HM2:=hid (HM1.out.kept hf (fun b hb e=>HT.out (by rw [← show b = B from e];exact hb)))
    have F2:=hid ((Fr.of_bl (S:=only B) K0.out).trans hf)
    have A2:=hid (hf.at_ A0.out (fun e=>by have e':w.heap.size = B:=e;omega))
    clear CCL hc hf c0 hln
    have c0:=H2.out.cell
    obtain ⟨d0,d1,d2,d3,d4,d5,d6⟩:=seven_at A2.out
    have CS:=hid (fun W' kk=>CS0.out W W' HM2.out kk)
    go_upto_region 4 with (fail)
    refine wp_region_hd 12 (fun w'=>w'.cell? ⟨cb,0,none⟩ = some (.map (some B))∧w'.cell? ⟨w.heap.size,0,none⟩ = some (.int .i64 a0)∧w'.cell? ⟨w.heap.size,1,none⟩ = some (.int .i64 a1)∧w'.cell? ⟨w.heap.size,2,none⟩ = some (.int .i64 a2)∧w'.cell? ⟨w.heap.size,3,none⟩ = some (.int .i64 a3)∧w'.cell? ⟨w.heap.size,4,none⟩ = some (.int .i64 a4)∧w'.cell? ⟨w.heap.size,5,none⟩ = some (.int .i64 a5)∧w'.cell? ⟨w.heap.size,6,none⟩ = some (.int .i64 a6)∧Bl W w') (by kernel_rfl) (by decide) (⟨c0,d0,d1,d2,d3,d4,d5,d6,(Bl.refl _).drew⟩) (fun hHeld=>?_)
    refine wpHd_take (i:=0) (v:=?_) rfl (by kernel_rfl) (fun _ _ _ h=>h) (Or.inl ⟨by rfl,?hy⟩) hHeld ?_
    case hy=>(intro w hSw;(try dsimp only at hSw);go_split_ands;go_simp;try (with_reducible rfl))
    (try simp only [Act.put,List.getElem_toArray,List.getElem_cons_zero,List.getElem_cons_succ,List.setIfInBounds_toArray,List.set_cons_zero,List.set_cons_succ])
    refine wpHd_take (i:=1) (v:=?_) rfl (by kernel_rfl) (fun _ _ _ h=>h) (Or.inl ⟨by rfl,?hy⟩) hHeld ?_
    case hy=>(intro w hSw;(try dsimp only at hSw);go_split_ands;go_simp;try (with_reducible rfl))
    (try simp only [Act.put,List.getElem_toArray,List.getElem_cons_zero,List.getElem_cons_succ,List.setIfInBounds_toArray,List.set_cons_zero,List.set_cons_succ])
    refine wpHd_take (i:=2) (v:=?_) rfl (by kernel_rfl) (fun _ _ _ h=>h) (Or.inl ⟨by rfl,?hy⟩) hHeld ?_
    case hy=>(intro w hSw;(try dsimp only at hSw);go_split_ands;go_simp;try (with_reducible rfl))
    (try simp only [Act.put,List.getElem_toArray,List.getElem_cons_zero,List.getElem_cons_succ,List.setIfInBounds_toArray,List.set_cons_zero,List.set_cons_succ])
    refine wpHd_take (i:=3) (v:=?_) rfl (by kernel_rfl) (fun _ _ _ h=>h) (Or.inl ⟨by rfl,?hy⟩) hHeld ?_
    case hy=>(intro w hSw;(try dsimp only at hSw);go_split_ands;go_simp;try (with_reducible rfl))
    (try simp only [Act.put,List.getElem_toArray,List.getElem_cons_zero,List.getElem_cons_succ,List.setIfInBounds_toArray,List.set_cons_zero,List.set_cons_succ])
    refine wpHd_take (i:=4) (v:=?_) rfl (by kernel_rfl) (fun _ _ _ h=>h) (Or.inl ⟨by rfl,?hy⟩) hHeld ?_
    case hy=>(intro w hSw;(try dsimp only at hSw);go_split_ands;go_simp;try (with_reducible rfl))
    (try simp only [Act.put,List.getElem_toArray,List.getElem_cons_zero,List.getElem_cons_succ,List.setIfInBounds_toArray,List.set_cons_zero,List.set_cons_succ])
    refine wpHd_take (i:=5) (v:=?_) rfl (by kernel_rfl) (fun _ _ _ h=>h) (Or.inl ⟨by rfl,?hy⟩) hHeld ?_
    case hy=>(intro w hSw;(try dsimp only at hSw);go_split_ands;go_simp;try (with_reducible rfl))
    (try simp only [Act.put,List.getElem_toArray,List.getElem_cons_zero,List.getElem_cons_succ,List.setIfInBounds_toArray,List.set_cons_zero,List.set_cons_succ])
    refine wpHd_take (i:=6) (v:=?_) rfl (by kernel_rfl) (fun _ _ _ h=>h) (Or.inl ⟨by rfl,?hy⟩) hHeld ?_
    case hy=>(intro w hSw;(try dsimp only at hSw);go_split_ands;go_simp;try (with_reducible rfl))
    (try simp only [Act.put,List.getElem_toArray,List.getElem_cons_zero,List.getElem_cons_succ,List.setIfInBounds_toArray,List.set_cons_zero,List.set_cons_succ])
    refine wpHd_take (i:=7) (v:=?_) rfl (by kernel_rfl) (fun _ _ _ h=>h) (Or.inl ⟨by rfl,?hy⟩) hHeld ?_
    case hy=>(intro w hSw;(try dsimp only at hSw);go_split_ands;go_simp;try (with_reducible rfl))
    (try simp only [Act.put,List.getElem_toArray,List.getElem_cons_zero,List.getElem_cons_succ,List.setIfInBounds_toArray,List.set_cons_zero,List.set_cons_succ])
    refine wpHd_take (i:=8) (v:=?_) rfl (by kernel_rfl) (fun _ _ _ h=>h) (Or.inl ⟨by rfl,?hy⟩) hHeld ?_
    case hy=>(intro w hSw;(try dsimp only at hSw);go_split_ands;go_simp;try (with_reducible rfl))
    (try simp only [Act.put,List.getElem_toArray,List.getElem_cons_zero,List.getElem_cons_succ,List.setIfInBounds_toArray,List.set_cons_zero,List.set_cons_succ])
    refine wpHd_take (i:=9) (v:=?_) rfl (by kernel_rfl) (fun _ _ _ h=>h) (Or.inl ⟨by rfl,?hy⟩) hHeld ?_
    case hy=>(intro w hSw;(try dsimp only at hSw);go_split_ands;go_simp;try (with_reducible rfl))
    (try simp only [Act.put,List.getElem_toArray,List.getElem_cons_zero,List.getElem_cons_succ,List.setIfInBounds_toArray,List.set_cons_zero,List.set_cons_succ])
    refine wpHd_one (i:=10) rfl (by kernel_rfl) (fun K hK=>?_)
    go_simp
    refine (CS.out _ hHeld.2.2.2.2.2.2.2.2).mono ?_
    rintro e w9 ⟨rfl,k9⟩
    refine hK.out _ _ ?_ (fun hHeld=>?_)
    · exact ⟨k9.cell' hHeld.1,k9.cell' hHeld.2.1,k9.cell' hHeld.2.2.1,k9.cell' hHeld.2.2.2.1,k9.cell' hHeld.2.2.2.2.1,k9.cell' hHeld.2.2.2.2.2.1,k9.cell' hHeld.2.2.2.2.2.2.1,k9.cell' hHeld.2.2.2.2.2.2.2.1,hHeld.2.2.2.2.2.2.2.2.trans k9⟩
    clear hK K
    (try simp only [Act.put,List.getElem_toArray,List.getElem_cons_zero,List.getElem_cons_succ,List.setIfInBounds_toArray,List.set_cons_zero,List.set_cons_succ])
    refine wpHd_take (i:=11) (v:=?_) rfl (by kernel_rfl) (fun _ _ _ h=>h) (Or.inl ⟨by rfl,?hy⟩) hHeld ?_
    case hy=>(intro w hSw;(try dsimp only at hSw);go_split_ands;go_simp;try (with_reducible rfl))
    (try simp only [Act.put,List.getElem_toArray,List.getElem_cons_zero,List.getElem_cons_succ,List.setIfInBounds_toArray,List.set_cons_zero,List.set_cons_succ])
    refine ⟨by kernel_rfl,?_⟩
    simp only [List.drop_succ_cons,List.drop_zero]
    have hw:=hid (hHeld.2.2.2.2.2.2.2.2)
    clear d0 d1 d2 d3 d4 d5 d6 c0 CS CS0 hHeld
    obtain ⟨w10,hput,hmp,ht⟩:=(H2.out.bl hw.out).map.put hpcN (by omega) ⟨⟨a0,a1,a2,a3,a4,a5,a6⟩,sb,v1,v2⟩
    have HC:=hid ((H2.out.bl hw.out).turned hmp ht)
    have HF:=hid ((F2.out.trans (Fr.of_bl hw.out)).trans (Fr.turned ht))
    simp only [Ent.v] at hput
    clear hmp ht
    go_wp2_with fail
    go_end0
    exact ⟨rfl,⟨_,_,HC.out,by simp [noEnt],.inr rfl⟩,HF.out⟩
  · have hfI:(k:Int) < 4096:=by omega
    clear hfull
    generalize w.alloc (.cells (Td.I7 a0 a1 a2 a3 a4 a5 a6) 38) = W at *
    obtain ⟨d0,d1,d2,d3,d4,d5,d6⟩:=seven_at A0.out
    have CS:=hid (fun W' kk=>CS0.out W W' HM1.out kk)
    go_upto_region 4 with (fail)
    refine wp_region_hd 12 (fun w'=>w'.cell? ⟨cb,0,none⟩ = some (.map (some B))∧w'.cell? ⟨w.heap.size,0,none⟩ = some (.int .i64 a0)∧w'.cell? ⟨w.heap.size,1,none⟩ = some (.int .i64 a1)∧w'.cell? ⟨w.heap.size,2,none⟩ = some (.int .i64 a2)∧w'.cell? ⟨w.heap.size,3,none⟩ = some (.int .i64 a3)∧w'.cell? ⟨w.heap.size,4,none⟩ = some (.int .i64 a4)∧w'.cell? ⟨w.heap.size,5,none⟩ = some (.int .i64 a5)∧w'.cell? ⟨w.heap.size,6,none⟩ = some (.int .i64 a6)∧Bl W w') (by kernel_rfl) (by decide) (⟨c0,d0,d1,d2,d3,d4,d5,d6,(Bl.refl _).drew⟩) (fun hHeld=>?_)
    refine wpHd_take (i:=0) (v:=?_) rfl (by kernel_rfl) (fun _ _ _ h=>h) (Or.inl ⟨by rfl,?hy⟩) hHeld ?_
    case hy=>(intro w hSw;(try dsimp only at hSw);go_split_ands;go_simp;try (with_reducible rfl))
    (try simp only [Act.put,List.getElem_toArray,List.getElem_cons_zero,List.getElem_cons_succ,List.setIfInBounds_toArray,List.set_cons_zero,List.set_cons_succ])
    refine wpHd_take (i:=1) (v:=?_) rfl (by kernel_rfl) (fun _ _ _ h=>h) (Or.inl ⟨by rfl,?hy⟩) hHeld ?_
    case hy=>(intro w hSw;(try dsimp only at hSw);go_split_ands;go_simp;try (with_reducible rfl))
    (try simp only [Act.put,List.getElem_toArray,List.getElem_cons_zero,List.getElem_cons_succ,List.setIfInBounds_toArray,List.set_cons_zero,List.set_cons_succ])
    refine wpHd_take (i:=2) (v:=?_) rfl (by kernel_rfl) (fun _ _ _ h=>h) (Or.inl ⟨by rfl,?hy⟩) hHeld ?_
    case hy=>(intro w hSw;(try dsimp only at hSw);go_split_ands;go_simp;try (with_reducible rfl))
    (try simp only [Act.put,List.getElem_toArray,List.getElem_cons_zero,List.getElem_cons_succ,List.setIfInBounds_toArray,List.set_cons_zero,List.set_cons_succ])
    refine wpHd_take (i:=3) (v:=?_) rfl (by kernel_rfl) (fun _ _ _ h=>h) (Or.inl ⟨by rfl,?hy⟩) hHeld ?_
    case hy=>(intro w hSw;(try dsimp only at hSw);go_split_ands;go_simp;try (with_reducible rfl))
    (try simp only [Act.put,List.getElem_toArray,List.getElem_cons_zero,List.getElem_cons_succ,List.setIfInBounds_toArray,List.set_cons_zero,List.set_cons_succ])
    refine wpHd_take (i:=4) (v:=?_) rfl (by kernel_rfl) (fun _ _ _ h=>h) (Or.inl ⟨by rfl,?hy⟩) hHeld ?_
    case hy=>(intro w hSw;(try dsimp only at hSw);go_split_ands;go_simp;try (with_reducible rfl))
    (try simp only [Act.put,List.getElem_toArray,List.getElem_cons_zero,List.getElem_cons_succ,List.setIfInBounds_toArray,List.set_cons_zero,List.set_cons_succ])
    refine wpHd_take (i:=5) (v:=?_) rfl (by kernel_rfl) (fun _ _ _ h=>h) (Or.inl ⟨by rfl,?hy⟩) hHeld ?_
    case hy=>(intro w hSw;(try dsimp only at hSw);go_split_ands;go_simp;try (with_reducible rfl))
    (try simp only [Act.put,List.getElem_toArray,List.getElem_cons_zero,List.getElem_cons_succ,List.setIfInBounds_toArray,List.set_cons_zero,List.set_cons_succ])
    refine wpHd_take (i:=6) (v:=?_) rfl (by kernel_rfl) (fun _ _ _ h=>h) (Or.inl ⟨by rfl,?hy⟩) hHeld ?_
    case hy=>(intro w hSw;(try dsimp only at hSw);go_split_ands;go_simp;try (with_reducible rfl))
    (try simp only [Act.put,List.getElem_toArray,List.getElem_cons_zero,List.getElem_cons_succ,List.setIfInBounds_toArray,List.set_cons_zero,List.set_cons_succ])
    refine wpHd_take (i:=7) (v:=?_) rfl (by kernel_rfl) (fun _ _ _ h=>h) (Or.inl ⟨by rfl,?hy⟩) hHeld ?_
    case hy=>(intro w hSw;(try dsimp only at hSw);go_split_ands;go_simp;try (with_reducible rfl))
    (try simp only [Act.put,List.getElem_toArray,List.getElem_cons_zero,List.getElem_cons_succ,List.setIfInBounds_toArray,List.set_cons_zero,List.set_cons_succ])
    refine wpHd_take (i:=8) (v:=?_) rfl (by kernel_rfl) (fun _ _ _ h=>h) (Or.inl ⟨by rfl,?hy⟩) hHeld ?_
    case hy=>(intro w hSw;(try dsimp only at hSw);go_split_ands;go_simp;try (with_reducible rfl))
    (try simp only [Act.put,List.getElem_toArray,List.getElem_cons_zero,List.getElem_cons_succ,List.setIfInBounds_toArray,List.set_cons_zero,List.set_cons_succ])
    refine wpHd_take (i:=9) (v:=?_) rfl (by kernel_rfl) (fun _ _ _ h=>h) (Or.inl ⟨by rfl,?hy⟩) hHeld ?_
    case hy=>(intro w hSw;(try dsimp only at hSw);go_split_ands;go_simp;try (with_reducible rfl))
    (try simp only [Act.put,List.getElem_toArray,List.getElem_cons_zero,List.getElem_cons_succ,List.setIfInBounds_toArray,List.set_cons_zero,List.set_cons_succ])
    refine wpHd_one (i:=10) rfl (by kernel_rfl) (fun K hK=>?_)
    go_simp
    refine (CS.out _ hHeld.2.2.2.2.2.2.2.2).mono ?_
    rintro e w9 ⟨rfl,k9⟩
    refine hK.out _ _ ?_ (fun hHeld=>?_)
    · exact ⟨k9.cell' hHeld.1,k9.cell' hHeld.2.1,k9.cell' hHeld.2.2.1,k9.cell' hHeld.2.2.2.1,k9.cell' hHeld.2.2.2.2.1,k9.cell' hHeld.2.2.2.2.2.1,k9.cell' hHeld.2.2.2.2.2.2.1,k9.cell' hHeld.2.2.2.2.2.2.2.1,hHeld.2.2.2.2.2.2.2.2.trans k9⟩
    clear hK K
    (try simp only [Act.put,List.getElem_toArray,List.getElem_cons_zero,List.getElem_cons_succ,List.setIfInBounds_toArray,List.set_cons_zero,List.set_cons_succ])
    refine wpHd_take (i:=11) (v:=?_) rfl (by kernel_rfl) (fun _ _ _ h=>h) (Or.inl ⟨by rfl,?hy⟩) hHeld ?_
    case hy=>(intro w hSw;(try dsimp only at hSw);go_split_ands;go_simp;try (with_reducible rfl))
    (try simp only [Act.put,List.getElem_toArray,List.getElem_cons_zero,List.getElem_cons_succ,List.setIfInBounds_toArray,List.set_cons_zero,List.set_cons_succ])
    refine ⟨by kernel_rfl,?_⟩
    simp only [List.drop_succ_cons,List.drop_zero]
    have hw:=hid (hHeld.2.2.2.2.2.2.2.2)
    clear d0 d1 d2 d3 d4 d5 d6 c0 CS CS0 hHeld hln
    obtain ⟨w10,hput,hmp,ht⟩:=(H1.out.bl hw.out).map.put hpcN (by omega) ⟨⟨a0,a1,a2,a3,a4,a5,a6⟩,sb,v1,v2⟩
    have HC:=hid ((H1.out.bl hw.out).turned hmp ht)
    have HF:=hid ((Fr.of_bl (S:=only B) (K0.out.trans hw.out)).trans (Fr.turned ht))
    simp only [Ent.v] at hput
    clear hmp ht
    go_wp2_with fail
    go_end0
    exact ⟨rfl,⟨_,_,HC.out,by split <;> omega,.inl rfl⟩,HF.out⟩
end
end Go.Proofs.YtlhpodholnfppaaGreatDoor
