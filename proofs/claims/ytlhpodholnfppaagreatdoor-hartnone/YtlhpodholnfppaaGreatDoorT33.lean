/-
  HartNone's walk.
  A stop comes again; registers as an argument; two operations' values.
  HartKeeps's walk.
  Many steps: the relation, and the program's Run.
-/
import Derived.Test.YtlhpodholnfppaaGreatDoorT32
import Derived.Test.YtlhpodholnfppaaGreatDoorT14
import Derived.Test.YtlhpodholnfppaaGreatDoorT12
import Derived.Deep.Slices
import Derived.ChangeSame
import Derived.Lib.Hide
set_option linter.unusedVariables false
set_option linter.unusedSimpArgs false
set_option maxHeartbeats 16000000
open Go.Lib (hid)
namespace Go.Proofs.YtlhpodholnfppaaGreatDoor
open Go.RowKit
set_option maxRecDepth 100000
theorem bytes0H (w:World):BytesIn w none 0 0 []:=
  ⟨fun h=>absurd h (by decide),rfl,Nat.le_refl _,fun _=>rfl,fun k=>⟨by simp,by simp⟩,fun h=>absurd h (by decide),by decide⟩
theorem st_new (w:World) (pc:Int) (xs:List Int) (ha hn:Int) (hl:xs.length = 32):StAt (w.alloc (.cells (stV pc xs ha hn).toArray 47)) w.heap.size pc xs ha hn:=⟨heap_alloc_new w _,hl⟩
section
variable {P:Program} (w:World) {ops:Array Oper} {rest:List Oper} {o:Oper} {a:Act} {Q:Exit → Act → World → Prop}
theorem wplLg (hw:Region.wanted o (yielded ops a.tmps) = true) (x:Operand) (t:TypeId) (hop:o.op = Op.load t x) (vx v1:Value) (hx:a.eval x = vx) (hrun:(Instr.loadAt t vx).run P w = .ok v1 w) (hK:wpList P ops Q rest (a.put o.dst v1) w):wpList P ops Q (o :: rest) a w:=by
  refine wpList_step fun K' hK'=>?_
  rw [if_pos hw]
  unfold Oper.wp
  simp [execOp,hop,hx,hrun,Result.andThen]
  exact hK' _ _ hK
theorem wplE (hw:Region.wanted o (yielded ops a.tmps) = true) (t tr:TypeId) (x y:Operand) (hop:o.op = Op.binOp .eql t x y tr) (vx vy:Value) (b:Bool) (hx:a.eval x = vx) (hy:a.eval y = vy) (hg:(eqGuard .eql t x y vx vy).run P w = .ok () w) (hrun:(Go.binOp .eql t vx vy).run P w = .ok (.bool b) w) (hK:wpList P ops Q rest (a.put o.dst (.bool b)) w):wpList P ops Q (o :: rest) a w:=by
  refine wpList_step fun K' hK'=>?_
  rw [if_pos hw]
  unfold Oper.wp
  simp [execOp,hop,hx,hy,hg,hrun,Result.andThen]
  exact hK' _ _ hK
end
theorem none_walk (w:World) (pc:Int) (xs:List Int) (ha hn fuel:Int) (hl:xs.length = 32) (hT:Td.TabsS w):Calls Tryz.prog 7 #[.agg (stV pc xs ha hn).toArray,.int .i64 fuel] w fun e w'=>e = .returned (.bool true)∧Bl w w':=by
  have K0:=hid (Bl.new w (.cells (stV pc xs ha hn).toArray 47))
  have S0:=hid (st_new w pc xs ha hn hl)
  have H21:=hid (show 20 < w.heap.size from hT.lt (by decide))
  have HT:=hid (hT.bl K0.out);clear hT
  have HLT:=hid S0.out.lt
  go_enter Tryz.func7,Tryz.ntmps7
  go_upto_region 2 with (fail)
  generalize w.alloc (.cells (stV pc xs ha hn).toArray 47) = W at *
  have hld:=S0.out.load
  go_wp2_with (first | (refine wplL _ rfl (.tmp 2) 47 rfl _ _ rfl hld ?_) | fail)
  with_reducible refine (hnil_set W _).mono ?_
  rintro e w1 ⟨rfl,k1⟩
  have K1:=hid k1;clear k1 hld
  go_wp2_with fail
  with_reducible refine (hnil_run w1 fuel).mono ?_
  rintro e w2 ⟨rfl,k2⟩
  have K2:=hid (K1.out.trans k2);clear k2 K1
  unfold stopV
  go_upto_region 4 with (fail)
  have N3:=hid (heap_alloc_new w2 (.cells #[.int .i64 3,.int .i64 0,.int .u64 0] 33))
  have K3:=hid (K2.out.trans (Bl.new w2 (.cells #[.int .i64 3,.int .i64 0,.int .u64 0] 33)))
  generalize w2.alloc (.cells #[.int .i64 3,.int .i64 0,.int .u64 0] 33) = w3 at *
  have B0:=hid K2.out.size
  clear K2
  generalize w2.heap.size = sbk at *
  have cm:=machines_any (R:=none) (rl:=0) (rc:=0) (rs:=fun _=>0) w3 (bytes0H w3) (by omega) (fun h=>by omega) (by omega) false
  have CM:=hid cm;clear cm
  go_wp2_with fail
  with_reducible refine CM.out.mono ?_
  rintro e w4 ⟨hb,kb,sb,rb,cb,B,n,M,st,K,rfl,hpr,hmd⟩
  have H4:=hid hmd.ht
  have K4:=hid hmd.bl
  have hlo:=hmd.lo.1
  clear hpr hmd CM
  have S4:=hid (S0.out.bl (K3.out.trans K4.out))
  have N4:=hid (K4.out.at_ N3.out)
  have hN:=lt_at N3.out
  have hS:=(S0.out.bl K3.out).lt
  have cs:=hset_any H4.out pc xs ha hn hl
  have hld:=S4.out.load
  unfold addr0 at cs ⊢
  go_wp2_with (first | (refine wplL _ rfl (.tmp 2) 47 rfl _ _ rfl hld ?_) | fail)
  with_reducible refine cs.mono ?_
  rintro e w5 ⟨rfl,g1,g2⟩
  have H5:=hid g1;clear g1
  have S5:=hid (S4.out.fr g2 (fun e=>by have e3:w.heap.size = hb:=e;omega))
  have N5:=hid (g2.at_ N4.out (fun e=>by have e3:sbk = hb:=e;omega))
  have K5:=hid (bl_fr' (K3.out.trans K4.out) g2 (fun q hq e=>by have e3:q = hb:=e;have:=K3.out.size;omega))
  clear g2 cs hld S4 N4 H4
  have ct:=hstate_any H5.out
  unfold addr0 at ct
  go_wp2_with fail
  with_reducible refine ct.mono ?_
  rintro e w6 ⟨rfl,k6⟩
  have hsn:=store47new w6 pc (xs.set 0 0) ha hn (by simp [hl])
  go_upto_region 7 with (first | (refine wplS _ rfl (.tmp 10) (.tmp 28) 47 rfl _ _ rfl rfl hsn ?_) | fail)
  (try simp only [Act.put])
  have S7:=hid (S5.out.bl (k6.trans (Bl.new w6 (.cells (stV pc (xs.set 0 0) ha hn).toArray 47))))
  have N7:=hid ((k6.trans (Bl.new w6 (.cells (stV pc (xs.set 0 0) ha hn).toArray 47))).at_ N5.out)
  have K7:=hid (K5.out.trans (k6.trans (Bl.new w6 (.cells (stV pc (xs.set 0 0) ha hn).toArray 47))))
  have G7:=hid (st_new w6 pc (xs.set 0 0) ha hn (by simp [hl]))
  have B7:=hid (Nat.lt_of_lt_of_le S5.out.lt k6.size)
  clear hsn ct
  generalize w6.alloc (.cells (stV pc (xs.set 0 0) ha hn).toArray 47) = w7 at *
  have c0:=S7.out.x 0 (by omega)
  have z0:=S7.out.free (1 + 0)
  go_upto_region 8 with (fail)
  have f8:Fr (only w.heap.size) w7 (w7.setCell ⟨w.heap.size,1 + 0,none⟩ (.int .u64 0)):=Fr.set (S:=only w.heap.size) (p:=⟨w.heap.size,1 + 0,none⟩) rfl _
  have S8:=hid (S7.out.setReg 0 (by omega) 0)
  have G8:=hid (G7.out.fr f8 (fun e=>by have e3:w6.heap.size = w.heap.size:=e;have:=B7.out;omega))
  have N8:=hid (f8.at_ N7.out (fun e=>by have e3:sbk = w.heap.size:=e;have:=B0.out;have:=HLT.out;omega))
  have T8:=hid ((HT.out.bl K7.out).fr f8 (fun g hg e=>by have e3:g = w.heap.size:=e;have:=H21.out;omega))
  have K8:=hid (bl_fr' (K0.out.trans K7.out) f8 (fun q hq e=>by have e3:q = w.heap.size:=e;omega))
  simp only [Nat.add_zero] at S8 G8 N8 T8 K8
  clear c0 z0 f8 S7 N7 K7 G7
  generalize w7.setCell ⟨w.heap.size,1,none⟩ (.int .u64 0) = w8 at *
  go_wp2_with fail
  with_reducible refine (answers_any w8 T8.out).mono ?_
  rintro e w9 ⟨rfl,k9⟩
  go_wp2_with fail
  with_reducible refine (hnil_step w9).mono ?_
  rintro e wa ⟨rfl,ka⟩
  unfold stopV
  have hk:=stop_kind 3 0 0
  have KA:=hid (k9.trans ka);clear k9 ka
  obtain ⟨e0,e1,e2⟩:=three_at (KA.out.at_ N8.out)
  go_wp2_with fail
  with_reducible refine (hnil_space wa).mono ?_
  rintro e wb ⟨rfl,rfl⟩
  go_wp2_with fail
  with_reducible refine (hnil_state wa).mono ?_
  rintro e wb ⟨rfl,kb_⟩
  have hq:∀ W,(Go.binOp .eql 47 (.agg (stV 0 (List.replicate 32 0) 0 0).toArray) (.agg (stV 0 (List.replicate 32 0) 0 0).toArray)).run Tryz.prog W = .ok (.bool true) W:=fun W=>state_eql 0 0 0 rfl W
  have hp:=fun W=>state_eql pc ha hn (show (xs.set 0 0).length = 32 by simp [hl]) W
  have hl1:=(G8.out.bl (KA.out.trans kb_)).load
  have hl2:=(S8.out.bl (KA.out.trans kb_)).load
  clear e0 e1 e2
  have K9:=hid (K8.out.trans (KA.out.trans kb_));clear kb_
  go_wp2_with (first
    | (refine wplE _ (by rfl) 47 47 (.tmp 54) (.tmp 55) rfl _ _ true rfl rfl (run_eqGuard_agg _ _ _ _ _ _ _ Tryz.eqGuardType47) (hq _) ?_)
    | (refine wplLg _ (by rfl) (.tmp 10) 47 rfl _ _ rfl hl1 ?_)
    | (refine wplLg _ (by rfl) (.tmp 2) 47 rfl _ _ rfl hl2 ?_)
    | (refine wplE _ (by rfl) 47 47 (.tmp 59) (.tmp 60) rfl _ _ true rfl rfl (run_eqGuard_agg _ _ _ _ _ _ _ Tryz.eqGuardType47) (hp _) ?_)
    | fail)
  go_ret
  exact ⟨rfl,K9.out⟩
end Go.Proofs.YtlhpodholnfppaaGreatDoor

namespace Go.Proofs.YtlhpodholnfppaaGreatDoor
open Go.ChangeShapes Go.WideShapes Go.ChangeAt Go.RowKit Go.Deep
set_option maxRecDepth 100000
theorem DoIs.again {L:List Rg} {M:Nat → Int} {s:St} {i:Td.Ins} {k fk fa:Int} {s1:St} {M1:Nat → Int} (h:DoIs L M s i k fk fa s1 M1) (hk:k ≠ 0):DoIs L M s.rest i k fk fa s.rest M:=by
  cases h with
  | ecall h=>exact DoIs.ecall (s:=s.rest) h
  | ebreak h=>exact DoIs.ebreak (s:=s.rest) h
  | loadBad z h hf=>exact DoIs.loadBad (s:=s.rest) _ h hf
  | storeBad z h hf=>exact DoIs.storeBad (s:=s.rest) _ h hf
  | atomBad o N h hf h0 =>
    cases hf with
    | none_ g=>exact DoIs.atomBad (s:=s.rest) _ _ h (StepIs.none_ g) h0
    | align g1 g2=>exact DoIs.atomBad (s:=s.rest) _ _ h (StepIs.align g1 g2) h0
    | scBad z g1 g2 g3=>exact DoIs.atomBad (s:=s.rest) _ _ h (StepIs.scBad z g1 g2 g3) h0
    | lrBad z g1 g2 g3=>exact DoIs.atomBad (s:=s.rest) _ _ h (StepIs.lrBad z g1 g2 g3) h0
    | amBad z g1 g2 g3=>exact DoIs.atomBad (s:=s.rest) _ _ h (StepIs.amBad z g1 g2 g3) h0
    | amNo z g1 g2 g3 g4=>exact DoIs.atomBad (s:=s.rest) _ _ h (StepIs.amNo z g1 g2 g3 g4) h0
    | scNo _ _ _ _=>exact absurd rfl h0
    | scYes _ _ _ _=>exact absurd rfl h0
    | lrYes _ _ _=>exact absurd rfl h0
    | amYes _ _ _ _=>exact absurd rfl h0
  | _=>exact absurd rfl hk
theorem MacIs.again {L:List Rg} {M:Nat → Int} {s:St} {k fk fa:Int} {s1:St} {M1:Nat → Int} (h:MacIs L M s k fk fa s1 M1) (hk:k ≠ 0):MacIs L M s.rest k fk fa s.rest M:=by
  cases h with
  | bad A h1 h2=>exact MacIs.bad (s:=s.rest) A h1 h2
  | go A _ _ _ _ _ h1 h2 h3=>exact MacIs.go (s:=s.rest) A _ _ _ _ _ h1 h2 (h3.again hk)
theorem Solo.lt {K:Nat → Prop} {w:World} {hb sb cb B n:Nat} {on:Bool} {s:St} {M st:Nat → Int} (h:Solo K w hb sb cb B n on s M st):hb < w.heap.size∧cb < w.heap.size∧B < w.heap.size∧hb ≠ B∧hb ≠ cb:=by
  obtain ⟨T,h1,_⟩:=h.ex
  exact ⟨h1.ht.lt,h1.base.cl,h1.base.Bl_,h1.base.bB,h1.base.bc⟩
theorem Solo.tabs {K:Nat → Prop} {w:World} {hb sb cb B n:Nat} {on:Bool} {s:St} {M st:Nat → Int} (h:Solo K w hb sb cb B n on s M st):Td.TabsS w:=by
  obtain ⟨T,h1,_⟩:=h.ex
  exact h1.base.tabs
section
variable {P:Program} {ops:Array Oper} {S:World → Prop} {o:Oper} {a:Act}
theorem y_load (hw:Region.wanted o (yielded ops a.tmps) = true) (x:Operand) (t:TypeId) (hop:o.op = Op.load t x) (vx v1:Value) (hx:a.eval x = vx) (h:∀ w,S w → (Instr.loadAt t vx).run P w = .ok v1 w):YieldsIf P ops S o v1 a:=
  .inl ⟨hw,fun w hS=>by simp [execOp,hop,hx,h w hS]⟩
theorem y_eql (hw:Region.wanted o (yielded ops a.tmps) = true) (t tr:TypeId) (x y:Operand) (hop:o.op = Op.binOp .eql t x y tr) (vx vy:Value) (b:Bool) (hx:a.eval x = vx) (hy:a.eval y = vy) (hg:∀ w,(eqGuard .eql t x y vx vy).run P w = .ok () w) (hrun:∀ w,(Go.binOp .eql t vx vy).run P w = .ok (.bool b) w):YieldsIf P ops S o (.bool b) a:=
  .inl ⟨hw,fun w hS=>by simp [execOp,hop,hx,hy,hg w,hrun w,Result.andThen]⟩
end
theorem open_regs {H:Type} {enc:TypeId × Value → H} {w:World} {base:Nat} {spare:Nat → Bool} {held:Bool} {fuel:Nat} {ra:Option Addr} {rl rc:Nat} {x:DataW H × List MemPlace} (h:DataW.trod enc Tryz.prog w base spare held fuel 23 [.slice ra rl rc] = some x) :
    ∃ rs:Nat → Int,RegsIn w ra rl rs∧rl ≤ 9223372036854775807∧∀ j,j < rl → 0 ≤ rs j∧rs j < 18446744073709551616:=by
  rcases open_slice Tryz.underlying23 h with ⟨h1,_⟩ | ⟨ad,l,c,m,n,D,Pl,h1,h2,h3,h4,h5,h6,h7⟩
  · injection h1 with h1
    injection h1 with h1 h8 h9
    subst h1 h8 h9
    exact ⟨fun _=>0,fun h0=>absurd h0 (by omega),by omega,fun j hj=>absurd hj (by omega)⟩
  · injection h1 with h1
    injection h1 with h1 h8 h9
    subst h1 h8 h9
    have hc5:Tryz.prog.cellsOf 29 = 1:=by kernel_rfl
    have hm:rl ≤ m:=by rw [h5];split <;> omega
    have key:∀ k,k < rl → ∃ y:Int,w.cell? (ad.add k) = some (.int .u64 y)∧0 ≤ y∧y < 18446744073709551616:=fun k hk=>by
      obtain ⟨cs,hcs,hts⟩:=h7 k (by omega)
      rw [hc5,Nat.mul_one] at hcs
      obtain ⟨hlen,_,hat⟩:=World.cells?_some hcs
      match cs,hlen with
      | [u],_ =>
        obtain ⟨y,e0,hw⟩:=DataW.trod_int Tryz.underlying29 hts
        cases e0
        have h8:=hat 0 (by omega)
        exact ⟨y,by simpa [show (ad.add k).add 0 = ad.add k from rfl] using h8,by have:=u64_wf hw.2;omega⟩
    have hch:∃ f:Nat → Int,∀ k,k < rl → w.cell? (ad.add k) = some (.int .u64 (f k))∧0 ≤ f k∧f k < 18446744073709551616:=by
      refine ⟨fun k=>if hk:k < rl then Classical.choose (key k hk) else 0,fun k hk=>?_⟩
      simp only [dif_pos hk]
      exact Classical.choose_spec (key k hk)
    obtain ⟨f,hf⟩:=hch
    refine ⟨f,fun h0=>?_,by simp only [maxLen] at h4;omega,fun j hj=>(hf j hj).2⟩
    have h1:=block_lt_of_cell (hf 0 h0).1
    rw [add_block] at h1
    obtain ⟨b,off,spot⟩:=ad
    have hspot:spot = none:=by simpa [Addr.add] using World.cell?_spot (hf 0 h0).1
    subst hspot
    exact ⟨b,off,rfl,h1,fun k hk=>by rw [← Go.WideShapes.add_plain];exact (hf k hk).1⟩
end Go.Proofs.YtlhpodholnfppaaGreatDoor

namespace Go.Proofs.YtlhpodholnfppaaGreatDoor
open Go.RowKit
set_option maxRecDepth 100000
structure KS (w:World) (t8 t10 t9:Nat) (s:St) (k fk fa:Int):Prop where
  a:StAt w t8 s.pc s.xs 0 0
  b:StAt w t10 s.pc s.xs 0 0
  c:w.heap[t9]? = some (.cells #[.int .i64 k,.int .i64 fk,.int .u64 fa] 33 (0,0))
theorem KS.bl {w w':World} {t8 t10 t9:Nat} {s:St} {k fk fa:Int} (h:KS w t8 t10 t9 s k fk fa) (q:Bl w w'):KS w' t8 t10 t9 s k fk fa:=⟨h.a.bl q,h.b.bl q,q.at_ h.c⟩
theorem KS.fr {w w':World} {t8 t10 t9:Nat} {s:St} {k fk fa:Int} {U:Nat → Prop} (h:KS w t8 t10 t9 s k fk fa) (q:Fr U w w') (h8:¬ U t8) (h10:¬ U t10) (h9:¬ U t9):KS w' t8 t10 t9 s k fk fa:=⟨h.a.fr q h8,h.b.fr q h10,q.at_ h.c h9⟩
theorem no3 {K:Nat → Prop} {x hb B:Nat} (h:K x) (h1:x ≠ hb) (h2:x ≠ B):¬ (¬ K x ∨ x = hb ∨ x = B):=fun e=>by
  rcases e with e | e | e
  · exact e h
  · exact h1 e
  · exact h2 e
theorem Solo.more {K:Nat → Prop} {w w':World} {hb sb cb B n:Nat} {on:Bool} {s:St} {M st:Nat → Int} (h:Solo K w hb sb cb B n on s M st) (k:Bl w w'):∃ K',Solo K' w' hb sb cb B n on s M st∧(∀ b,K b → K' b)∧∀ b,w.heap.size ≤ b → b < w'.heap.size → K' b:=
  ⟨_,h.bl k,fun b hb=>.inl hb,fun b h1 h2=>.inr ⟨h1,h2⟩⟩
theorem Solo.moreFr {K:Nat → Prop} {w w':World} {hb sb cb B n:Nat} {on:Bool} {s:St} {M st:Nat → Int} (h:Solo K w hb sb cb B n on s M st) {U:Nat → Prop} (k:Fr U w w') (hU:∀ b,b < w.heap.size → U b → K b∧b ≠ hb∧b ≠ cb∧b ≠ B∧21 ≤ b):∃ K',Solo K' w' hb sb cb B n on s M st∧(∀ b,K b → K' b)∧∀ b,w.heap.size ≤ b → b < w'.heap.size → K' b:=
  ⟨_,h.fr k hU,fun b hb=>.inl hb,fun b h1 h2=>.inr ⟨h1,h2⟩⟩
theorem keeps_walk {A:Option Addr} {l c:Nat} {xs:List Int} {R:Option Addr} {rl rc:Nat} {rs:Nat → Int} (w:World) (hbi:BytesIn w A l c xs) (hri:RegsIn w R rl rs) (hrl:rl ≤ 9223372036854775807) (hrb:∀ j,j < rl → 0 ≤ rs j∧rs j < 18446744073709551616) (hT:Td.TabsS w) :
    Calls Tryz.prog 6 #[.slice A l c,.slice R rl rc] w fun e w'=>e = .returned (.bool true)∧Bl w w':=by
  have HT:=hid hT;clear hT
  have HRB:=hid hrb;clear hrb
  go_enter Tryz.func6,Tryz.ntmps6
  by_cases hl:8000 < l
  · have hI:(8000:Int) < (l:Int):=by omega
    go_wp2_with fail
    with_reducible refine (answers_any w HT.out).mono ?_
    rintro e w1 ⟨rfl,k1⟩
    go_wp2_with fail
    go_ret
    exact ⟨rfl,k1⟩
  · have hI:(l:Int) ≤ 8000:=by omega
    have cm:=machines_any (rc:=rc) w hbi (by omega) hri hrl true
    have CM:=hid cm;clear cm hbi hri
    go_wp2_with fail
    with_reducible refine CM.out.mono ?_
    rintro e w1 ⟨hb,kb,sb,rb,cb,B,n,M,st,K,rfl,hpr,hmd⟩
    have SO:=hid (hmd.solo (rg_regs _ _ _ HRB.out) HT.out)
    have LO:=hid (And.intro hmd.lo.1 hmd.lo.2.2.2)
    have OLD:=hid hmd.old
    have LE:=hid hmd.le
    have BL1:=hid hmd.bl
    clear hpr hmd CM
    unfold addr0
    go_upto_region 5 with (fail)
    go_loopw [7] (fun i wr=>∃ (k n:Nat) (K:Nat → Prop) (s:St) (M st:Nat → Int),k ≤ 200∧i = .int .i64 k∧n ≤ 200000 + 9 * k∧Solo K wr hb sb cb B n true s M st∧(∀ b,b < w.heap.size → K b)∧Bl w wr) (fun i _=>200 - (intOf i).toNat)
    case atStart=>exact ⟨0,n,K,_,M,st,by omega,rfl,by have:=LE.out;omega,SO.out,OLD.out,BL1.out⟩
    case round =>
      clear SO OLD BL1
      obtain ⟨k,n,K,s,M,st,hk,rfl,hn,hso,hold,hbl⟩:=hrel
      have SO:=hid hso;clear hso
      have OLD:=hid hold;clear hold
      have BL1:=hid hbl;clear hbl
      have hkI0:(0:Int) ≤ (k:Int):=by omega
      by_cases hlt:k < 200
      · have hltI:(k:Int) < 200:=by omega
        have hxl:=SO.out.regs.len
        have ct:=SO.out.state
        unfold addr0 at ct
        go_wp2_with fail
        with_reducible refine ct.mono ?_
        rintro e wA ⟨rfl,kA⟩
        have hsn:=store47new wA s.pc s.xs s.ha s.hn hxl
        go_upto_region 8 with (first | (refine wplS _ rfl (.tmp 8) (.tmp 26) 47 rfl _ _ rfl rfl hsn ?_) | fail)
        (try simp only [Act.put])
        have k8:=kA.trans (Bl.new wA (.cells (stV s.pc s.xs s.ha s.hn).toArray 47))
        have S8:=hid (st_new wA s.pc s.xs s.ha s.hn hxl)
        have L0:=SO.out.lt
        have hs0:=kA.size
        obtain ⟨K1,s1,i1,j1⟩:=SO.out.more k8
        have SO1:=hid s1;clear s1
        have B1:=hid (BL1.out.trans k8)
        have OLD1:=hid (fun b hb_=>i1 b (OLD.out b hb_))
        have KT8:=hid (j1 wA.heap.size hs0 S8.out.lt)
        have N8:Hid (wA.heap.size ≠ hb∧wA.heap.size ≠ B∧wA.heap.size ≠ cb∧21 ≤ wA.heap.size):=hid ⟨by omega,by omega,by omega,by have:=SO.out.tabs.lt (show 20 < 21 by decide);omega⟩
        have W8:Hid (w.heap.size ≤ wA.heap.size):=hid (by have:=BL1.out.size;omega)
        clear hsn ct k8 i1 j1 SO OLD BL1 L0 hs0 kA
        generalize wA.alloc (.cells (stV s.pc s.xs s.ha s.hn).toArray 47) = V1 at *
        generalize wA.heap.size = t8 at *
        have cs:=SO1.out.step (by omega)
        unfold addr0 at cs
        go_wp2_with fail
        with_reducible refine cs.mono ?_
        rintro e w2 ⟨k',fk,fa,s',M',st',g1,rfl,g2,g3⟩
        have G1:=hid g1;clear g1 cs
        have B2:=hid (bl_fr' B1.out g3 (fun q hq=>no3 (OLD1.out q hq) (by have:=LO.out.1;omega) (by have:=LO.out.2;omega)))
        have S8b:=hid (S8.out.fr g3 (no3 KT8.out N8.out.1 N8.out.2.1))
        clear g3 S8 B1 SO1
        unfold stopV
        go_upto_region 9 with (fail)
        have k9:=Bl.new w2 (.cells #[.int .i64 k',.int .i64 fk,.int .u64 fa] 33)
        have S9:=hid (heap_alloc_new w2 (.cells #[.int .i64 k',.int .i64 fk,.int .u64 fa] 33))
        have L2:=g2.lt
        obtain ⟨K2,s2,i2,j2⟩:=g2.more k9
        have SO2:=hid s2;clear s2 g2
        have B3:=hid (B2.out.trans k9)
        have OLD2:=hid (fun b hb_=>i2 b (OLD1.out b hb_))
        have KT8b:=hid (i2 _ KT8.out)
        have KT9:=hid (j2 w2.heap.size (Nat.le_refl _) (lt_at S9.out))
        have N9:Hid (w2.heap.size ≠ hb∧w2.heap.size ≠ B):=hid ⟨by omega,by omega⟩
        have S8c:=hid (S8b.out.bl k9)
        have D98:Hid (w2.heap.size ≠ t8):=hid (by have:=S8b.out.lt;omega)
        clear k9 i2 j2 B2 OLD1 KT8 L2 S8b
        generalize w2.alloc (.cells #[.int .i64 k',.int .i64 fk,.int .u64 fa] 33) = V2 at *
        generalize w2.heap.size = t9 at *
        obtain ⟨e0,e1,e2⟩:=three_at S9.out
        by_cases hz:k' = 0
        · subst hz
          go_wp2_with fail
          refine ⟨⟨k + 1,n + 9,K2,s',M',st',by omega,by go_num,by omega,SO2.out,OLD2.out,B3.out⟩,?_⟩
          simp only [intOf];omega
        · have hz':=nin hz
          obtain ⟨rfl,rfl⟩:=G1.out.stop hz
          have HAG:=hid (G1.out.again hz);clear G1
          have ct:=SO2.out.state
          unfold addr0 at ct
          go_wp2_with fail
          with_reducible refine ct.mono ?_
          rintro e wB ⟨rfl,kB⟩
          have hsn:=store47new wB s.rest.pc s.rest.xs s.rest.ha s.rest.hn hxl
          clear e0 e1 e2 ct
          go_upto_region 11 with (first | (refine wplS _ rfl (.tmp 10) (.tmp 33) 47 rfl _ _ rfl rfl hsn ?_) | fail)
          (try simp only [Act.put])
          have k10:=kB.trans (Bl.new wB (.cells (stV s.rest.pc s.rest.xs s.rest.ha s.rest.hn).toArray 47))
          have S10:=hid (st_new wB s.rest.pc s.rest.xs s.rest.ha s.rest.hn hxl)
          have L3:=SO2.out.lt
          have hs3:=kB.size
          have h83:=S8c.out.lt
          have h93:=lt_at S9.out
          obtain ⟨K3,s3,i3,j3⟩:=SO2.out.more k10
          have SO3:=hid s3;clear s3
          have B4:=hid (B3.out.trans k10)
          have OLD3:=hid (fun b hb_=>i3 b (OLD2.out b hb_))
          have KT8c:=hid (i3 _ KT8b.out)
          have KT9c:=hid (i3 _ KT9.out)
          have KT10:=hid (j3 wB.heap.size hs3 S10.out.lt)
          have N10:Hid (wB.heap.size ≠ hb∧wB.heap.size ≠ B):=hid ⟨by omega,by omega⟩
          have ND:Hid (wB.heap.size ≠ t8∧t9 ≠ t8):=hid ⟨by omega,D98.out⟩
          have S8d:=hid (S8c.out.bl k10)
          have S9d:=hid (k10.at_ S9.out)
          clear hsn k10 i3 j3 B3 OLD2 KT8b KT9 L3 hs3 SO2 kB S8c S9 h83 h93
          generalize wB.alloc (.cells (stV s.rest.pc s.rest.xs s.rest.ha s.rest.hn).toArray 47) = V3 at *
          generalize wB.heap.size = t10 at *
          obtain ⟨c0,c1⟩:=S10.out.hold
          obtain ⟨d0,d1⟩:=S8d.out.hold
          have z0:=S8d.out.free
          go_upto_region 12 with (fail)
          have f4:Fr (only t8) V3 ((V3.setCell ⟨t8,33,none⟩ (.int .u64 s.rest.ha)).setCell ⟨t8,34,none⟩ (.int .i64 s.rest.hn)):=(Fr.set (S:=only t8) (p:=⟨t8,33,none⟩) rfl _).trans (Fr.set (S:=only t8) (p:=⟨t8,34,none⟩) rfl _)
          obtain ⟨K4,s4,i4,j4⟩:=SO3.out.moreFr f4 (fun b hb_ e=>by rw [show b = t8 from e];exact ⟨KT8c.out,N8.out.1,N8.out.2.2.1,N8.out.2.1,N8.out.2.2.2⟩)
          have SO4:=hid s4;clear s4
          have T4:=hid SO4.out.tabs
          have KV:Hid (KS ((V3.setCell ⟨t8,33,none⟩ (.int .u64 s.rest.ha)).setCell ⟨t8,34,none⟩ (.int .i64 s.rest.hn)) t8 t10 t9 s k' fk fa):=hid ⟨S8d.out.setHold s.rest.ha s.rest.hn,S10.out.fr f4 ND.out.1,f4.at_ S9d.out ND.out.2⟩
          have OLD4:=hid (fun b hb_=>i4 b (OLD3.out b hb_))
          have B5:=hid (bl_fr' B4.out f4 (fun q hq e=>by have e3:q = t8:=e;have:=W8.out;omega))
          have KT:=hid (And.intro (i4 _ KT8c.out) (And.intro (i4 _ KT9c.out) (i4 _ KT10.out)))
          clear c0 c1 d0 d1 z0 f4 i4 j4 SO3 B4 OLD3 KT8c KT9c KT10 S8d S9d S10
          generalize ((V3.setCell ⟨t8,33,none⟩ (.int .u64 s.rest.ha)).setCell ⟨t8,34,none⟩ (.int .i64 s.rest.hn)) = V4 at *
          refine wp_region_hd 18 (fun w'=>KS w' t8 t10 t9 s k' fk fa) (by kernel_rfl) (by decide) (KV.out.bl (Bl.refl _).drew) (fun hHeld=>?_)
          refine wpHd_one (i:=0) rfl (by kernel_rfl) (fun K hK=>?_)
          go_simp
          refine (answers_any V4.drew (T4.out.bl (Bl.refl _).drew)).mono ?_
          rintro e wa ⟨rfl,ka⟩
          refine hK.out _ _ ?_ (fun hHeld=>?_)
          · exact hHeld.bl ka
          clear hK K
          (try simp only [Act.put,List.getElem_toArray,List.getElem_cons_zero,List.getElem_cons_succ,List.setIfInBounds_toArray,List.set_cons_zero,List.set_cons_succ])
          have SOA:=hid (SO4.out.bl ((Bl.refl V4).drew.trans ka))
          have KA:=hid (B5.out.trans ((Bl.refl V4).drew.trans ka));clear ka
          refine wpHd_take (i:=1) (v:=?_) rfl (by kernel_rfl) (fun _ _ _ h=>h) (Or.inl ⟨by rfl,?hy⟩) hHeld ?_
          case hy=>(intro w hSw;(try dsimp only at hSw);go_split_ands;go_simp;try (with_reducible rfl))
          (try simp only [Act.put,List.getElem_toArray,List.getElem_cons_zero,List.getElem_cons_succ,List.setIfInBounds_toArray,List.set_cons_zero,List.set_cons_succ])
          refine wpHd_take (i:=2) (v:=.agg (stV s.pc s.xs 0 0).toArray) rfl (by kernel_rfl) (fun _ _ _ h=>h) (y_load (by rfl) (.tmp 10) 47 rfl _ _ rfl (fun w' hw=>hw.b.load)) hHeld ?_
          (try simp only [Act.put,List.getElem_toArray,List.getElem_cons_zero,List.getElem_cons_succ,List.setIfInBounds_toArray,List.set_cons_zero,List.set_cons_succ])
          refine wpHd_take (i:=3) (v:=.agg (stV s.pc s.xs 0 0).toArray) rfl (by kernel_rfl) (fun _ _ _ h=>h) (y_load (by rfl) (.tmp 8) 47 rfl _ _ rfl (fun w' hw=>hw.a.load)) hHeld ?_
          (try simp only [Act.put,List.getElem_toArray,List.getElem_cons_zero,List.getElem_cons_succ,List.setIfInBounds_toArray,List.set_cons_zero,List.set_cons_succ])
          refine wpHd_take (i:=4) (v:=.bool true) rfl (by kernel_rfl) (fun _ _ _ h=>h) (y_eql (by rfl) 47 47 (.tmp 39) (.tmp 40) rfl _ _ true rfl rfl (fun w'=>run_eqGuard_agg w' _ _ _ _ _ _ Tryz.eqGuardType47) (fun w'=>state_eql s.pc 0 0 hxl w')) hHeld ?_
          (try simp only [Act.put,List.getElem_toArray,List.getElem_cons_zero,List.getElem_cons_succ,List.setIfInBounds_toArray,List.set_cons_zero,List.set_cons_succ])
          refine wpHd_take (i:=5) (v:=?_) rfl (by kernel_rfl) (fun _ _ _ h=>h) (Or.inl ⟨by rfl,?hy⟩) hHeld ?_
          case hy=>(intro w hSw;(try dsimp only at hSw);go_split_ands;go_simp;try (with_reducible rfl))
          (try simp only [Act.put,List.getElem_toArray,List.getElem_cons_zero,List.getElem_cons_succ,List.setIfInBounds_toArray,List.set_cons_zero,List.set_cons_succ])
          refine wpHd_take (i:=6) (v:=?_) rfl (by kernel_rfl) (fun _ _ _ h=>h) (Or.inl ⟨by rfl,?hy⟩) hHeld ?_
          case hy=>(intro w hSw;(try dsimp only at hSw);go_split_ands;go_simp;try (with_reducible rfl))
          (try simp only [Act.put,List.getElem_toArray,List.getElem_cons_zero,List.getElem_cons_succ,List.setIfInBounds_toArray,List.set_cons_zero,List.set_cons_succ])
          refine wpHd_take (i:=7) (v:=?_) rfl (by kernel_rfl) (fun _ _ _ h=>h) (Or.inl ⟨by rfl,?hy⟩) hHeld ?_
          case hy=>(intro w hSw;(try dsimp only at hSw);go_split_ands;go_simp;try (with_reducible rfl))
          (try simp only [Act.put,List.getElem_toArray,List.getElem_cons_zero,List.getElem_cons_succ,List.setIfInBounds_toArray,List.set_cons_zero,List.set_cons_succ])
          refine wpHd_take (i:=8) (v:=?_) rfl (by kernel_rfl) (fun _ _ _ h=>h) (Or.inl ⟨by rfl,?hy⟩) hHeld ?_
          case hy=>(intro w hSw;(try dsimp only at hSw);go_split_ands;go_simp;try (with_reducible rfl))
          (try simp only [Act.put,List.getElem_toArray,List.getElem_cons_zero,List.getElem_cons_succ,List.setIfInBounds_toArray,List.set_cons_zero,List.set_cons_succ])
          refine wpHd_take (i:=9) (v:=?_) rfl (by kernel_rfl) (fun _ _ _ h=>h) (Or.inl ⟨by rfl,?hy⟩) hHeld ?_
          case hy=>(intro w' hSw;have h34:=hSw.b.hold.2;go_simp;try (with_reducible rfl))
          (try simp only [Act.put,List.getElem_toArray,List.getElem_cons_zero,List.getElem_cons_succ,List.setIfInBounds_toArray,List.set_cons_zero,List.set_cons_succ])
          refine wpHd_take (i:=10) (v:=?_) rfl (by kernel_rfl) (fun _ _ _ h=>h) (Or.inl ⟨by rfl,?hy⟩) hHeld ?_
          case hy=>(intro w hSw;(try dsimp only at hSw);go_split_ands;go_simp;try (with_reducible rfl))
          (try simp only [Act.put,List.getElem_toArray,List.getElem_cons_zero,List.getElem_cons_succ,List.setIfInBounds_toArray,List.set_cons_zero,List.set_cons_succ])
          refine wpHd_take (i:=11) (v:=?_) rfl (by kernel_rfl) (fun _ _ _ h=>h) (Or.inl ⟨by rfl,?hy⟩) hHeld ?_
          case hy=>(intro w hSw;(try dsimp only at hSw);go_split_ands;go_simp;try (with_reducible rfl))
          (try simp only [Act.put,List.getElem_toArray,List.getElem_cons_zero,List.getElem_cons_succ,List.setIfInBounds_toArray,List.set_cons_zero,List.set_cons_succ])
          refine wpHd_take (i:=12) (v:=?_) rfl (by kernel_rfl) (fun _ _ _ h=>h) (Or.inl ⟨by rfl,?hy⟩) hHeld ?_
          case hy=>(intro w hSw;(try dsimp only at hSw);go_split_ands;go_simp;try (with_reducible rfl))
          (try simp only [Act.put,List.getElem_toArray,List.getElem_cons_zero,List.getElem_cons_succ,List.setIfInBounds_toArray,List.set_cons_zero,List.set_cons_succ])
          refine wpHd_take (i:=13) (v:=?_) rfl (by kernel_rfl) (fun _ _ _ h=>h) (Or.inl ⟨by rfl,?hy⟩) hHeld ?_
          case hy=>(intro w hSw;(try dsimp only at hSw);go_split_ands;go_simp;try (with_reducible rfl))
          (try simp only [Act.put,List.getElem_toArray,List.getElem_cons_zero,List.getElem_cons_succ,List.setIfInBounds_toArray,List.set_cons_zero,List.set_cons_succ])
          refine wpHd_take (i:=15) (v:=?_) rfl (by kernel_rfl) (fun _ _ _ h=>h) (Or.inl ⟨by rfl,?hy⟩) hHeld ?_
          case hy=>(intro w' hSw;obtain ⟨e0,e1,e2⟩:=three_at hSw.c;go_simp;try (with_reducible rfl))
          (try simp only [Act.put,List.getElem_toArray,List.getElem_cons_zero,List.getElem_cons_succ,List.setIfInBounds_toArray,List.set_cons_zero,List.set_cons_succ])
          have cz:=SOA.out.step (by omega)
          unfold addr0 at cz
          refine wpHd_one (i:=14) rfl (by kernel_rfl) (fun K hK=>?_)
          go_simp
          refine (cz).mono ?_
          rintro e wb ⟨k3,fk3,fa3,s3,M3,st3,q1,rfl,q2,q3⟩;obtain ⟨rfl,rfl,rfl,rfl,rfl⟩:=q1.one HAG.out
          refine hK.out _ _ ?_ (fun hHeld=>?_)
          · exact hHeld.fr q3 (no3 (K:=fun b=>K4 b ∨ (V4.heap.size ≤ b∧b < wa.heap.size)) (.inl KT.out.1) N8.out.1 N8.out.2.1) (no3 (K:=fun b=>K4 b ∨ (V4.heap.size ≤ b∧b < wa.heap.size)) (.inl KT.out.2.2) N10.out.1 N10.out.2) (no3 (K:=fun b=>K4 b ∨ (V4.heap.size ≤ b∧b < wa.heap.size)) (.inl KT.out.2.1) N9.out.1 N9.out.2)
          clear hK K
          (try simp only [Act.put,List.getElem_toArray,List.getElem_cons_zero,List.getElem_cons_succ,List.setIfInBounds_toArray,List.set_cons_zero,List.set_cons_succ])
          refine wpHd_take (i:=16) (v:=.bool true) rfl (by kernel_rfl) (fun _ _ _ h=>h) (y_eql (by rfl) 33 33 (.tmp 51) (.tmp 52) rfl _ _ true rfl rfl (fun w'=>run_eqGuard_agg w' _ _ _ _ _ _ Tryz.eqGuardType33) (fun w'=>stop_eql k3 fk3 fa3 w')) hHeld ?_
          (try simp only [Act.put,List.getElem_toArray,List.getElem_cons_zero,List.getElem_cons_succ,List.setIfInBounds_toArray,List.set_cons_zero,List.set_cons_succ])
          refine wpHd_take (i:=17) (v:=?_) rfl (by kernel_rfl) (fun _ _ _ h=>h) (Or.inl ⟨by rfl,?hy⟩) hHeld ?_
          case hy=>(intro w hSw;(try dsimp only at hSw);go_split_ands;go_simp;try (with_reducible rfl))
          (try simp only [Act.put,List.getElem_toArray,List.getElem_cons_zero,List.getElem_cons_succ,List.setIfInBounds_toArray,List.set_cons_zero,List.set_cons_succ])
          refine ⟨by kernel_rfl,?_⟩
          simp only [List.drop_succ_cons,List.drop_zero]
          have BW:=hid (bl_fr' KA.out q3 (fun q hq=>no3 (K:=fun b=>K4 b ∨ (V4.heap.size ≤ b∧b < wa.heap.size)) (.inl (OLD4.out q hq)) (by have:=LO.out.1;omega) (by have:=LO.out.2;omega)))
          go_wp2_with fail
          go_ret
          exact ⟨rfl,BW.out⟩
      · obtain rfl:k = 200:=by omega
        go_wp2_with fail
        with_reducible refine (answers_any wr SO.out.tabs).mono ?_
        rintro e w2 ⟨rfl,k2⟩
        go_wp2_with fail
        go_ret
        exact ⟨rfl,BL1.out.trans k2⟩
end Go.Proofs.YtlhpodholnfppaaGreatDoor

namespace Go.Proofs.YtlhpodholnfppaaGreatDoor
open Go.RowKit
set_option maxRecDepth 100000
inductive Iter (L:List Rg) (M:Nat → Int) (s:St):Nat → (Nat → Int) → St → Prop
  | zero:Iter L M s 0 M s
  | succ {n:Nat} {M1 M2:Nat → Int} {s1 s2:St} {fk fa:Int}:Iter L M s n M1 s1 → MacIs L M1 s1 0 fk fa s2 M2 → Iter L M s (n + 1) M2 s2
section
variable {L:List Rg} {M:Nat → Int} {s:St}
theorem Iter.one {n:Nat} {M1 M2:Nat → Int} {s1 s2:St} (h:Iter L M s n M1 s1) (g:Iter L M s n M2 s2):M1 = M2∧s1 = s2:=by
  induction h generalizing M2 s2 with
  | zero=>cases g;exact ⟨rfl,rfl⟩
  | succ h1 h2 ih =>
    cases g with
    | succ g1 g2 =>
      obtain ⟨rfl,rfl⟩:=ih g1
      obtain ⟨_,_,_,rfl,rfl⟩:=h2.one g2
      exact ⟨rfl,rfl⟩
theorem Iter.join {n m:Nat} {M1 M2:Nat → Int} {s1 s2:St} (h:Iter L M s n M1 s1) (g:Iter L M1 s1 m M2 s2):Iter L M s (n + m) M2 s2:=by
  induction g with
  | zero=>exact h
  | succ g1 g2 ih=>exact Iter.succ ih g2
theorem Iter.at_ {n:Nat} {M1:Nat → Int} {s1:St} (h:Iter L M s n M1 s1) {m:Nat} (hm:m < n):∃ M2 s2 M3 s3 fk fa,Iter L M s m M2 s2∧MacIs L M2 s2 0 fk fa s3 M3:=by
  induction h with
  | zero=>omega
  | @succ n M1 M2 s1 s2 fk fa h1 h2 ih =>
    by_cases he:m = n
    · subst he;exact ⟨_,_,_,_,_,_,h1,h2⟩
    · exact ih (by omega)
def RunIs (L:List Rg) (M:Nat → Int) (s:St) (f:Nat) (k fk fa:Int) (u:Nat) (s':St) (M':Nat → Int):Prop:=
  ∃ M1 s1,Iter L M s u M1 s1∧((u = f∧k = 6∧fk = 0∧fa = 0∧s' = s1∧M' = M1) ∨ (u < f∧k ≠ 0∧MacIs L M1 s1 k fk fa s' M'))
theorem RunIs.one {f u u':Nat} {k fk fa k' fk' fa':Int} {s1 s2:St} {M1 M2:Nat → Int} (h:RunIs L M s f k fk fa u s1 M1) (g:RunIs L M s f k' fk' fa' u' s2 M2):k = k'∧fk = fk'∧fa = fa'∧u = u'∧s1 = s2∧M1 = M2:=by
  obtain ⟨N1,r1,h1,h2⟩:=h
  obtain ⟨N2,r2,g1,g2⟩:=g
  have key:∀ {u u':Nat} {k fk fa k' fk' fa':Int} {s1 s2 r1 r2:St} {M1 M2 N1 N2:Nat → Int},Iter L M s u N1 r1 → ((u = f∧k = 6∧fk = 0∧fa = 0∧s1 = r1∧M1 = N1) ∨ (u < f∧k ≠ 0∧MacIs L N1 r1 k fk fa s1 M1)) → Iter L M s u' N2 r2 → u' ≤ f → ¬ u < u':=by
    intro u u' k fk fa k' fk' fa' s1 s2 r1 r2 M1 M2 N1 N2 h1 h2 g1 hf hlt
    obtain ⟨M3,s3,M4,s4,a,b,q1,q2⟩:=g1.at_ hlt
    obtain ⟨rfl,rfl⟩:=h1.one q1
    rcases h2 with ⟨e,_⟩ | ⟨_,h3,h4⟩
    · omega
    · exact h3 (h4.one q2).1
  have hu:u ≤ f:=by rcases h2 with ⟨e,_⟩ | ⟨e,_⟩ <;> omega
  have hu':u' ≤ f:=by rcases g2 with ⟨e,_⟩ | ⟨e,_⟩ <;> omega
  have e1:=key (k':=k) (fk':=k) (fa':=k) (s2:=s1) (M2:=M1) h1 h2 g1 hu'
  have e2:=key (k':=k) (fk':=k) (fa':=k) (s2:=s1) (M2:=M1) g1 g2 h1 hu
  obtain rfl:u = u':=by omega
  obtain ⟨rfl,rfl⟩:=h1.one g1
  rcases h2 with ⟨e,rfl,rfl,rfl,rfl,rfl⟩ | ⟨e,h3,h4⟩ <;> rcases g2 with ⟨e',rfl,rfl,rfl,rfl,rfl⟩ | ⟨e',g3,g4⟩
  · exact ⟨rfl,rfl,rfl,rfl,rfl,rfl⟩
  · omega
  · omega
  · obtain ⟨rfl,rfl,rfl,rfl,rfl⟩:=h4.one g4
    exact ⟨rfl,rfl,rfl,rfl,rfl,rfl⟩
theorem MacIs.ne6 {k fk fa:Int} {s1:St} {M1:Nat → Int} (h:MacIs L M s k fk fa s1 M1):k ≠ 6:=by
  cases h with
  | bad A h1 h2 =>
    obtain ⟨y,k,x,h3,rfl⟩:=h1
    unfold ansOf
    split
    · split
      · exact (show (0:Int) ≠ 6 by decide)
      · exact (show (3:Int) ≠ 6 by decide)
    · exact (show (4:Int) ≠ 6 by decide)
  | go A _ _ _ _ _ h1 h2 h3 =>
    cases h3 with
    | atomBad o N h hf h0=>cases hf <;> first | exact absurd rfl h0 | exact (show (3:Int) ≠ 6 by decide) | exact (show (4:Int) ≠ 6 by decide) | exact (show (5:Int) ≠ 6 by decide)
    | _=>decide
theorem RunIs.more {f g u u2:Nat} {k fk fa k' fk' fa':Int} {s1 s2:St} {M1 M2:Nat → Int} (h:RunIs L M s f k fk fa u s1 M1) (hk:k = 6) (q:RunIs L M1 s1 g k' fk' fa' u2 s2 M2):RunIs L M s (f + g) k' fk' fa' (u + u2) s2 M2:=by
  obtain ⟨N1,r1,h1,h2⟩:=h
  rcases h2 with ⟨rfl,_,_,_,rfl,rfl⟩ | ⟨_,_,h4⟩
  · obtain ⟨N2,r2,q1,q2⟩:=q
    refine ⟨N2,r2,h1.join q1,?_⟩
    rcases q2 with ⟨rfl,q2⟩ | ⟨q2,q3⟩
    · exact .inl ⟨rfl,q2⟩
    · exact .inr ⟨by omega,q3⟩
  · exact absurd hk h4.ne6
theorem RunIs.less {f g u:Nat} {k fk fa:Int} {s1:St} {M1:Nat → Int} (h:RunIs L M s f k fk fa u s1 M1) (hk:k ≠ 6):RunIs L M s (f + g) k fk fa u s1 M1:=by
  obtain ⟨N1,r1,h1,h2⟩:=h
  rcases h2 with ⟨_,e,_⟩ | ⟨h2,h3⟩
  · exact absurd e hk
  · exact ⟨N1,r1,h1,.inr ⟨by omega,h3⟩⟩
end
theorem Fr.after {U V:Nat → Prop} {w a b:World} (h:Fr U w a) (f:Fr V a b) (hV:∀ q,q < w.heap.size → V q → U q):Fr U w b:=
  ⟨f.os.trans h.os,f.tape.trans h.tape,f.output.trans h.output,Nat.le_trans h.size f.size,fun q hq hn=>(f.block q (Nat.lt_of_lt_of_le hq h.size) (fun e=>hn (hV q hq e))).trans (h.block q hq hn)⟩
theorem Solo.le {K:Nat → Prop} {w:World} {hb sb cb B n m:Nat} {on:Bool} {s:St} {M st:Nat → Int} (h:Solo K w hb sb cb B n on s M st) (hm:n ≤ m):Solo K w hb sb cb B m on s M st:=by
  obtain ⟨T,h1,h2⟩:=h.ex
  exact ⟨T,⟨h1.ht,h1.regs,h1.pcb,{ h1.base with ms:=h1.base.ms.mono hm }⟩,h2⟩
structure RunAt (K:Nat → Prop) (w:World) (hb sb cb B n:Nat) (on:Bool) (s:St) (M:Nat → Int) (u:Nat) (wr:World):Prop where
  ex:∃ K' s' M' st',Iter l3 M s u M' s'∧Solo K' wr hb sb cb B (n + 9 * u) on s' M' st'∧(∀ b,K b → K' b)∧K' w.heap.size
  res:wr.heap[w.heap.size]? = some (.cells #[.int .i64 0,.int .i64 0,.int .u64 0] 33 (0,0))
  fr:Fr (fun x=>¬ K x ∨ x = hb ∨ x = B) w wr
theorem Solo.run {K:Nat → Prop} {w:World} {hb sb cb B n:Nat} {on:Bool} {s:St} {M st:Nat → Int} (h:Solo K w hb sb cb B n on s M st) (f:Nat) (hf:f < 100000) (hn:n < 70000000) :
    Calls Tryz.prog 18 #[addr0 hb,.int .i64 (f:Int)] w fun e w'=>∃ k fk fa u s' M' st',RunIs l3 M s f k fk fa u s' M'∧e = .returned (.tuple #[stopV k fk fa,.int .i64 (u:Int)])∧Solo K w' hb sb cb B (n + 9 * f + 9) on s' M' st'∧Fr (fun x=>¬ K x ∨ x = hb ∨ x = B) w w':=by
  have k0:=Bl.new w (.cells #[.int .i64 0,.int .i64 0,.int .u64 0] 33)
  have L0:=hid h.lt
  have R0:Hid (RunAt K w hb sb cb B n on s M 0 (w.alloc (.cells #[.int .i64 0,.int .i64 0,.int .u64 0] 33))):=by
    obtain ⟨K1,s1,i1,j1⟩:=h.more k0
    exact hid ⟨⟨K1,s,M,st,Iter.zero,s1,i1,j1 _ (Nat.le_refl _) (by simp)⟩,heap_alloc_new w _,Fr.of_bl k0⟩
  have hfI0:(0:Int) ≤ (f:Int):=by omega
  have hfI:(f:Int) < 100000:=by omega
  have H21:=hid (show 20 < w.heap.size from h.tabs.lt (by decide))
  have HF:=hid hf;clear hf
  have HN:=hid hn;clear hn
  clear h k0
  unfold addr0
  go_enter Tryz.func18,Tryz.ntmps18
  go_upto_region 3 with (fail)
  generalize w.alloc (.cells #[.int .i64 0,.int .i64 0,.int .u64 0] 33) = W at *
  go_loopw [5] (fun i wr=>∃ u:Nat,u ≤ f∧i = .int .i64 u∧RunAt K w hb sb cb B n on s M u wr) (fun i _=>f - (intOf i).toNat)
  case atStart=>exact ⟨0,by omega,rfl,R0.out⟩
  case round =>
    clear R0
    obtain ⟨u,hu,rfl,hr⟩:=hrel
    have huI0:(0:Int) ≤ (u:Int):=by omega
    obtain ⟨K1,s1,M1,st1,g1,g2,g3,g4⟩:=hr.ex
    have IT:=hid g1;clear g1
    have SO:=hid g2;clear g2
    have KI:=hid g3;clear g3
    have KT:=hid g4;clear g4
    have RS:=hid hr.res
    have FR:=hid hr.fr
    clear hr
    by_cases hlt:u < f
    · have hltI:(u:Int) < (f:Int):=by omega
      have cs:=SO.out.step (by have:=HF.out;have:=HN.out;omega)
      unfold addr0 at cs
      go_wp2_with fail
      with_reducible refine cs.mono ?_
      rintro e w2 ⟨k',fk,fa,s',M',st',g1,rfl,g2,g3⟩
      have G1:=hid g1;clear g1 cs
      have NT:¬ (¬ K1 w.heap.size ∨ w.heap.size = hb ∨ w.heap.size = B):=no3 KT.out (by have:=L0.out;omega) (by have:=L0.out;omega)
      have RS2:=hid (g3.at_ RS.out NT)
      have FR2:=hid (FR.out.after g3 (fun q hq e=>e.imp (fun e1 e2=>e1 (KI.out q e2)) id))
      clear g3 SO NT
      unfold stopV
      go_upto_region 5 with (fail)
      have k9:=Bl.new w2 (.cells #[.int .i64 k',.int .i64 fk,.int .u64 fa] 33)
      have S9:=hid (heap_alloc_new w2 (.cells #[.int .i64 k',.int .i64 fk,.int .u64 fa] 33))
      obtain ⟨K2,s2,i2,j2⟩:=g2.more k9
      have SO2:=hid s2;clear s2 g2
      have KI2:=hid (fun b hb_=>i2 b (KI.out b hb_))
      have KT2:=hid (i2 _ KT.out)
      have RS3:=hid (k9.at_ RS2.out)
      have FR3:=hid (FR2.out.trans (Fr.of_bl k9))
      clear k9 i2 j2 RS RS2 FR FR2 KI KT
      generalize w2.alloc (.cells #[.int .i64 k',.int .i64 fk,.int .u64 fa] 33) = V2 at *
      generalize w2.heap.size = t6 at *
      obtain ⟨e0,e1,e2⟩:=three_at S9.out
      by_cases hz:k' = 0
      · subst hz
        have e9:n + 9 * u + 9 = n + 9 * (u + 1):=by omega
        rw [e9] at SO2
        have HR:=hid (RunAt.mk ⟨K2,s',M',st',Iter.succ IT.out G1.out,SO2.out,KI2.out,KT2.out⟩ RS3.out FR3.out)
        clear e9
        go_wp2_with fail
        refine ⟨⟨u + 1,by omega,by go_num,HR.out⟩,?_⟩
        simp only [intOf];omega
      · have hz':=nin hz
        have HU:=hid (And.intro hlt hu);clear hfI0 hfI hltI huI0 hlt hu
        go_upto_region 6 with (fail)
        obtain ⟨d0,d1,d2⟩:=three_at RS3.out
        have z0:=free_at RS3.out
        go_wp2_with fail
        (try simp only [Exit.inBlock,Exit.then])
        have RX:=set3 (.int .i64 k') (.int .i64 fk) (.int .u64 fa) RS3.out
        have fx:Fr (only w.heap.size) V2 (((V2.setCell ⟨w.heap.size,0,none⟩ (.int .i64 k')).setCell ⟨w.heap.size,1,none⟩ (.int .i64 fk)).setCell ⟨w.heap.size,2,none⟩ (.int .u64 fa)):=((Fr.set (S:=only w.heap.size) (p:=⟨w.heap.size,0,none⟩) rfl _).trans (Fr.set (S:=only w.heap.size) (p:=⟨w.heap.size,1,none⟩) rfl _)).trans (Fr.set (S:=only w.heap.size) (p:=⟨w.heap.size,2,none⟩) rfl _)
        refine bodyPost_ret (results_row_tmp rfl _ _ w.heap.size 33 _ (0,0) _ rfl RX Tryz.underlying33 rfl (by kernel_rfl)) rfl ?_
        have hlt:=HU.out.1
        obtain ⟨K3,s3,i3,_⟩:=SO2.out.moreFr fx (fun b hb_ e=>by rw [show b = w.heap.size from e];have:=L0.out;have:=H21.out;exact ⟨KT2.out,by omega,by omega,by omega,by omega⟩)
        exact ⟨k',fk,fa,u,s',M',st',⟨M1,s1,IT.out,.inr ⟨hlt,hz,G1.out⟩⟩,rfl,(s3.less (fun b hb_=>i3 b (KI2.out b hb_))).le (by omega),FR3.out.after fx (fun q hq e=>by have e3:q = w.heap.size:=e;omega)⟩
    · obtain rfl:u = f:=by omega
      obtain ⟨d0,d1,d2⟩:=three_at RS.out
      have z0:=free_at RS.out
      go_wp2_with fail
      (try simp only [Exit.inBlock,Exit.then])
      have RX:=set3 (.int .i64 6) (.int .i64 0) (.int .u64 0) RS.out
      have fx:Fr (only w.heap.size) wr (((wr.setCell ⟨w.heap.size,0,none⟩ (.int .i64 6)).setCell ⟨w.heap.size,1,none⟩ (.int .i64 0)).setCell ⟨w.heap.size,2,none⟩ (.int .u64 0)):=((Fr.set (S:=only w.heap.size) (p:=⟨w.heap.size,0,none⟩) rfl _).trans (Fr.set (S:=only w.heap.size) (p:=⟨w.heap.size,1,none⟩) rfl _)).trans (Fr.set (S:=only w.heap.size) (p:=⟨w.heap.size,2,none⟩) rfl _)
      refine bodyPost_ret (results_row_tmp rfl _ _ w.heap.size 33 _ (0,0) _ rfl RX Tryz.underlying33 rfl (by kernel_rfl)) rfl ?_
      obtain ⟨K3,s3,i3,_⟩:=SO.out.moreFr fx (fun b hb_ e=>by rw [show b = w.heap.size from e];have:=L0.out;have:=H21.out;exact ⟨KT.out,by omega,by omega,by omega,by omega⟩)
      exact ⟨6,0,0,u,s1,M1,st1,⟨M1,s1,IT.out,.inl ⟨rfl,rfl,rfl,rfl,rfl,rfl⟩⟩,rfl,(s3.less (fun b hb_=>i3 b (KI.out b hb_))).le (by omega),FR.out.after fx (fun q hq e=>by have e3:q = w.heap.size:=e;omega)⟩
end Go.Proofs.YtlhpodholnfppaaGreatDoor
