/-
  A region that draws its order, whose last operations wait for all the others: the head in whatever order, loads first, then the tail as it stands. No program in sight.
  Contracts of the forms' helpers that lay pieces into a word.
  What a form holds while it runs: its own instruction, its result, and what moves pieces.
-/
import Derived.StillTail
import Derived.OrdersHeld
import Derived.Deep.RegionHeld
import Derived.Test.YtlhpodholnfppaaGreatDoorT13
import Derived.Lib.Hide
set_option linter.unusedVariables false
set_option linter.unusedSimpArgs false
set_option maxHeartbeats 16000000
open Go.Lib (hid)
namespace Go.Proofs.YtlhpodholnfppaaGreatDoor
open Go

section
variable {P:Program} {ops:Array Oper} {Q:Exit → Act → World → Prop} {md:Region.Mode} {S:World → Prop} {n:Nat} {L:Act → World → Prop}

def wpHd (P:Program) (md:Region.Mode) (ops:Array Oper) (Q:Exit → Act → World → Prop) (S:World → Prop) (n:Nat) (L:Act → World → Prop):Nat → Array Bool → Act → World → Prop
  | 0,listed,a,w=>Region.seqB md ops (ops.size - n) n listed = true∧L a w
  | f + 1,listed,a,w=>Region.ready md ops listed ≠ []∧∀ i ∈ Region.ready md ops listed,i < n∧wpOp P ops Q i (fun a' w'=>S w'∧wpHd P md ops Q S n L f (listed.setIfInBounds i true) a' w') a w

theorem wpAny_of_hd (hL:∀ listed a w,Region.seqB md ops (ops.size - n) n listed = true → L a w → wpAny P md ops Q (ops.size - n) listed a w) :
    ∀ (f:Nat) (listed:Array Bool) (a:Act) (w:World),wpHd P md ops Q S n L f listed a w → wpAny P md ops Q (f + (ops.size - n)) listed a w
  | 0,listed,a,w,h=>by rw [Nat.zero_add];exact hL _ _ _ h.1 h.2
  | f + 1,listed,a,w,h=>by
    rw [show f + 1 + (ops.size - n) = (f + (ops.size - n)) + 1 by omega]
    exact ⟨fun h0=>absurd h0 h.1,fun i hi=>wpOp_mono (fun a' w' h'=>wpAny_of_hd hL f _ a' w' h'.2) (h.2 i hi).2⟩

theorem wpHd_first {i:Nat} {oi:Oper} {v:Value} (hi:ops[i]? = some oi) (hsel:∀ (j:Nat) (o:Oper) cs b,ops[j]? = some o → o.op ≠ .select cs b)
    (hQ:∀ c a w,Q (.panic c) (a.put oi.dst v) w → Q (.panic c) a w)
    (hs:Region.sinkB md ops n = true) (hc:Region.chainB md ops n = true) (hn:n < ops.size) (hin:i < n) :
    ∀ (f:Nat) (listed:Array Bool) (a:Act) (w:World),HeadInv md ops n listed →
      (∀ j oj,ops[j]? = some oj → j ≠ i → listed.getD j true = false → (∀ e ∈ oj.after,Region.binds md e = true → e.on ≠ i) → oi.apart ops oj = true) →
      i ∈ Region.ready md ops listed → YieldsIf P ops S oi v a → S w →
      wpHd P md ops Q S n L f (listed.setIfInBounds i true) (a.put oi.dst v) w → wpHd P md ops Q S n L (f + 1) listed a w:=by
  intro f
  induction f with
  | zero =>
    intro listed a w inv _ hr hy hS H
    have hun:=(mem_ready.1 hr).1
    refine ⟨fun h=>(by rw [h] at hr;cases hr),fun j hj=>?_⟩
    have hjn:j < n:=by
      rcases Nat.lt_or_ge j n with h | h
      · exact h
      · exact absurd hj (tail_waits hs hc hn inv _ i rfl hin hun j h)
    refine ⟨hjn,?_⟩
    by_cases hji:j = i
    · subst hji;exact hy.wpOp hi hS ⟨hS,H⟩
    · have:=seqB_ready H.1 j (ready_mono hj hji)
      omega
  | succ f ih =>
    intro listed a w inv hfree hr hy hS H
    have hun:=(mem_ready.1 hr).1
    refine ⟨fun h=>(by rw [h] at hr;cases hr),fun j hj=>?_⟩
    have hjn:j < n:=by
      rcases Nat.lt_or_ge j n with h | h
      · exact h
      · exact absurd hj (tail_waits hs hc hn inv _ i rfl hin hun j h)
    refine ⟨hjn,?_⟩
    by_cases hji:j = i
    · subst hji;exact hy.wpOp hi hS ⟨hS,H⟩
    · have h1:=(H.2 j (ready_mono hj hji)).2
      obtain ⟨hjun,oj,hoj,hall⟩:=mem_ready.1 hj
      have hnot:∀ e ∈ oj.after,Region.binds md e = true → e.on ≠ i:=fun e he hb heq=>by
        have h1:=hall e he hb
        rw [heq,getD_both hun] at h1
        cases h1
      have h2:=wpOp_putIf hoj (hfree j oj hoj hji hjun hnot) (fun cs b=>hsel i oi cs b hi) (fun cs b=>hsel j oj cs b hoj) hQ hy h1
      have hfree':∀ k ok,ops[k]? = some ok → k ≠ i → (listed.setIfInBounds j true).getD k true = false →
          (∀ e ∈ ok.after,Region.binds md e = true → e.on ≠ i) → oi.apart ops ok = true:=fun k ok hk hki hun hno=>by
        refine hfree k ok hk hki ?_ hno
        by_cases hjk:j = k
        · subst hjk;exact hjun
        · rw [getD_set_ne true hjk] at hun;exact hun
      refine wpOp_mono (fun a' w' h3=>⟨h3.2.1,ih (listed.setIfInBounds j true) a' w' (inv.set hj hjn) hfree' (ready_mono hr (Ne.symm hji)) h3.1 h3.2.1 ?_⟩) h2
      rw [Array.setIfInBounds_comm _ _ hji]
      exact h3.2.2

def headB (md:Region.Mode) (ops:Array Oper) (n:Nat) (listed:Array Bool):Bool:=
  decide (listed.size = ops.size) &&
  ((List.range ops.size).all fun j=>!(listed.getD j false) || match ops[j]? with | some oj=>oj.after.all fun e=>!(Region.binds md e) || listed.getD e.on false | none=>true) &&
  ((List.range ops.size).all fun t=>decide (t < n) || !(listed.getD t true))
theorem headB_spec {listed:Array Bool} (h:headB md ops n listed = true):HeadInv md ops n listed:=by
  simp only [headB,Bool.and_eq_true,decide_eq_true_eq,List.all_eq_true,List.mem_range] at h
  obtain ⟨⟨h1,h2⟩,h3⟩:=h
  refine ⟨h1,fun j oj hj hl e he hb=>?_,fun t ht ht'=>?_⟩
  · have:=h2 j (Array.getElem?_eq_some_iff.1 hj).1
    rw [hl,hj] at this
    have h5:(oj.after.all fun e=>!(Region.binds md e) || listed.getD e.on false) = true:=by simpa only [Bool.not_true,Bool.false_or] using this
    have h4:=Array.all_eq_true_iff_forall_mem.1 h5 e he
    rw [hb] at h4
    simpa only [Bool.not_true,Bool.false_or] using h4
  · have:=h3 t ht'
    simp only [Bool.or_eq_true,decide_eq_true_eq,Bool.not_eq_true'] at this
    rcases this with h | h
    · omega
    · exact h

def takeB (md:Region.Mode) (ops:Array Oper) (n:Nat) (listed:Array Bool) (i:Nat):Bool:=
  Region.noSelect ops && Region.sinkB md ops n && Region.chainB md ops n && decide (n < ops.size) && decide (i < n) && headB md ops n listed && Region.free md ops listed i && (Region.ready md ops listed).contains i

theorem wpHd_take {i:Nat} {oi:Oper} {v:Value} {f:Nat} {listed:Array Bool} {a:Act} {w:World} (hi:ops[i]? = some oi) (hB:takeB md ops n listed i = true)
    (hQ:∀ c a w,Q (.panic c) (a.put oi.dst v) w → Q (.panic c) a w) (hy:YieldsIf P ops S oi v a) (hS:S w)
    (h:wpHd P md ops Q S n L f (listed.setIfInBounds i true) (a.put oi.dst v) w):wpHd P md ops Q S n L (f + 1) listed a w:=by
  simp only [takeB,Bool.and_eq_true,decide_eq_true_eq] at hB
  obtain ⟨⟨⟨⟨⟨⟨⟨h1,h2⟩,h3⟩,h4⟩,h5⟩,h6⟩,h7⟩,h8⟩:=hB
  exact wpHd_first hi (Region.noSelect_spec h1) hQ h2 h3 h4 h5 f listed a w (headB_spec h6) (Region.free_spec hi h7) (by simpa using h8) hy hS h

theorem wpHd_one {i:Nat} {o:Oper} {f:Nat} {listed:Array Bool} {a:Act} {w:World} (ho:ops[i]? = some o) (hB:(decide (Region.ready md ops listed = [i]) && decide (i < n)) = true)
    (h:∀ K':Act → World → Prop,Shut (∀ a w,S w → (S w → wpHd P md ops Q S n L f (listed.setIfInBounds i true) a w) → K' a w) → if Region.wanted o (yielded ops a.tmps) = true then Oper.wp P o a w K' Q else K' (a.put o.dst undef) w) :
    wpHd P md ops Q S n L (f + 1) listed a w:=by
  simp only [Bool.and_eq_true,decide_eq_true_eq] at hB
  refine ⟨by rw [hB.1];simp,fun j hj=>?_⟩
  rw [hB.1] at hj
  obtain rfl:j = i:=by simpa using hj
  exact ⟨hB.2,wpOp_step ho (fun K' hK=>h K' (fun a w hS hW=>hK a w ⟨hS,hW hS⟩))⟩

theorem wp_region_hd {id:Nat} {l:List Oper} {a:Act} {w:World} (n:Nat) (S:World → Prop) (hm:P.follows .mixedOrders = true) (hn:n < l.length) (hS:S w.drew)
    (h:S w.drew → wpHd P .any l.toArray Q S n (fun a' w'=>wpList P l.toArray Q (l.drop n) a' w') n (Array.replicate l.toArray.size false) a w.drew):(Code.region id l.toArray true).wp P Q a w:=by
  have hdl:(l.drop n).length = l.toArray.size - n:=by simp
  refine wp_region_any hm ?_
  have:=wpAny_of_hd (P:=P) (md:=.any) (ops:=l.toArray) (Q:=Q) (S:=S) (n:=n) (fun listed a' w' hB hL=>by
    have:=wpAny_of_seq (md:=.any) (Q':=Q) (l.drop n) n listed a' w' (fun j=>by simp [List.getElem?_drop]) (by rw [hdl];exact hB) hL
    rwa [hdl] at this) _ _ _ _ (h hS)
  rw [show n + (l.toArray.size - n) = l.toArray.size by simp;omega] at this
  exact this
end
end Go.Proofs.YtlhpodholnfppaaGreatDoor

namespace Go.Proofs.YtlhpodholnfppaaGreatDoor.Td
open Go.RowKit

end Go.Proofs.YtlhpodholnfppaaGreatDoor.Td

namespace Go.Proofs.YtlhpodholnfppaaGreatDoor.Td
open Go.RowKit
abbrev I7 (op rd r1 r2 im od sz:Int):Array Value:=#[.int .i64 op,.int .i64 rd,.int .i64 r1,.int .i64 r2,.int .i64 im,.int .i64 od,.int .i64 sz]

structure FrT (w:World) (c s:Nat) (cs:Array Value) (w1:World):Prop where
  kp:Kp none w w1
  box:Has w1 w.heap.size 38 cs
  res:Has w1 (w.heap.size + 1) 38 (I7 0 0 0 0 0 0 0)
  mv:Has w1 c 39 #[.int .u32 s]
  lt:c < w.heap.size
theorem FrT.start {w:World} {c s:Nat} (cs:Array Value) (h:Has w c 39 #[.int .u32 s]) :
    FrT w c s cs ((w.alloc (.cells cs 38)).alloc (.cells (I7 0 0 0 0 0 0 0) 38)):=
  ⟨((Kp.refl _ _).alloc _ _).alloc _ _,(Has.new _ _ _).alloc _,by have:=Has.new (w.alloc (.cells cs 38)) (I7 0 0 0 0 0 0 0) 38;simpa using this,(h.alloc _).alloc _,h.lt⟩
theorem FrT.call {w w1 w2:World} {c s:Nat} {cs:Array Value} (h:FrT w c s cs w1) (k:Kp none w1 w2):FrT w c s cs w2:=
  ⟨h.kp.trans k,h.box.kp k (by simp),h.res.kp k (by simp),h.mv.kp k (by simp),h.lt⟩
theorem FrT.set {w w1:World} {c s:Nat} {cs:Array Value} (h:FrT w c s cs w1) (i:Nat) (u:Value):FrT w c s (cs.setIfInBounds i u) (w1.setCell ⟨w.heap.size,i,none⟩ u):=
  ⟨h.kp.setCell (Or.inl (Nat.le_refl _)) _,h.box.set i u,h.res.other (by show w.heap.size + 1 ≠ w.heap.size;omega) _,h.mv.other (by have:=h.lt;show c ≠ w.heap.size;omega) _,h.lt⟩
theorem Has.seven {w:World} {b:Nat} {op rd r1 r2 im od sz:Int} (h:Has w b 38 (I7 op rd r1 r2 im od sz)) :
    w.cell? ⟨b,0,none⟩ = some (.int .i64 op)∧w.cell? ⟨b,1,none⟩ = some (.int .i64 rd)∧w.cell? ⟨b,2,none⟩ = some (.int .i64 r1)∧w.cell? ⟨b,3,none⟩ = some (.int .i64 r2) ∧
    w.cell? ⟨b,4,none⟩ = some (.int .i64 im)∧w.cell? ⟨b,5,none⟩ = some (.int .i64 od)∧w.cell? ⟨b,6,none⟩ = some (.int .i64 sz):=
  ⟨h.cell 0,h.cell 1,h.cell 2,h.cell 3,h.cell 4,h.cell 5,h.cell 6⟩

theorem FrT.drew {w w1:World} {c s:Nat} {cs:Array Value} (h:FrT w c s cs w1):FrT w c s cs w1.drew:=⟨h.kp.drew,h.box,h.res,h.mv,h.lt⟩
theorem Has.seven_set {w:World} {b:Nat} (h:Has w b 38 (I7 0 0 0 0 0 0 0)) (v0 v1 v2 v3 v4 v5 v6:Value):Has (((((((w.setCell ⟨b,0,none⟩ v0).setCell ⟨b,1,none⟩ v1).setCell ⟨b,2,none⟩ v2).setCell ⟨b,3,none⟩ v3).setCell ⟨b,4,none⟩ v4).setCell ⟨b,5,none⟩ v5).setCell ⟨b,6,none⟩ v6) b 38 #[v0,v1,v2,v3,v4,v5,v6]:=by
  have:=((((((h.set 0 v0).set 1 v1).set 2 v2).set 3 v3).set 4 v4).set 5 v5).set 6 v6
  exact this
theorem Kp.seven_set {o:Option Nat} {a w:World} (h:Kp o a w) {b:Nat} (hb:a.heap.size ≤ b) (v0 v1 v2 v3 v4 v5 v6:Value):Kp o a (((((((w.setCell ⟨b,0,none⟩ v0).setCell ⟨b,1,none⟩ v1).setCell ⟨b,2,none⟩ v2).setCell ⟨b,3,none⟩ v3).setCell ⟨b,4,none⟩ v4).setCell ⟨b,5,none⟩ v5).setCell ⟨b,6,none⟩ v6):=
  ((((((h.setCell (Or.inl hb) v0).setCell (Or.inl hb) v1).setCell (Or.inl hb) v2).setCell (Or.inl hb) v3).setCell (Or.inl hb) v4).setCell (Or.inl hb) v5).setCell (Or.inl hb) v6

end Go.Proofs.YtlhpodholnfppaaGreatDoor.Td
