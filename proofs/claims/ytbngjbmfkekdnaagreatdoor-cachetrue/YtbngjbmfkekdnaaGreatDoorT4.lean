/-
  A store of pages in memory: its block, its map of pages, its map of stamps, the pages' blocks; what is read of it; what a call may turn.
  Spans: below, within, empty, first, last, wide.
  New, Held, and what a store without places is asked; a page's stamp; a page that is held from now on.
-/
import Derived.Test.YtbngjbmfkekdnaaGreatDoorT1
import Derived.Test.YtbngjbmfkekdnaaGreatDoorT3
import Derived.Deep.QuietTactic
import Derived.BigQuiet
import Derived.Deep.RegionHeld3
import Derived.StillTailTactics
import Derived.Deep.Cut
import Derived.Shelf.SlMaps.Clone
import Derived.Lib.Hide
set_option linter.unusedVariables false
set_option linter.unusedSimpArgs false
set_option maxHeartbeats 16000000
open Go.Lib (hid)
namespace Go.Proofs.YtbngjbmfkekdnaaGreatDoor
open Go.RowKit
set_option maxRecDepth 100000

theorem cells_ty {a b:Array Value} {t u:TypeId} {f g:Nat × Nat} (h:some (Obj.cells a t f) = some (Obj.cells b u g)):t = u:=by
  injection h with h;injection h
theorem Fr.grown {S:Nat → Prop} {a b:World} {r:Option Nat} (h:a.grownBy b r) (hr:∀ k,r = some k → S k):Fr S a b:=
  ⟨h.os,h.tape,h.output,h.size,fun k hk hn=>h.block k hk (fun e=>hn (hr k e.symm))⟩
def pageOf (M:Nat → Int) (p:Nat):List Int:=(List.range 4096).map fun o=>M (p * 4096 + o)
theorem pageOf_length (M:Nat → Int) (p:Nat):(pageOf M p).length = 4096:=by simp [pageOf]
theorem pageOf_get (M:Nat → Int) (p o:Nat) (h:o < 4096):(pageOf M p)[o]? = some (M (p * 4096 + o)):=by simp [pageOf,List.getElem?_range h]
def lay (M:Nat → Int) (a:Nat) (cs:List Int):Nat → Int:=fun x=>if a ≤ x∧x < a + cs.length then cs.getD (x - a) 0 else M x
theorem lay_nil (M:Nat → Int) (a:Nat):lay M a [] = M:=by funext x;simp only [lay,List.length_nil];rw [if_neg (by omega)]
theorem lay_at (M:Nat → Int) (a:Nat) (cs:List Int) (i:Nat) (h:i < cs.length):lay M a cs (a + i) = cs.getD i 0:=by
  simp only [lay];rw [if_pos (by omega),Nat.add_sub_cancel_left]
theorem lay_out (M:Nat → Int) (a:Nat) (cs:List Int) (x:Nat) (h:x < a ∨ a + cs.length ≤ x):lay M a cs x = M x:=by
  simp only [lay];rw [if_neg (by omega)]
theorem lay_lay (M:Nat → Int) (a:Nat) (cs ds:List Int):lay (lay M a cs) (a + cs.length) ds = lay M a (cs ++ ds):=by
  funext x
  simp only [lay,List.length_append,List.getD_eq_getElem?_getD,List.getElem?_append]
  by_cases h1:a + cs.length ≤ x∧x < a + cs.length + ds.length
  · rw [if_pos h1,if_pos (by omega),if_neg (by omega)]
    congr 2;omega
  · rw [if_neg h1]
    by_cases h2:a ≤ x∧x < a + cs.length
    · rw [if_pos h2,if_pos (by omega),if_pos (by omega)]
    · rw [if_neg h2,if_neg (by omega)]
theorem pageOf_lay (M:Nat → Int) (p off:Nat) (cs:List Int) (h:off + cs.length ≤ 4096):pageOf (lay M (p * 4096 + off) cs) p = splice (pageOf M p) off cs:=by
  apply List.ext_getElem?
  intro o
  by_cases ho:o < 4096
  · rw [pageOf_get _ _ _ ho]
    simp only [splice,lay]
    by_cases h1:o < off
    · rw [if_neg (by omega),List.getElem?_append_left (by simp [pageOf_length];omega),List.getElem?_take_of_lt h1,pageOf_get _ _ _ ho]
    · have hl:((pageOf M p).take off).length = off:=by simp [pageOf_length];omega
      rw [List.getElem?_append_right (by omega),hl]
      by_cases h2:o < off + cs.length
      · rw [if_pos (by omega),List.getElem?_append_left (by omega),List.getD_eq_getElem?_getD]
        have e:p * 4096 + o - (p * 4096 + off) = o - off:=by omega
        rw [e,List.getElem?_eq_getElem (by omega)];rfl
      · rw [if_neg (by omega),List.getElem?_append_right (by omega),List.getElem?_drop]
        have e:off + cs.length + (o - off - cs.length) = o:=by omega
        rw [e,pageOf_get _ _ _ ho]
  · rw [List.getElem?_eq_none (by simp [pageOf_length];omega),List.getElem?_eq_none (by rw [length_splice _ _ _ (by rw [pageOf_length];exact h),pageOf_length];omega)]
theorem pageOf_other (M M':Nat → Int) (p:Nat) (h:∀ o,o < 4096 → M' (p * 4096 + o) = M (p * 4096 + o)):pageOf M' p = pageOf M p:=by
  simp only [pageOf]
  apply List.map_congr_left
  intro o ho
  exact h o (by simpa using ho)
theorem pageOf_zero (M:Nat → Int) (p:Nat) (h:∀ o,o < 4096 → M (p * 4096 + o) = 0):pageOf M p = List.replicate 4096 0:=by
  apply List.ext_getElem?
  intro o
  by_cases ho:o < 4096
  · rw [pageOf_get _ _ _ ho,h o ho,List.getElem?_replicate,if_pos ho]
  · rw [List.getElem?_eq_none (by simp [pageOf_length];omega),List.getElem?_eq_none (by simp;omega)]

def ptrE (v:Value):Option (DataW Nat × List MemPlace):=
  match v with
  | .pointer (some ⟨b,0,none⟩)=>some (.held b,[])
  | .pointer none=>some (.nil,[])
  | _=>none
def ptrOf (x:Option Nat):Value:=.pointer (x.map fun b=>⟨b,0,none⟩)
theorem ptrE_inv {v:Value} {z:DataW Nat × List MemPlace} (h:ptrE v = some z):∃ x,v = ptrOf x∧z.1 = (match x with | some b=>.held b | none=>.nil):=by
  unfold ptrE at h
  split at h
  · rename_i b;cases h;exact ⟨some b,rfl,rfl⟩
  · cases h;exact ⟨none,rfl,rfl⟩
  · cases h
theorem ptrE_mk (x:Option Nat):ptrE (ptrOf x) = some ((match x with | some b=>.held b | none=>.nil),[]):=by cases x <;> rfl
def datum (x:Option Nat):DataW Nat:=match x with | some b=>.held b | none=>.nil
theorem datum_inj {x y:Option Nat} (h:datum x = datum y):x = y:=by
  cases x <;> cases y <;> simp_all [datum]
def key (p:Nat):Lit:=.int .u64 (p:Int)
theorem key_wf {p:Nat} (h:p < 2 ^ 64):(key p).wf = true:=by
  show (decide ((0:Int) ≤ (p:Int)) && decide ((p:Int) ≤ 18446744073709551615)) = true
  simp;omega
theorem key_ne {p q:Nat} (h:p ≠ q):key p ≠ key q:=by
  intro e;simp only [key,Lit.int.injEq,true_and] at e;omega
def put1 (f:Nat → Option Nat) (p:Nat) (x:Option Nat):Nat → Option Nat:=fun q=>if q = p then x else f q
theorem put1_same (f:Nat → Option Nat) (p:Nat) (x:Option Nat):put1 f p x p = x:=by simp [put1]
theorem put1_other (f:Nat → Option Nat) (p:Nat) (x:Option Nat) {q:Nat} (h:q ≠ p):put1 f p x q = f q:=by simp [put1,h]

theorem key_of {p:Nat} (h:p < 2 ^ 64):keyOf Tryz.prog 29 (.int .u64 (p:Int)) = some (key p):=Maps.keyOf_int_mk Tryz.underlying29 (key_wf h)

def PM (w:World) (B n:Nat) (f:Nat → Option Nat) (k:Nat):Prop:=
  ∃ D,w.ownsMap Tryz.prog 29 ptrE B n D∧(∀ p,p < 2 ^ 64 → D.atKey (key p) .nil = datum (f p))∧(∀ p,p < 2 ^ 64 → Maps.has D (key p) = (f p).isSome)∧Maps.size D = k

theorem PM.lt {w:World} {B n k:Nat} {f:Nat → Option Nat} (h:PM w B n f k):B < w.heap.size:=by
  obtain ⟨D,h1,_⟩:=h;exact h1.lt
theorem PM.isMap {w:World} {B n k:Nat} {f:Nat → Option Nat} (h:PM w B n f k):∃ es c,w.heap[B]? = some (.map es c):=by
  obtain ⟨D,⟨es,c,h1,_⟩,_⟩:=h;exact ⟨es,c,h1⟩
theorem ownsMap_of_block {H:Type} {w w':World} {P:Program} {t:TypeId} {R:Value → Option (DataW H × List MemPlace)} {b n:Nat} {D:DataW H} (h:w.ownsMap P t R b n D) (hb:w'.heap[b]? = w.heap[b]?):w'.ownsMap P t R b n D:=by
  obtain ⟨es,c,h1,h2⟩:=h;exact ⟨es,c,hb.trans h1,h2⟩
theorem PM.of_block {w w':World} {B n k:Nat} {f:Nat → Option Nat} (h:PM w B n f k) (hb:w'.heap[B]? = w.heap[B]?):PM w' B n f k:=by
  obtain ⟨D,h1,h2⟩:=h
  exact ⟨D,ownsMap_of_block h1 hb,h2⟩
theorem PM.mono {w:World} {B n m k:Nat} {f:Nat → Option Nat} (h:PM w B n f k) (hn:n ≤ m):PM w B m f k:=by
  obtain ⟨D,h1,h2⟩:=h;exact ⟨D,h1.mono hn,h2⟩
theorem PM.made (w:World):PM (w.alloc (.map #[] 0)) w.heap.size 0 (fun _=>none) 0:=
  ⟨_,World.ownsMap_made w Tryz.prog 29 ptrE,fun _ _=>rfl,fun _ _=>rfl,rfl⟩
theorem PM.look {w:World} {B n k:Nat} {f:Nat → Option Nat} (h:PM w B n f k) {p:Nat} (hp:p < 2 ^ 64) :
    (Instr.lookup 60 (.map (some B)) (.int .u64 (p:Int)) false).run Tryz.prog w = .ok (ptrOf (f p)) w:=by
  obtain ⟨D,h1,h2,_⟩:=h
  obtain ⟨v,ps,hrun,hv⟩:=h1.lookup law27 Tryz.underlying60 (zero44 w) (ptrE_mk none) (key_of hp)
  obtain ⟨x,rfl,hx⟩:=ptrE_inv hv
  rw [hrun]
  have:f p = x:=datum_inj (by rw [← h2 p hp];exact hx)
  rw [this]
theorem isKeyLit_key (p:Nat):WideAt.IsKeyLit (key p):=trivial
theorem PM.put {w:World} {B n k:Nat} {f:Nat → Option Nat} (h:PM w B n f k) {p:Nat} (hp:p < 2 ^ 64) (hn:n < maxLen) (b:Nat) :
    ∃ w',(Instr.mapUpdate 60 (.map (some B)) (.int .u64 (p:Int)) (.pointer (some ⟨b,0,none⟩))).run Tryz.prog w = .ok () w'∧PM w' B (n + 1) (put1 f p (some b)) (if (f p).isSome then k else k + 1)∧w.mapTurned w' B:=by
  obtain ⟨D,h1,h2,h3,h4⟩:=h
  obtain ⟨w',hrun,ho,ht⟩:=h1.store law27 Tryz.underlying60 hn (key_of hp) (ptrE_mk (some b))
  refine ⟨w',hrun,⟨_,ho,fun q hq=>?_,fun q hq=>?_,?_⟩,ht⟩
  · by_cases e:q = p
    · subst e;rw [put1_same];exact Maps.atKey_put_same h1.isMap (isKeyLit_key _) _ _
    · rw [put1_other _ _ _ e,Maps.atKey_put_other (key_ne e)];exact h2 q hq
  · by_cases e:q = p
    · subst e;rw [put1_same];exact Maps.has_put_same h1.isMap (isKeyLit_key _) _
    · rw [put1_other _ _ _ e,Maps.has_put_other (key_ne e)];exact h3 q hq
  · rw [Maps.size_put (h1.tidy law27),h3 p hp,h4]
theorem PM.del_of {w w':World} {B n k:Nat} {f:Nat → Option Nat} (h:PM w B n f k) {p:Nat} (hp:p < 2 ^ 64) {ty:TypeId}
    (hd:(Builtin.delete_ #[60,29] ty #[.map (some B),.int .u64 (p:Int)]).run Tryz.prog w = .ok (.tuple #[]) w') :
    (∃ k',PM w' B n (put1 f p none) k'∧k' + (if (f p).isSome then 1 else 0) = k)∧w.mapTurned w' B:=by
  obtain ⟨D,h1,h2,h3,h4⟩:=h
  obtain ⟨w2,hrun,ho,ht⟩:=h1.drop law27 Tryz.underlying60 (key_of hp) ty
  rw [hrun] at hd;injection hd with _ e;subst e
  refine ⟨⟨_,⟨_,ho,fun q hq=>?_,fun q hq=>?_,rfl⟩,?_⟩,ht⟩
  · by_cases e:q = p
    · subst e;rw [put1_same];exact Maps.atKey_del_same _
    · rw [put1_other _ _ _ e,Maps.atKey_del_other (key_ne e)];exact h2 q hq
  · by_cases e:q = p
    · subst e;rw [put1_same];exact Maps.has_del_same
    · rw [put1_other _ _ _ e,Maps.has_del_other (key_ne e)];exact h3 q hq
  · have:=Maps.size_del (k:=key p) (h1.tidy law27)
    rw [h3 p hp,h4] at this;exact this
theorem PM.del_run {w:World} {B n k:Nat} {f:Nat → Option Nat} (h:PM w B n f k) {p:Nat} (hp:p < 2 ^ 64) (ty:TypeId) :
    ∃ w',(Builtin.delete_ #[60,29] ty #[.map (some B),.int .u64 (p:Int)]).run Tryz.prog w = .ok (.tuple #[]) w':=by
  obtain ⟨D,h1,_⟩:=h
  obtain ⟨w2,hrun,_⟩:=h1.drop law27 Tryz.underlying60 (key_of hp) ty
  exact ⟨w2,hrun⟩

def PMV (S:Nat → Prop) (w:World) (pm:Value) (n:Nat) (f:Nat → Option Nat) (k:Nat):Prop:=
  (pm = .map none∧(∀ p,f p = none)∧k = 0) ∨ ∃ B,pm = .map (some B)∧S B∧PM w B n f k
theorem PMV.look {S:Nat → Prop} {w:World} {pm:Value} {n k:Nat} {f:Nat → Option Nat} (h:PMV S w pm n f k) {p:Nat} (hp:p < 2 ^ 64) :
    (Instr.lookup 60 pm (.int .u64 (p:Int)) false).run Tryz.prog w = .ok (ptrOf (f p)) w:=by
  rcases h with ⟨rfl,h1,_⟩ | ⟨B,rfl,_,h1⟩
  · rw [h1 p];exact Maps.look_nil false law27 Tryz.underlying60 (zero44 w) (key_of hp)
  · exact h1.look hp
def SMV (S:Nat → Prop) (w:World) (sm:Value) (n:Nat) (c:Int) (st:Nat → Int):Prop:=
  (sm = .map none∧∀ p,p < 2 ^ 64 → st p = c) ∨ ∃ B D,sm = .map (some B)∧S B∧w.ownsMap Tryz.prog 29 (plainElem (H:=Nat) Tryz.prog 29) B n D ∧
    ∃ g:Nat → Option Int,(∀ p,p < 2 ^ 64 → Maps.has D (key p) = (g p).isSome)∧(∀ p v,p < 2 ^ 64 → g p = some v → ∀ zd,D.atKey (key p) zd = .lit (.int .u64 v))∧∀ p,p < 2 ^ 64 → st p = (g p).getD c
def Rise (st st':Nat → Int) (T:Nat → Prop):Prop:=∀ p,p < 2 ^ 64 → st p ≤ st' p∧(T p → st p < st' p)
theorem Rise.refl (st:Nat → Int):Rise st st (fun _=>False):=fun p _=>⟨Int.le_refl _,fun h=>h.elim⟩
theorem Rise.trans {st st1 st2:Nat → Int} {T U:Nat → Prop} (h:Rise st st1 T) (k:Rise st1 st2 U):Rise st st2 (fun p=>T p ∨ U p):=fun p hp=>by
  have h1:=h p hp
  have h2:=k p hp
  refine ⟨by omega,fun h3=>?_⟩
  rcases h3 with h3 | h3
  · have:=h1.2 h3;omega
  · have:=h2.2 h3;omega
theorem Rise.mono {st st1:Nat → Int} {T U:Nat → Prop} (h:Rise st st1 T) (k:∀ p,U p → T p):Rise st st1 U:=fun p hp=>⟨(h p hp).1,fun hu=>(h p hp).2 (k p hu)⟩
def setSt (st:Nat → Int) (num:Nat) (l:Int):Nat → Int:=fun p=>if p = num then l else st p
structure Rest where
  rg:Value
  mo:Int
  ba:Int
  en:Int
theorem PMV.kept {S:Nat → Prop} {w w':World} {pm:Value} {n k:Nat} {f:Nat → Option Nat} (h:PMV S w pm n f k) (hb:∀ B,pm = .map (some B) → w'.heap[B]? = w.heap[B]?):PMV S w' pm n f k:=by
  rcases h with h | ⟨B,rfl,h1,h2⟩
  · exact .inl h
  · exact .inr ⟨B,rfl,h1,h2.of_block (hb B rfl)⟩
theorem SMV.kept {S:Nat → Prop} {w w':World} {sm:Value} {n:Nat} {c:Int} {st:Nat → Int} (h:SMV S w sm n c st) (hb:∀ B,sm = .map (some B) → w'.heap[B]? = w.heap[B]?):SMV S w' sm n c st:=by
  rcases h with h | ⟨B,D,rfl,h1,h2,h3⟩
  · exact .inl h
  · exact .inr ⟨B,D,rfl,h1,ownsMap_of_block h2 (hb B rfl),h3⟩
theorem SMV.mono {S:Nat → Prop} {w:World} {sm:Value} {n m:Nat} {c:Int} {st:Nat → Int} (h:SMV S w sm n c st) (hn:n ≤ m):SMV S w sm m c st:=by
  rcases h with h | ⟨B,D,h0,h1,h2,h3⟩
  · exact .inl h
  · exact .inr ⟨B,D,h0,h1,h2.mono hn,h3⟩
theorem PMV.mono {S:Nat → Prop} {w:World} {pm:Value} {n m k:Nat} {f:Nat → Option Nat} (h:PMV S w pm n f k) (hn:n ≤ m):PMV S w pm m f k:=by
  rcases h with h1 | ⟨B,h0,h1,h2⟩
  · exact .inl h1
  · exact .inr ⟨B,h0,h1,h2.mono hn⟩

structure SA (Y:Rest) (S:Nat → Prop) (w:World) (sb n:Nat) (f:Nat → Option Nat) (k:Nat) (M st:Nat → Int) (pm sm:Value) (c l:Int):Prop where
  blk:w.heap[sb]? = some (.cells #[Y.rg,pm,sm,.int .u64 c,.int .u64 l,.int .i64 Y.mo,.int .u64 Y.ba,.int .u64 Y.en] 65 (0,0))
  own:S sb
  lw:0 ≤ l∧l ≤ (n:Int)
  top:∀ p,p < 2 ^ 64 → st p ≤ l
  pages:PMV S w pm n f k
  stamps:SMV S w sm n c st
  apart:∀ B,pm = .map (some B) → sm ≠ .map (some B)
  at_:∀ p b,f p = some b → S b∧w.heap[b]? = some (.cells (asBytes (pageOf M p)).toArray 138 (0,0))
  inj:∀ p q b,f p = some b → f q = some b → p = q
  zero:∀ p o,f p = none → o < 4096 → M (p * 4096 + o) = 0
  lim:∀ p b,f p = some b → p < 67108864
def StoreAt (Y:Rest) (S:Nat → Prop) (w:World) (sb n:Nat) (f:Nat → Option Nat) (k:Nat) (M st:Nat → Int):Prop:=∃ pm sm c l,SA Y S w sb n f k M st pm sm c l

section
variable {Y:Rest} {S T:Nat → Prop} {w w':World} {sb n k:Nat} {f:Nat → Option Nat} {M st:Nat → Int} {pm sm:Value} {c l:Int}
theorem SMV.isMap {S:Nat → Prop} {w:World} {sm:Value} {n:Nat} {c:Int} {st:Nat → Int} (h:SMV S w sm n c st) {B:Nat} (hB:sm = .map (some B)):S B∧∃ es c,w.heap[B]? = some (.map es c):=by
  rcases h with h | ⟨B',D,h0,h1,⟨es,c,h2,_⟩,_⟩
  · rw [h.1] at hB;cases hB
  · rw [h0] at hB;cases hB;exact ⟨h1,es,c,h2⟩
theorem PMV.isMap {S:Nat → Prop} {w:World} {pm:Value} {n k:Nat} {f:Nat → Option Nat} (h:PMV S w pm n f k) {B:Nat} (hB:pm = .map (some B)):S B∧∃ es c,w.heap[B]? = some (.map es c):=by
  rcases h with h | ⟨B',h0,h1,h2⟩
  · rw [h.1] at hB;cases hB
  · rw [h0] at hB;cases hB;exact ⟨h1,h2.isMap⟩
theorem SA.kept (h:SA Y S w sb n f k M st pm sm c l) (hf:Fr T w w') (hd:∀ b,S b → ¬ T b):SA Y S w' sb n f k M st pm sm c l where
  blk:=hf.at_ h.blk (hd _ h.own)
  own:=h.own
  lw:=h.lw
  top:=h.top
  pages:=h.pages.kept fun B hB=>by
    obtain ⟨h1,es,c,h2⟩:=h.pages.isMap hB
    rw [hf.at_ h2 (hd _ h1),h2]
  stamps:=h.stamps.kept fun B hB=>by
    obtain ⟨h1,es,c,h2⟩:=h.stamps.isMap hB
    rw [hf.at_ h2 (hd _ h1),h2]
  apart:=h.apart
  at_:=fun p b hb=>⟨(h.at_ p b hb).1,hf.at_ (h.at_ p b hb).2 (hd _ (h.at_ p b hb).1)⟩
  inj:=h.inj
  zero:=h.zero
  lim:=h.lim
theorem SA.bl (h:SA Y S w sb n f k M st pm sm c l) (hf:Bl w w'):SA Y S w' sb n f k M st pm sm c l:=h.kept (T:=fun _=>False) (Fr.of_bl hf) (fun _ _ e=>e)
theorem StoreAt.kept (h:StoreAt Y S w sb n f k M st) (hf:Fr T w w') (hd:∀ b,S b → ¬ T b):StoreAt Y S w' sb n f k M st:=by
  obtain ⟨pm,sm,c,l,h⟩:=h;exact ⟨pm,sm,c,l,h.kept hf hd⟩
theorem StoreAt.bl (h:StoreAt Y S w sb n f k M st) (hf:Bl w w'):StoreAt Y S w' sb n f k M st:=by
  obtain ⟨pm,sm,c,l,h⟩:=h;exact ⟨pm,sm,c,l,h.bl hf⟩
theorem SA.lt (h:SA Y S w sb n f k M st pm sm c l):sb < w.heap.size:=lt_at h.blk
theorem SA.among (h:SA Y S w sb n f k M st pm sm c l) (hs:∀ b,b < w.heap.size → S b → T b):SA Y T w sb n f k M st pm sm c l where
  blk:=h.blk
  own:=hs _ h.lt h.own
  lw:=h.lw
  top:=h.top
  pages:=by
    rcases h.pages with h1 | ⟨B,h0,h1,h2⟩
    · exact .inl h1
    · exact .inr ⟨B,h0,hs _ h2.lt h1,h2⟩
  stamps:=by
    rcases h.stamps with h1 | ⟨B,D,h0,h1,h2,h3⟩
    · exact .inl h1
    · exact .inr ⟨B,D,h0,hs _ h2.lt h1,h2,h3⟩
  apart:=h.apart
  at_:=fun p b hb=>⟨hs _ (lt_at (h.at_ p b hb).2) (h.at_ p b hb).1,(h.at_ p b hb).2⟩
  inj:=h.inj
  zero:=h.zero
  lim:=h.lim
theorem StoreAt.among (h:StoreAt Y S w sb n f k M st) (hs:∀ b,b < w.heap.size → S b → T b):StoreAt Y T w sb n f k M st:=by
  obtain ⟨pm,sm,c,l,h⟩:=h;exact ⟨pm,sm,c,l,h.among hs⟩
theorem SA.mono (h:SA Y S w sb n f k M st pm sm c l) {m:Nat} (hn:n ≤ m):SA Y S w sb m f k M st pm sm c l where
  blk:=h.blk
  own:=h.own
  lw:=by have:=h.lw;omega
  top:=h.top
  pages:=h.pages.mono hn
  stamps:=h.stamps.mono hn
  apart:=h.apart
  at_:=h.at_
  inj:=h.inj
  zero:=h.zero
  lim:=h.lim
theorem StoreAt.mono (h:StoreAt Y S w sb n f k M st) {m:Nat} (hn:n ≤ m):StoreAt Y S w sb m f k M st:=by
  obtain ⟨pm,sm,c,l,h⟩:=h;exact ⟨pm,sm,c,l,h.mono hn⟩
theorem SA.cell (h:SA Y S w sb n f k M st pm sm c l):w.cell? ⟨sb,1,none⟩ = some pm∧w.cell? ⟨sb,2,none⟩ = some sm∧w.cell? ⟨sb,3,none⟩ = some (.int .u64 c)∧w.cell? ⟨sb,4,none⟩ = some (.int .u64 l):=by
  have:=h.blk
  refine ⟨?_,?_,?_,?_⟩ <;> simp [World.cell?,this]
theorem SA.free (h:SA Y S w sb n f k M st pm sm c l) (i:Nat):w.frozen? ⟨sb,i,none⟩ = false:=by
  have:=h.blk
  simp [World.frozen?,this]
theorem SA.write (h:SA Y S w sb n f k M st pm sm c l) {num b off:Nat} {cs:List Int} (hb:f num = some b) (hfit:off + cs.length ≤ 4096) (hg:w.grownBy w' (some b))
    (hw:w'.heap[b]? = some (.cells (asBytes (splice (pageOf M num) off cs)).toArray 138 (0,0))):SA Y S w' sb n f k (lay M (num * 4096 + off) cs) st pm sm c l:=by
  have hbb:=(h.at_ num b hb).2
  have other:∀ x o,w.heap[x]? = some o → x ≠ b → w'.heap[x]? = some o:=fun x o hx hn=>by
    rw [hg.block x (lt_at hx) (fun e=>hn (by injection e))];exact hx
  refine ⟨other _ _ h.blk (fun e=>?_),h.own,h.lw,h.top,h.pages.kept fun B hB=>?_,h.stamps.kept fun B hB=>?_,h.apart,fun p x hx=>?_,h.inj,fun p o hp ho=>?_,h.lim⟩
  · have:=h.blk;rw [e,hbb] at this;first | cases this | exact absurd (cells_ty this) (by decide)
  · obtain ⟨_,es,c,h2⟩:=h.pages.isMap hB
    rw [other _ _ h2 (fun e=>by rw [e,hbb] at h2;cases h2),h2]
  · obtain ⟨_,es,c,h2⟩:=h.stamps.isMap hB
    rw [other _ _ h2 (fun e=>by rw [e,hbb] at h2;cases h2),h2]
  · by_cases e:p = num
    · subst e
      rw [hb] at hx;cases hx
      exact ⟨(h.at_ p _ hb).1,by rw [pageOf_lay _ _ _ _ hfit];exact hw⟩
    · have hne:x ≠ b:=fun ex=>e (h.inj p num b (ex ▸ hx) hb)
      refine ⟨(h.at_ p x hx).1,?_⟩
      rw [pageOf_other M _ p (fun o ho=>lay_out _ _ _ _ (by omega))]
      exact other _ _ (h.at_ p x hx).2 hne
  · have hpn:p ≠ num:=fun e=>by subst e;rw [hb] at hp;cases hp
    rw [lay_out _ _ _ _ (by omega)]
    exact h.zero p o hp ho
end

end Go.Proofs.YtbngjbmfkekdnaaGreatDoor

namespace Go.Proofs.YtbngjbmfkekdnaaGreatDoor
open Go.RowKit
set_option maxRecDepth 100000

theorem below_far (addr n:Int) (w:World) (h:274877906944 ≤ addr):Calls Tryz.prog 59 #[.int .u64 addr,.int .i64 n] w fun e w'=>e = .returned (.int .i64 0)∧w = w':=by
  go_enter Tryz.func59,Tryz.ntmps59
  go_wp2
  go_ret
  exact ⟨rfl,rfl⟩
theorem below_le (addr n:Int) (w:World) (h0:0 ≤ addr) (h:addr < 274877906944) (hn0:0 ≤ n) (hn:n ≤ 100000000) (h1:n ≤ 274877906944 - addr):Calls Tryz.prog 59 #[.int .u64 addr,.int .i64 n] w fun e w'=>e = .returned (.int .i64 n)∧w = w':=by
  go_enter Tryz.func59,Tryz.ntmps59
  go_wp2
  go_ret
  exact ⟨rfl,rfl⟩
theorem below_gt (addr n:Int) (w:World) (h0:0 ≤ addr) (h:addr < 274877906944) (hn0:0 ≤ n) (hn:n ≤ 100000000) (h1:274877906944 - addr < n):Calls Tryz.prog 59 #[.int .u64 addr,.int .i64 n] w fun e w'=>e = .returned (.int .i64 (274877906944 - addr))∧w = w':=by
  go_enter Tryz.func59,Tryz.ntmps59
  go_wp2
  go_ret
  exact ⟨rfl,rfl⟩
def room (addr n:Nat):Nat:=min n (274877906944 - addr)
theorem below_any (addr n:Nat) (w:World) (hn:n ≤ 100000000):Calls Tryz.prog 59 #[.int .u64 (addr:Int),.int .i64 (n:Int)] w fun e w'=>e = .returned (.int .i64 (room addr n:Int))∧w = w':=by
  unfold room
  by_cases h:addr < 274877906944
  · by_cases hle:n ≤ 274877906944 - addr
    · rw [Nat.min_eq_left hle]
      exact below_le _ _ w (by omega) (by omega) (by omega) (by omega) (by omega)
    · rw [Nat.min_eq_right (by omega)]
      have e:((274877906944 - addr:Nat):Int) = 274877906944 - (addr:Int):=by omega
      rw [e]
      exact below_gt _ _ w (by omega) (by omega) (by omega) (by omega) (by omega)
  · rw [show 274877906944 - addr = 0 by omega,Nat.min_zero]
    exact below_far _ _ w (by omega)

def span (a b:Int):Value:=.agg #[.int .u64 a,.int .u64 b]
theorem pwithin_in (a b:Int) (w:World) (h:b ≤ 274877906944):Calls Tryz.prog 71 #[.int .u64 a,.int .u64 b] w fun e w'=>e = .returned (span a b)∧Bl w w':=by
  unfold span
  go_enter Tryz.func71,Tryz.ntmps71
  go_wp2
  refine bodyPost_ret (results_cell_row rfl _ _ w.heap.size 113 _ (0,0) _ rfl (heap_alloc_new w _) Tryz.underlying113 rfl (by kernel_rfl)) rfl ⟨rfl,?_⟩
  exact Bl.new _ _
theorem empty_any (a b:Int) (w:World):Calls Tryz.prog 72 #[span a b] w fun e w'=>e = .returned (.bool (decide (b ≤ a)))∧Bl w w':=by
  unfold span
  go_enter Tryz.func72,Tryz.ntmps72
  go_wp2
  go_ret
  exact ⟨rfl,Bl.new _ _⟩
theorem first_i (a b:Int) (w:World) (h0:0 ≤ a) (h1:a ≤ 18446744073709551615):Calls Tryz.prog 78 #[span a b] w fun e w'=>e = .returned (.int .u64 (a / 4096))∧Bl w w':=by
  unfold span
  go_enter Tryz.func78,Tryz.ntmps78
  go_wp2
  go_ret
  exact ⟨rfl,Bl.new _ _⟩
theorem last_i (a b:Int) (w:World) (hb:1 ≤ b) (hc:b ≤ 274877906944):Calls Tryz.prog 79 #[span a b] w fun e w'=>e = .returned (.int .u64 ((b - 1) / 4096))∧Bl w w':=by
  unfold span
  go_enter Tryz.func79,Tryz.ntmps79
  go_wp2
  go_ret
  exact ⟨rfl,Bl.new _ _⟩
theorem keepS {w w9 w8:World} {x:Value} {y:Value} {b:Nat} (h:w8.cell? ⟨b,0,none⟩ = some x∧w8.cell? ⟨b,1,none⟩ = some y∧Bl w w8) (k:Bl w8 w9):w9.cell? ⟨b,0,none⟩ = some x∧w9.cell? ⟨b,1,none⟩ = some y∧Bl w w9:=by
  obtain ⟨h1,h2,h3⟩:=h
  exact ⟨by rw [k.cell (block_lt_of_cell h1)];exact h1,by rw [k.cell (block_lt_of_cell h2)];exact h2,h3.trans k⟩
theorem wide_i (a b:Int) (w:World) (ha:0 ≤ a) (hab:a < b) (hc:b ≤ 274877906944):Calls Tryz.prog 76 #[span a b] w fun e w'=>e = .returned (.bool (decide (4096 ≤ (b - 1) / 4096 - a / 4096)))∧Bl w w':=by
  have cl:=fun W=>last_i a b W (by omega) hc
  have cf:=fun W=>first_i a b W ha (by omega)
  have CL:=hid cl;clear cl
  have CF:=hid cf;clear cf
  have k0:Bl w (w.alloc (.cells #[.int .u64 a,.int .u64 b] 113)):=Bl.new _ _
  have K0:=hid k0;clear k0
  have c0:(w.alloc (.cells #[.int .u64 a,.int .u64 b] 113)).cell? ⟨w.heap.size,0,none⟩ = some (.int .u64 a):=by rw [cell_of_row _ _ _ _ _ _ (heap_alloc_new w _)];rfl
  have c1:(w.alloc (.cells #[.int .u64 a,.int .u64 b] 113)).cell? ⟨w.heap.size,1,none⟩ = some (.int .u64 b):=by rw [cell_of_row _ _ _ _ _ _ (heap_alloc_new w _)];rfl
  have C0:=hid c0;clear c0
  have C1:=hid c1;clear c1
  have hle:a / 4096 ≤ (b - 1) / 4096:=by omega
  have hq0:0 ≤ a / 4096:=by omega
  have hq1:(b - 1) / 4096 ≤ 67108864:=by omega
  unfold span at *
  generalize (b - 1) / 4096 = q1 at *
  generalize a / 4096 = q0 at *
  go_enter Tryz.func76,Tryz.ntmps76
  go_wp2
  generalize w.alloc (.cells #[.int .u64 a,.int .u64 b] 113) = W at *
  go_region_held3 (fun w'=>w'.cell? ⟨w.heap.size,0,none⟩ = some (.int .u64 a)∧w'.cell? ⟨w.heap.size,1,none⟩ = some (.int .u64 b)∧Bl w w') (first | assumption | exact ⟨C0.out,C1.out,K0.out⟩ | exact ⟨C0.out,C1.out,K0.out.drew⟩) (first | (go_at_call 79;refine (CL.out _).mono ?_;rintro e w9 ⟨rfl,k9⟩;have hkk:=keepS (by assumption) k9) | (go_at_call 78;refine (CF.out _).mono ?_;rintro e w9 ⟨rfl,k9⟩;have hkk:=keepS (by assumption) k9))
  all_goals go_wp2
  all_goals go_ret
  all_goals refine ⟨?_,hkk.2.2⟩
  all_goals rw [IntWalk.u64_in (q1 - q0) (by omega)]
  all_goals rfl
end Go.Proofs.YtbngjbmfkekdnaaGreatDoor

namespace Go.Proofs.YtbngjbmfkekdnaaGreatDoor
open Go.RowKit
set_option maxRecDepth 100000

section
variable {P:Program} (w:World) {ops:Array Oper} {rest:List Oper} {o:Oper} {a:Act} {Q:Exit → Act → World → Prop}
theorem wpl_put_run {w1:World} (hg:o.guard = none) (m x v:Operand) (t:TypeId) (hop:o.op = Op.mapUpdate t m x v) (vm vx vv:Value) (hm:a.eval m = vm) (hx:a.eval x = vx) (hv:a.eval v = vv)
    (hrun:(Instr.mapUpdate t vm vx vv).run P w = .ok () w1) (hK:wpList P ops Q rest (a.put o.dst undef) w1):wpList P ops Q (o :: rest) a w:=by
  refine wpList_plain hg fun K' hK'=>?_
  unfold Oper.wp
  simp [execOp,hop,hm,hx,hv,hrun,Result.andThen]
  exact hK' _ _ hK
end
theorem zero53 (w:World):(zeroValue 138).run Tryz.prog w = .ok (.agg zeros) w:=by
  obtain ⟨i,hi,hz⟩:∃ i,Tryz.prog.info? 138 = some i∧i.zero = some (.agg zeros):=by
    have:=info53
    rcases h:Tryz.prog.info? 138 with _ | i
    · rw [h] at this;first | cases this | exact absurd (cells_ty this) (by decide)
    · rw [h] at this;simp at this;exact ⟨i,rfl,this.1⟩
  simp [zeroValue,typeInfo,hi,hz]
theorem SA.cells {Y Y':Rest} {S:Nat → Prop} {w w':World} {sb n m k:Nat} {f:Nat → Option Nat} {M st st':Nat → Int} {pm sm pm' sm':Value} {c l c' l':Int} (h:SA Y S w sb n f k M st pm sm c l)
    (ho:∀ x,x < w.heap.size → x ≠ sb → w'.heap[x]? = w.heap[x]?) (hb:w'.heap[sb]? = some (.cells #[Y'.rg,pm',sm',.int .u64 c',.int .u64 l',.int .i64 Y'.mo,.int .u64 Y'.ba,.int .u64 Y'.en] 65 (0,0))) (hl:0 ≤ l'∧l' ≤ (m:Int)) (ht:∀ p,p < 2 ^ 64 → st' p ≤ l')
    (hp:PMV S w' pm' m f k) (hs:SMV S w' sm' m c' st') (ha:∀ B,pm' = .map (some B) → sm' ≠ .map (some B)):SA Y' S w' sb m f k M st' pm' sm' c' l' where
  blk:=hb
  own:=h.own
  lw:=hl
  top:=ht
  pages:=hp
  stamps:=hs
  apart:=ha
  at_:=fun p b hb=>⟨(h.at_ p b hb).1,by
    have h2:=(h.at_ p b hb).2
    rw [ho b (lt_at h2) (fun e=>by have:=h.blk;rw [← e,h2] at this;first | cases this | exact absurd (cells_ty this) (by decide))];exact h2⟩
  inj:=h.inj
  zero:=h.zero
  lim:=h.lim
theorem SA.keptP {Y:Rest} {S:Nat → Prop} {w:World} {sb n k:Nat} {f:Nat → Option Nat} {M st:Nat → Int} {pm sm:Value} {c l:Int} (h:SA Y S w sb n f k M st pm sm c l) (i:Nat) (u:Value):PMV S (w.setCell ⟨sb,i,none⟩ u) pm n f k:=by
  refine h.pages.kept fun B hB=>?_
  obtain ⟨_,es,q,h2⟩:=h.pages.isMap hB
  exact Below.heap_setCell _ _ _ _ (fun e=>by have:=h.blk;rw [← show B = sb from e,h2] at this;first | cases this | exact absurd (cells_ty this) (by decide))
theorem SA.keptS {Y:Rest} {S:Nat → Prop} {w:World} {sb n k:Nat} {f:Nat → Option Nat} {M st:Nat → Int} {pm sm:Value} {c l:Int} (h:SA Y S w sb n f k M st pm sm c l) (i:Nat) (u:Value):SMV S (w.setCell ⟨sb,i,none⟩ u) sm n c st:=by
  refine h.stamps.kept fun B hB=>?_
  obtain ⟨_,es,q,h2⟩:=h.stamps.isMap hB
  exact Below.heap_setCell _ _ _ _ (fun e=>by have:=h.blk;rw [← show B = sb from e,h2] at this;first | cases this | exact absurd (cells_ty this) (by decide))
theorem setCell_others (w:World) (sb i:Nat) (u:Value):∀ x,x < w.heap.size → x ≠ sb → (w.setCell ⟨sb,i,none⟩ u).heap[x]? = w.heap[x]?:=fun x _ hx=>Below.heap_setCell _ _ _ _ hx
theorem SA.setLast {Y:Rest} {S:Nat → Prop} {w:World} {sb n k:Nat} {f:Nat → Option Nat} {M st:Nat → Int} {pm sm:Value} {c l:Int} (h:SA Y S w sb n f k M st pm sm c l) :
    SA Y S (w.setCell ⟨sb,4,none⟩ (.int .u64 (l + 1))) sb (n + 1) f k M st pm sm c (l + 1):=by
  have:=h.lw
  exact h.cells (setCell_others w sb 4 _) (heap_setCell_same w sb 4 _ 65 _ h.blk) (by omega) (fun p hp=>by have:=h.top p hp;omega) ((h.keptP 4 _).mono (by omega)) ((h.keptS 4 _).mono (by omega)) h.apart
theorem wrap_in (x:Int):0 ≤ IntKind.u64.wrap x∧IntKind.u64.wrap x ≤ 18446744073709551615:=by rw [IntKind.wrap_u64];omega

theorem eq40 (w:World) (p:Option Nat):(binOp .eql 61 (.map p) (.map none)).run Tryz.prog w = .ok (.bool p.isNone) w:=run_eql_map_nil_sl (P:=Tryz.prog) w 61 _ _ p Tryz.underlying61
theorem eq39 (w:World) (p:Option Nat):(binOp .eql 60 (.map p) (.map none)).run Tryz.prog w = .ok (.bool p.isNone) w:=run_eql_map_nil_sl (P:=Tryz.prog) w 60 _ _ p Tryz.underlying60
theorem SA.stampRun {Y:Rest} {S:Nat → Prop} {w:World} {sb n k:Nat} {f:Nat → Option Nat} {M st:Nat → Int} {pm:Value} {B:Nat} {c l:Int} (h:SA Y S w sb n f k M st pm (.map (some B)) c l) {num:Nat} (hnum:num < 2 ^ 64) (hn:n < 100000010) :
    ∃ w',(Instr.mapUpdate 61 (.map (some B)) (.int .u64 (num:Int)) (.int .u64 l)).run Tryz.prog w = .ok () w'∧SA Y S w' sb (n + 1) f k M (setSt st num l) pm (.map (some B)) c l∧Fr S w w':=by
  rcases h.stamps with h0 | ⟨B',D,h0,hSB,hown,g,hg1,hg2,hg3⟩
  · cases h0.1
  cases h0
  have hv:=h.lw
  have hvw:(Lit.int .u64 l).wf = true:=by
    show (decide ((0:Int) ≤ l) && decide (l ≤ 18446744073709551615)) = true
    simp;omega
  obtain ⟨w',hrun,ho,ht⟩:=hown.store law27 Tryz.underlying61 (by simp only [maxLen];omega) (key_of hnum) (plainElem_int Tryz.underlying29 hvw)
  have hg:=ht.grown
  have other:∀ x o,w.heap[x]? = some o → x ≠ B → w'.heap[x]? = some o:=fun x o hx hne=>by
    rw [hg.block x (lt_at hx) (fun e=>hne (by injection e))];exact hx
  obtain ⟨_,es,q,hmap⟩:=h.stamps.isMap rfl
  have hp:PMV S w' pm n f k:=h.pages.kept fun B1 hB1=>by
    obtain ⟨_,es1,q1,h2⟩:=h.pages.isMap hB1
    rw [other _ _ h2 (fun e=>by subst e;exact h.apart _ hB1 rfl),h2]
  refine ⟨w',hrun,⟨other _ _ h.blk (fun e=>by have:=h.blk;rw [e,hmap] at this;first | cases this | exact absurd (cells_ty this) (by decide)),h.own,by omega,fun p hp=>?_,hp.mono (by omega),.inr ⟨B,_,rfl,hSB,ho,fun p=>if p = num then some l else g p,fun p hp=>?_,fun p v hp hgv zd=>?_,fun p hp=>?_⟩,h.apart,fun p b hb=>⟨(h.at_ p b hb).1,other _ _ (h.at_ p b hb).2 (fun e=>by have:=(h.at_ p b hb).2;rw [e,hmap] at this;first | cases this | exact absurd (cells_ty this) (by decide))⟩,h.inj,h.zero,h.lim⟩,Fr.grown hg (fun x hx=>by cases hx;exact hSB)⟩
  · simp only [setSt]
    split
    · exact Int.le_refl _
    · exact h.top p hp
  · by_cases e:p = num
    · subst e;simp only [if_true,Option.isSome_some];exact Maps.has_put_same hown.isMap (isKeyLit_key _) _
    · simp only [if_neg e];rw [Maps.has_put_other (key_ne e)];exact hg1 p hp
  · by_cases e:p = num
    · subst e;simp only [if_true,Option.some.injEq] at hgv;subst hgv;exact Maps.atKey_put_same hown.isMap (isKeyLit_key _) _ _
    · simp only [if_neg e] at hgv;rw [Maps.atKey_put_other (key_ne e)];exact hg2 p v hp hgv zd
  · simp only [setSt]
    split
    · rfl
    · exact hg3 p hp
theorem setSt_rise {st:Nat → Int} {num:Nat} {l:Int} (h:∀ p,p < 2 ^ 64 → st p ≤ l):Rise st (setSt st num (l + 1)) (fun p=>p = num):=fun p hp=>by
  have:=h p hp
  simp only [setSt]
  split
  · exact ⟨by omega,fun _=>by omega⟩
  · rename_i e
    exact ⟨Int.le_refl _,fun e'=>absurd e' e⟩
theorem SA.drew {Y:Rest} {S:Nat → Prop} {w:World} {sb n k:Nat} {f:Nat → Option Nat} {M st:Nat → Int} {pm sm:Value} {c l:Int} (h:SA Y S w sb n f k M st pm sm c l):SA Y S w.drew sb n f k M st pm sm c l:=h.bl (Bl.refl w).drew
theorem Fr.drew {S:Nat → Prop} {a b:World} (h:Fr S a b):Fr S a b.drew:=⟨h.os,h.tape,h.output,h.size,h.block⟩
theorem SA.stampsMade {Y:Rest} {S:Nat → Prop} {w:World} {sb n k:Nat} {f:Nat → Option Nat} {M st:Nat → Int} {pm:Value} {c l:Int} (h:SA Y S w sb n f k M st pm (.map none) c l) (hS:S w.heap.size) :
    SA Y S ((w.alloc (.map #[] 0)).setCell ⟨sb,2,none⟩ (.map (some w.heap.size))) sb n f k M st pm (.map (some w.heap.size)) c l∧Fr S w ((w.alloc (.map #[] 0)).setCell ⟨sb,2,none⟩ (.map (some w.heap.size))):=by
  have hsb:=h.lt
  have h':=h.bl (Bl.new w (.map #[] 0))
  refine ⟨?_,(Fr.of_bl (Bl.new w (.map #[] 0))).trans (Fr.set h.own _)⟩
  have hno:∀ x,(w.alloc (.map #[] 0)).heap[x]? ≠ none → x ≠ sb → ((w.alloc (.map #[] 0)).setCell ⟨sb,2,none⟩ (.map (some w.heap.size))).heap[x]? = (w.alloc (.map #[] 0)).heap[x]?:=fun x _ hx=>Below.heap_setCell _ _ _ _ hx
  refine h'.cells (setCell_others _ sb 2 _) (heap_setCell_same _ sb 2 _ 65 _ h'.blk) h.lw h.top (h'.keptP 2 _) ?_ ?_
  · refine .inr ⟨w.heap.size,.map [],rfl,hS,?_,fun _=>none,fun _ _=>rfl,fun p v _ h=>(by cases h),fun p hp=>?_⟩
    · exact (ownsMap_of_block (World.ownsMap_made w Tryz.prog 29 (plainElem (H:=Nat) Tryz.prog 29)) (Below.heap_setCell _ _ _ _ (fun e=>by have:w.heap.size = sb:=e;omega))).mono (Nat.zero_le _)
    · rcases h.stamps with ⟨_,h0⟩ | ⟨B,D,h0,_⟩
      · exact h0 p hp
      · cases h0
  · intro B hB e
    cases e
    obtain ⟨_,es,q,h2⟩:=h.pages.isMap hB
    have:=lt_at h2
    omega

theorem stamp_not {Y:Rest} {S:Nat → Prop} {w:World} {sb n k:Nat} {f:Nat → Option Nat} {M st:Nat → Int} {pm:Value} {B:Nat} {c l:Int} (h:SA Y S w sb n f k M st pm (.map (some B)) c l) (num:Nat) (hnum:num < 2 ^ 64) (hn:n < 100000000) :
    Calls Tryz.prog 61 #[.pointer (some ⟨sb,1,none⟩),.int .u64 (num:Int)] w fun e w'=>e = .returned (.tuple #[])∧(∃ st',StoreAt Y S w' sb (n + 2) f k M st'∧Rise st st' (fun p=>p = num))∧Fr S w w':=by
  obtain ⟨c0,c1,c2,c3⟩:=h.cell
  have f1:=h.free 2
  have f3:=h.free 4
  have H:=hid h;clear h
  have hq:=fun W=>eq40 W (some B)
  (try unfold addr0)
  go_enter Tryz.func61,Tryz.ntmps61
  go_wp2
  have hlw:=H.out.lw
  have htop:=H.out.top
  have hwr:=IntWalk.u64_in (l + 1) (by omega)
  rw [hwr]
  have h1:=H.out.setLast
  clear hwr hlw
  have fr1:Fr S w (w.setCell ⟨sb,4,none⟩ (.int .u64 (l + 1))):=Fr.set H.out.own _
  clear c0 c1 c2 c3 f1 f3
  generalize w.setCell ⟨sb,4,none⟩ (.int .u64 (l + 1)) = W at *
  have hris:=setSt_rise (num:=num) htop
  have HR:=hid hris;clear hris htop
  generalize l + 1 = l1 at *
  obtain ⟨c0,c1,c2,c3⟩:=h1.cell
  have H1:=hid h1;clear h1
  have FR1:=hid fr1;clear fr1
  go_still_tail 9,(by kernel_rfl)
  change wpList _ _ _ _ _ W.drew
  obtain ⟨w2,hrun,h2,fr2⟩:=H1.out.drew.stampRun hnum (by omega)
  have H2:=hid h2;clear h2
  refine wpl_put_run _ rfl (.tmp 23) (.tmp 24) (.tmp 28) 61 rfl _ _ _ rfl rfl rfl hrun ?_
  clear c0 c1 c2 c3 hq hrun
  go_wp2
  go_end0
  exact ⟨rfl,⟨_,⟨_,_,_,_,H2.out⟩,HR.out⟩,FR1.out.drew.trans fr2⟩
theorem stamp_nil {Y:Rest} {S:Nat → Prop} {w:World} {sb n k:Nat} {f:Nat → Option Nat} {M st:Nat → Int} {pm:Value} {c l:Int} (h:SA Y S w sb n f k M st pm (.map none) c l) (num:Nat) (hnum:num < 2 ^ 64) (hn:n < 100000000) (hS:S w.heap.size) :
    Calls Tryz.prog 61 #[.pointer (some ⟨sb,1,none⟩),.int .u64 (num:Int)] w fun e w'=>e = .returned (.tuple #[])∧(∃ st',StoreAt Y S w' sb (n + 2) f k M st'∧Rise st st' (fun p=>p = num))∧Fr S w w':=by
  obtain ⟨c0,c1,c2,c3⟩:=h.cell
  have f1:=h.free 2
  have f3:=h.free 4
  have a1:∀ o,(w.alloc o).cell? ⟨sb,2,none⟩ = some (.map none):=fun o=>(h.bl (Bl.new w o)).cell.2.1
  have af1:∀ o,(w.alloc o).frozen? ⟨sb,2,none⟩ = false:=fun o=>(h.bl (Bl.new w o)).free 2
  have H:=hid h;clear h
  have hq:=fun W=>eq40 W none
  have hmm:=@run_makeMap Tryz.prog
  (try unfold addr0)
  go_enter Tryz.func61,Tryz.ntmps61
  go_upto_region 2 with (fail)
  obtain ⟨h0,fr0⟩:=H.out.stampsMade hS
  clear c0 c1 c2 c3 f1 f3 a1 af1 hq hmm
  generalize (w.alloc (.map #[] 0)).setCell ⟨sb,2,none⟩ (.map (some w.heap.size)) = W0 at *
  generalize w.heap.size = B at *
  obtain ⟨c0,c1,c2,c3⟩:=h0.cell
  have f3:=h0.free 4
  have H0:=hid h0;clear h0
  have FR0:=hid fr0;clear fr0
  go_wp2
  have hlw:=H0.out.lw
  have htop:=H0.out.top
  have hwr:=IntWalk.u64_in (l + 1) (by omega)
  rw [hwr]
  have h1:=H0.out.setLast
  clear hwr hlw
  have fr1:Fr S W0 (W0.setCell ⟨sb,4,none⟩ (.int .u64 (l + 1))):=Fr.set H0.out.own _
  clear c0 c1 c2 c3 f3
  generalize W0.setCell ⟨sb,4,none⟩ (.int .u64 (l + 1)) = W at *
  have hris:=setSt_rise (num:=num) htop
  have HR:=hid hris;clear hris htop
  generalize l + 1 = l1 at *
  obtain ⟨c0,c1,c2,c3⟩:=h1.cell
  have H1:=hid h1;clear h1
  have FR1:=hid fr1;clear fr1
  go_still_tail 9,(by kernel_rfl)
  change wpList _ _ _ _ _ W.drew
  obtain ⟨w2,hrun,h2,fr2⟩:=H1.out.drew.stampRun hnum (by omega)
  have H2:=hid h2;clear h2
  refine wpl_put_run _ rfl (.tmp 23) (.tmp 24) (.tmp 28) 61 rfl _ _ _ rfl rfl rfl hrun ?_
  clear c0 c1 c2 c3 hrun
  go_wp2
  go_end0
  exact ⟨rfl,⟨_,⟨_,_,_,_,H2.out⟩,HR.out⟩,(FR0.out.trans FR1.out.drew).trans fr2⟩
theorem stamp_any {Y:Rest} {S:Nat → Prop} {w:World} {sb n k:Nat} {f:Nat → Option Nat} {M st:Nat → Int} (h:StoreAt Y S w sb n f k M st) (num:Nat) (hnum:num < 2 ^ 64) (hn:n < 100000000) (hS:S w.heap.size) :
    Calls Tryz.prog 61 #[.pointer (some ⟨sb,1,none⟩),.int .u64 (num:Int)] w fun e w'=>e = .returned (.tuple #[])∧(∃ st',StoreAt Y S w' sb (n + 2) f k M st'∧Rise st st' (fun p=>p = num))∧Fr S w w':=by
  obtain ⟨pm,sm,c,l,h⟩:=h
  rcases h.stamps with ⟨rfl,_⟩ | ⟨B,D,rfl,_⟩
  · exact stamp_nil h num hnum hn hS
  · exact stamp_not h num hnum hn

theorem SA.pagesMade {Y:Rest} {S:Nat → Prop} {w:World} {sb n k:Nat} {f:Nat → Option Nat} {M st:Nat → Int} {sm:Value} {c l:Int} (h:SA Y S w sb n f k M st (.map none) sm c l) (hS:S w.heap.size) :
    SA Y S ((w.alloc (.map #[] 0)).setCell ⟨sb,1,none⟩ (.map (some w.heap.size))) sb n f k M st (.map (some w.heap.size)) sm c l∧Fr S w ((w.alloc (.map #[] 0)).setCell ⟨sb,1,none⟩ (.map (some w.heap.size))):=by
  have hsb:=h.lt
  have h':=h.bl (Bl.new w (.map #[] 0))
  refine ⟨?_,(Fr.of_bl (Bl.new w (.map #[] 0))).trans (Fr.set h.own _)⟩
  refine h'.cells (setCell_others _ sb 1 _) (heap_setCell_same _ sb 1 _ 65 _ h'.blk) h.lw h.top ?_ (h'.keptS 1 _) ?_
  · refine .inr ⟨w.heap.size,rfl,hS,?_⟩
    rcases h.pages with ⟨_,hf,rfl⟩ | ⟨B,h0,_⟩
    · obtain rfl:f = fun _=>none:=funext hf
      exact ((PM.made w).of_block (Below.heap_setCell _ _ _ _ (fun e=>by have:w.heap.size = sb:=e;omega))).mono (Nat.zero_le _)
    · cases h0
  · intro B hB e
    cases hB
    obtain ⟨_,es,q,h2⟩:=h.stamps.isMap e
    have:=lt_at h2
    omega
theorem SA.pageNew {Y:Rest} {S:Nat → Prop} {w:World} {sb n k:Nat} {f:Nat → Option Nat} {M st:Nat → Int} {sm:Value} {B:Nat} {c l:Int} (h:SA Y S w sb n f k M st (.map (some B)) sm c l) (hS:S w.heap.size) {num:Nat} (hnum:num < 67108864) (hf:f num = none) (hn:n < 100000000) :
    ∃ w',(Instr.mapUpdate 60 (.map (some B)) (.int .u64 (num:Int)) (.pointer (some ⟨w.heap.size,0,none⟩))).run Tryz.prog (w.alloc (.cells zeros 138)) = .ok () w'∧SA Y S w' sb (n + 1) (put1 f num (some w.heap.size)) (k + 1) M st (.map (some B)) sm c l∧Fr S w w':=by
  have h':=h.bl (Bl.new w (.cells zeros 138))
  rcases h'.pages with ⟨h0,_⟩ | ⟨B',h0,hSB,hpm⟩
  · cases h0
  cases h0
  obtain ⟨w',hrun,hp,ht⟩:=hpm.put (show num < 2 ^ 64 by omega) (by simp only [maxLen];omega) w.heap.size
  rw [hf] at hp
  have hg:=ht.grown
  obtain ⟨_,es,q,hmap⟩:=h'.pages.isMap rfl
  have other:∀ x o,(w.alloc (.cells zeros 138)).heap[x]? = some o → x ≠ B → w'.heap[x]? = some o:=fun x o hx hne=>by
    rw [hg.block x (lt_at hx) (fun e=>hne (by injection e))];exact hx
  have hcell:∀ (x:Nat) (cs:Array Value) (t:TypeId) (fr:Nat × Nat),(w.alloc (.cells zeros 138)).heap[x]? = some (.cells cs t fr) → w'.heap[x]? = some (.cells cs t fr):=fun x cs t fr hx =>
    other x _ hx (fun e=>by rw [e,hmap] at hx;cases hx)
  refine ⟨w',hrun,⟨hcell _ _ _ _ h'.blk,h.own,(by have:=h.lw;omega),h.top,.inr ⟨B,rfl,hSB,hp⟩,?_,h.apart,fun p b hb=>?_,fun p q b hp hq=>?_,fun p o hp ho=>?_,fun p b hb=>?_⟩,(Fr.of_bl (Bl.new w _)).trans (Fr.grown hg (fun x hx=>by cases hx;exact hSB))⟩
  · have hs:SMV S w' sm n c st:=h'.stamps.kept fun B1 hB1=>by
      obtain ⟨_,es1,q1,h2⟩:=h'.stamps.isMap hB1
      rw [other _ _ h2 (fun e=>by subst e;exact h.apart _ rfl hB1),h2]
    exact hs.mono (by omega)
  · by_cases e:p = num
    · subst e
      rw [put1_same] at hb;cases hb
      refine ⟨hS,?_⟩
      rw [pageOf_zero M p (fun o ho=>h.zero p o hf ho)]
      exact hcell _ _ _ _ (heap_alloc_new w _)
    · rw [put1_other _ _ _ e] at hb
      exact ⟨(h'.at_ p b hb).1,hcell _ _ _ _ (h'.at_ p b hb).2⟩
  · by_cases e1:p = num
    · by_cases e2:q = num
      · rw [e1,e2]
      · subst e1;rw [put1_same] at hp;rw [put1_other _ _ _ e2] at hq
        cases hp
        have:=lt_at (h.at_ q _ hq).2
        omega
    · by_cases e2:q = num
      · subst e2;rw [put1_same] at hq;rw [put1_other _ _ _ e1] at hp
        cases hq
        have:=lt_at (h.at_ p _ hp).2
        omega
      · rw [put1_other _ _ _ e1] at hp;rw [put1_other _ _ _ e2] at hq
        exact h.inj p q b hp hq
  · by_cases e:p = num
    · subst e;rw [put1_same] at hp;cases hp
    · rw [put1_other _ _ _ e] at hp;exact h.zero p o hp ho
  · by_cases e:p = num
    · omega
    · rw [put1_other _ _ _ e] at hb;exact h.lim p b hb
def hf (f:Nat → Option Nat) (num b:Nat):Nat → Option Nat:=if (f num).isSome then f else put1 f num (some b)
def hk (f:Nat → Option Nat) (num k:Nat):Nat:=if (f num).isSome then k else k + 1
def HoldPost (Y:Rest) (S:Nat → Prop) (w:World) (sb n:Nat) (f:Nat → Option Nat) (k:Nat) (M st:Nat → Int) (num:Nat) (e:Ending) (w':World):Prop:=
  ∃ b,e = .returned (addr0 b)∧StoreAt Y S w' sb (n + 1) (hf f num b) (hk f num k) M st∧hf f num b num = some b∧Fr S w w'
theorem hold_there {Y:Rest} {S:Nat → Prop} {w:World} {sb n k:Nat} {f:Nat → Option Nat} {M st:Nat → Int} {pm sm:Value} {c l:Int} (h:SA Y S w sb n f k M st pm sm c l) (num b:Nat) (hnum:num < 67108864) (hb:f num = some b) :
    Calls Tryz.prog 60 #[.pointer (some ⟨sb,1,none⟩),.int .u64 (num:Int)] w (HoldPost Y S w sb n f k M st num):=by
  have e1:hf f num b = f:=by simp [hf,hb]
  have e2:hk f num k = k:=by simp [hk,hb]
  obtain ⟨B,rfl⟩:∃ B,pm = .map (some B):=by
    rcases h.pages with ⟨_,h1,_⟩ | ⟨B,h0,_⟩
    · rw [h1 num] at hb;cases hb
    · exact ⟨B,h0⟩
  have hlook:=h.pages.look (show num < 2 ^ 64 by omega)
  rw [hb] at hlook
  simp only [ptrOf,Option.map_some] at hlook
  obtain ⟨c0,c1,c2,c3⟩:=h.cell
  have hq:=fun W=>eq39 W (some B)
  have H:=hid h;clear h
  have HB:=hid hb;clear hb
  have E1:=hid e1;clear e1
  have E2:=hid e2;clear e2
  (try unfold addr0)
  go_enter Tryz.func60,Tryz.ntmps60
  go_wp2
  go_ret
  exact ⟨b,rfl,by rw [E1.out,E2.out];exact ⟨_,_,_,_,H.out.mono (by omega)⟩,by rw [E1.out];exact HB.out,Fr.refl _ _⟩
theorem hold_new {Y:Rest} {S:Nat → Prop} {w:World} {sb n k:Nat} {f:Nat → Option Nat} {M st:Nat → Int} {sm:Value} {B:Nat} {c l:Int} (h:SA Y S w sb n f k M st (.map (some B)) sm c l) (num:Nat) (hnum:num < 67108864) (hb:f num = none) (hn:n < 100000000) (hS:S w.heap.size) :
    Calls Tryz.prog 60 #[.pointer (some ⟨sb,1,none⟩),.int .u64 (num:Int)] w (HoldPost Y S w sb n f k M st num):=by
  have e1:hf f num w.heap.size = put1 f num (some w.heap.size):=by simp [hf,hb]
  have e2:hk f num k = k + 1:=by simp [hk,hb]
  obtain ⟨w',hrun,h',fr'⟩:=h.pageNew hS hnum hb hn
  have hlook:=h.pages.look (show num < 2 ^ 64 by omega)
  rw [hb] at hlook
  simp only [ptrOf,Option.map_none] at hlook
  obtain ⟨c0,c1,c2,c3⟩:=h.cell
  have a0:∀ o,(w.alloc o).cell? ⟨sb,1,none⟩ = some (.map (some B)):=fun o=>(h.bl (Bl.new w o)).cell.1
  have hq:=fun W=>eq39 W (some B)
  have hpg:=zero53
  have H':=hid h';clear h'
  have H:=hid h;clear h
  have E1:=hid e1;clear e1
  have E2:=hid e2;clear e2
  have HB:=hid hb;clear hb
  (try unfold addr0)
  go_enter Tryz.func60,Tryz.ntmps60
  go_wp2
  go_ret
  exact ⟨w.heap.size,rfl,by rw [E1.out,E2.out];exact ⟨_,_,_,_,H'.out⟩,by rw [E1.out,put1_same],fr'⟩
theorem hold_nil {Y:Rest} {S:Nat → Prop} {w:World} {sb n k:Nat} {f:Nat → Option Nat} {M st:Nat → Int} {sm:Value} {c l:Int} (h:SA Y S w sb n f k M st (.map none) sm c l) (num:Nat) (hnum:num < 67108864) (hn:n < 100000000) (hS:∀ b,w.heap.size ≤ b → S b) :
    Calls Tryz.prog 60 #[.pointer (some ⟨sb,1,none⟩),.int .u64 (num:Int)] w (HoldPost Y S w sb n f k M st num):=by
  have hb:f num = none:=by
    rcases h.pages with ⟨_,h1,_⟩ | ⟨B,h0,_⟩
    · exact h1 num
    · cases h0
  obtain ⟨h0,fr0⟩:=h.pagesMade (hS _ (Nat.le_refl _))
  obtain ⟨c0,c1,c2,c3⟩:=h.cell
  have f0:=h.free 1
  have a0:∀ o,(w.alloc o).cell? ⟨sb,1,none⟩ = some (.map none):=fun o=>(h.bl (Bl.new w o)).cell.1
  have af0:∀ o,(w.alloc o).frozen? ⟨sb,1,none⟩ = false:=fun o=>(h.bl (Bl.new w o)).free 1
  have hq:=fun W=>eq39 W none
  have hmm:=@run_makeMap Tryz.prog
  have H:=hid h;clear h
  have HB:=hid hb;clear hb
  have H0:=hid h0;clear h0
  have FR0:=hid fr0;clear fr0
  (try unfold addr0)
  go_enter Tryz.func60,Tryz.ntmps60
  go_upto_region 3 with (fail)
  have hsz:w.heap.size ≤ ((w.alloc (.map #[] 0)).setCell ⟨sb,1,none⟩ (.map (some w.heap.size))).heap.size:=FR0.out.size
  clear c0 c1 c2 c3 f0 a0 af0 hq hmm
  generalize (w.alloc (.map #[] 0)).setCell ⟨sb,1,none⟩ (.map (some w.heap.size)) = W0 at *
  generalize w.heap.size = B at *
  have hS0:=hS _ hsz
  obtain ⟨w',hrun,h',fr'⟩:=H0.out.pageNew hS0 hnum HB.out hn
  have hlook:=H0.out.pages.look (show num < 2 ^ 64 by omega)
  rw [HB.out] at hlook
  simp only [ptrOf,Option.map_none] at hlook
  obtain ⟨c0,c1,c2,c3⟩:=H0.out.cell
  have a0:∀ o,(W0.alloc o).cell? ⟨sb,1,none⟩ = some (.map (some B)):=fun o=>(H0.out.bl (Bl.new W0 o)).cell.1
  have hpg:=zero53
  have H':=hid h';clear h'
  have e1:hf f num W0.heap.size = put1 f num (some W0.heap.size):=by simp [hf,HB.out]
  have e2:hk f num k = k + 1:=by simp [hk,HB.out]
  have E1:=hid e1;clear e1
  have E2:=hid e2;clear e2
  go_wp2
  go_ret
  exact ⟨W0.heap.size,rfl,by rw [E1.out,E2.out];exact ⟨_,_,_,_,H'.out⟩,by rw [E1.out,put1_same],FR0.out.trans fr'⟩
theorem hold_any {Y:Rest} {S:Nat → Prop} {w:World} {sb n k:Nat} {f:Nat → Option Nat} {M st:Nat → Int} (h:StoreAt Y S w sb n f k M st) (num:Nat) (hnum:num < 67108864) (hn:n < 100000000) (hS:∀ b,w.heap.size ≤ b → S b) :
    Calls Tryz.prog 60 #[.pointer (some ⟨sb,1,none⟩),.int .u64 (num:Int)] w (HoldPost Y S w sb n f k M st num):=by
  obtain ⟨pm,sm,c,l,h⟩:=h
  rcases hb:f num with _ | b
  · rcases h.pages with ⟨rfl,_⟩ | ⟨B,rfl,_⟩
    · exact hold_nil h num hnum hn hS
    · exact hold_new h num hnum hb hn (hS _ (Nat.le_refl _))
  · exact hold_there h num b hnum hb
end Go.Proofs.YtbngjbmfkekdnaaGreatDoor
