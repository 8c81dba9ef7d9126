/-
  Rows of structs of three cells in memory; a list of regions, a space of pages; what a call leaves of the memory that was there.
  Parts of regions: within.
  Contracts of the functions that fill words by their signs and hold them against each other, of the program and of the reference.
  Atomic operators: how wide they are, what they reckon: the program's functions.
  Atomic operators by the reference.
  Atomic operators: the reference's Do is the program's.
  Atomic operators: least and greatest, sums and back: plain facts.
-/
import Derived.Test.YtlhpodholnfppaaGreatDoorRows
import Derived.Test.YtlhpodholnfppaaGreatDoorT1
import Derived.WalkKit
import Derived.WalkSpells
import Derived.WalkLawsBesides
import Derived.Lib.Hide
import Derived.Laws.OwnMore
import Derived.Laws.AppendOwnNone
import Derived.Maps.AppendAt
import Derived.Deep.QuietTactic
import Derived.BigQuiet
import Derived.Deep.RegionHeld3
import Derived.Deep.Draws
import Derived.Below
set_option linter.unusedVariables false
set_option linter.unusedSimpArgs false
set_option maxHeartbeats 16000000
open Go.Lib (hid)
namespace Go.Proofs.YtlhpodholnfppaaGreatDoor
open Go.RowKit
set_option maxRecDepth 100000

structure Fr (S:Nat → Prop) (w w':World):Prop where
  os:w'.os = w.os
  tape:w'.tape = w.tape
  output:w'.output = w.output
  size:w.heap.size ≤ w'.heap.size
  block:∀ k,k < w.heap.size → ¬ S k → w'.heap[k]? = w.heap[k]?

abbrev Bl (w w':World):Prop:=Below w.heap.size w w'
theorem Bl.refl (w:World):Bl w w:=Below.refl _ _
theorem Bl.trans {a b c:World} (h:Bl a b) (k:Bl b c):Bl a c:=Below.trans h (Below.mono k h.size)
theorem Bl.alloc {a b:World} (h:Bl a b) (o:Obj):Bl a (b.alloc o):=Below.alloc h h.size o
theorem Bl.new (a:World) (o:Obj):Bl a (a.alloc o):=(Bl.refl a).alloc o
theorem Bl.set {a b:World} (h:Bl a b) {p:Addr} (hp:a.heap.size ≤ p.block) (u:Value):Bl a (b.setCell p u):=Below.setCell h hp u
theorem Bl.drew {a b:World} (h:Bl a b):Bl a b.drew:=Below.drew h
theorem Bl.drewN {a b:World} (h:Bl a b) (n:Nat):Bl a (b.drewN n):=h.trans ⟨rfl,rfl,rfl,Nat.le_refl _,fun _ _=>rfl⟩
theorem Below.at_ {B:Nat} {a b:World} (h:Below B a b) {k:Nat} {o:Obj} (hB:k < B) (hk:a.heap[k]? = some o):b.heap[k]? = some o:=by
  rw [h.block k hB];exact hk
theorem lt_at {w:World} {k:Nat} {o:Obj} (h:w.heap[k]? = some o):k < w.heap.size:=(Array.getElem?_eq_some_iff.1 h).1
theorem Bl.at_ {a b:World} (h:Bl a b) {k:Nat} {o:Obj} (hk:a.heap[k]? = some o):b.heap[k]? = some o:=Below.at_ h (lt_at hk) hk
theorem Bl.cell' {a b:World} (h:Bl a b) {p:Addr} {v:Value} (hp:a.cell? p = some v):b.cell? p = some v:=by rw [Below.cell h (block_lt_of_cell hp)];exact hp

theorem Fr.of_bl {S:Nat → Prop} {a b:World} (h:Bl a b):Fr S a b:=⟨h.os,h.tape,h.output,h.size,fun k hk _=>h.block k hk⟩
theorem Fr.refl (S:Nat → Prop) (w:World):Fr S w w:=Fr.of_bl (Bl.refl w)
theorem Fr.trans {S:Nat → Prop} {a b c:World} (h:Fr S a b) (k:Fr S b c):Fr S a c:=
  ⟨k.os.trans h.os,k.tape.trans h.tape,k.output.trans h.output,Nat.le_trans h.size k.size,
   fun i hi hn=>(k.block i (Nat.lt_of_lt_of_le hi h.size) hn).trans (h.block i hi hn)⟩
theorem Fr.mono {S T:Nat → Prop} {a b:World} (h:Fr S a b) (hs:∀ k,k < a.heap.size → S k → T k):Fr T a b:=
  ⟨h.os,h.tape,h.output,h.size,fun k hk hn=>h.block k hk (fun e=>hn (hs k hk e))⟩
theorem Fr.bl {S:Nat → Prop} {a b:World} (h:Fr S a b) (hs:∀ k,k < a.heap.size → ¬ S k):Bl a b:=⟨h.os,h.tape,h.output,h.size,fun k hk=>h.block k hk (hs k hk)⟩
theorem Fr.set {S:Nat → Prop} {a:World} {p:Addr} (hp:S p.block) (u:Value):Fr S a (a.setCell p u):=
  ⟨rfl,rfl,rfl,by simp [World.setCell],fun k hk hn=>Below.heap_setCell _ _ _ _ (fun e=>hn (e ▸ hp))⟩
theorem Fr.at_ {S:Nat → Prop} {a b:World} (h:Fr S a b) {k:Nat} {o:Obj} (hk:a.heap[k]? = some o) (hn:¬ S k):b.heap[k]? = some o:=by
  rw [h.block k (lt_at hk) hn];exact hk

section
variable {α:Type} {c:α → List Value} {t:TypeId} {w w':World} {base:Nat} {v:Value} {L:List α}
def flat (c:α → List Value) (L:List α):List Value:=L.flatMap c
theorem flat_append (c:α → List Value) (A B:List α):flat c (A ++ B) = flat c A ++ flat c B:=by simp [flat]
theorem flat_length (hc:∀ x,(c x).length = 3) (L:List α):(flat c L).length = L.length * 3:=by
  induction L with
  | nil=>rfl
  | cons x L ih=>simp only [flat,List.flatMap_cons,List.length_append,List.length_cons] at *;rw [hc,ih];omega
theorem flat_get (hc:∀ x,(c x).length = 3) (L:List α) (k j:Nat) (x:α) (hk:L[k]? = some x) (hj:j < 3):(flat c L)[k * 3 + j]? = (c x)[j]?:=by
  induction L generalizing k with
  | nil=>cases hk
  | cons y L ih =>
    have e:flat c (y :: L) = c y ++ flat c L:=by simp [flat]
    rw [e]
    cases k with
    | zero =>
      simp only [List.getElem?_cons_zero,Option.some.injEq] at hk
      subst hk
      rw [List.getElem?_append_left (by rw [hc];omega)]
      congr 1;omega
    | succ k =>
      rw [List.getElem?_cons_succ] at hk
      rw [List.getElem?_append_right (by rw [hc];omega),hc,show (k + 1) * 3 + j - 3 = k * 3 + j by omega]
      exact ih k hk
def RowG (t:TypeId) (c:α → List Value) (w:World) (base:Nat) (v:Value) (L:List α):Prop:=
  w.ownsRow base t 3 v L.length (flat c L)∧(L = [] → v = .slice none 0 0)
theorem RowG.nil:RowG t c w base (.slice none 0 0) []:=⟨⟨rfl,.inl ⟨rfl,rfl⟩⟩,fun _=>rfl⟩
theorem RowG.form (h:RowG t c w base v L) (hL:L ≠ []):∃ g cap cur,v = .slice (some ⟨g,0,none⟩) L.length cap∧base ≤ g∧L.length ≤ cap∧w.heap[g]? = some (.cells cur t (0,0))∧g < w.heap.size:=by
  rcases h.1.2 with ⟨rfl,h0⟩ | ⟨g,cap,cur,rfl,h1,h2,h3,h4,h5,h6⟩
  · exact absurd (List.eq_nil_of_length_eq_zero h0) hL
  · exact ⟨g,cap,cur,rfl,h1,h3,h2,lt_at h2⟩
theorem RowG.shape (h:RowG t c w base v L):∃ A cap,v = .slice A L.length cap:=by
  rcases h.1.2 with ⟨rfl,h0⟩ | ⟨g,cap,cur,rfl,h1,h2,h3,h4,h5,h6⟩
  · exact ⟨none,0,by rw [h0]⟩
  · exact ⟨_,_,rfl⟩
theorem RowG.cell {g cap n:Nat} (h:RowG t c w base (.slice (some ⟨g,0,none⟩) n cap) L) (hc:∀ x,(c x).length = 3) (k j:Nat) (x:α) (hk:L[k]? = some x) (hj:j < 3):w.cell? ⟨g,k * 3 + j,none⟩ = (c x)[j]?:=by
  have hlt:k < L.length:=(List.getElem?_eq_some_iff.1 hk).1
  rcases h.1.2 with ⟨h1,h0⟩ | ⟨g',cap',cur,h1,_⟩
  · cases h1
  · have hn:n = L.length:=by injection h1
    subst hn
    rw [h.1.cellAt (k * 3 + j) (by omega),flat_get hc L k j x hk hj]
theorem RowG.free {g cap n:Nat} (h:RowG t c w base (.slice (some ⟨g,0,none⟩) n cap) L) (j:Nat):w.frozen? ⟨g,j,none⟩ = false:=by
  rcases h.1.2 with ⟨h1,h0⟩ | ⟨g',cap',cur,h1,_,h2,_⟩
  · cases h1
  · injection h1 with h3 h4
    injection h3 with h3
    injection h3 with h3
    subst h3
    simp [World.frozen?,h2]
theorem RowG.kept (h:RowG t c w base v L) (hb:∀ g,v.ownBlock = some g → w'.heap[g]? = w.heap[g]?):RowG t c w' base v L:=by
  refine ⟨⟨h.1.1,?_⟩,h.2⟩
  rcases h.1.2 with h1 | ⟨g,cap,cur,rfl,h1,h2,h3⟩
  · exact .inl h1
  · exact .inr ⟨g,cap,cur,rfl,h1,by rw [hb g rfl];exact h2,h3⟩
theorem RowG.lt (h:RowG t c w base v L):∀ g,v.ownBlock = some g → base ≤ g∧g < w.heap.size:=h.1.lt
theorem RowG.bl (h:RowG t c w base v L) (hb:Bl w w'):RowG t c w' base v L:=h.kept fun g hg=>hb.block g (h.lt g hg).2
theorem RowG.base_ {b2:Nat} (h:RowG t c w base v L) (hb:∀ g,v.ownBlock = some g → b2 ≤ g):RowG t c w b2 v L:=by
  refine ⟨⟨h.1.1,?_⟩,h.2⟩
  rcases h.1.2 with h1 | ⟨g,cap,cur,rfl,h1,h2,h3⟩
  · exact .inl h1
  · exact .inr ⟨g,cap,cur,rfl,hb g rfl,h2,h3⟩
theorem RowG.type (h:RowG t c w base v L) {g:Nat} (hg:v.ownBlock = some g):∃ cur,w.heap[g]? = some (.cells cur t (0,0)):=by
  rcases h.1.2 with ⟨rfl,_⟩ | ⟨g',cap,cur,rfl,h1,h2,h3⟩
  · cases hg
  · simp only [Value.ownBlock,Option.some.injEq] at hg
    subst hg
    exact ⟨cur,h2⟩
end
theorem row_append {α:Type} {c:α → List Value} {t ts:TypeId} {i:TypeInfo} {z:Value} {bytes:Nat} {W:World} {base:Nat} {v:Value} {L:List α} (ht:Tryz.prog.underlying ts = some (.slice t)) (hi:Tryz.prog.info? t = some i) (hz:i.zero = some z) (hsize:i.size = 3) (hby:i.bytes = bytes) (hzs:z.cells.size = 3) (hb1:bytes ≤ 1000)
    (hc:∀ x,(c x).length = 3) (hone:∀ x u,u ∈ c x → u.oneCell' = true) (h:RowG t c W base v L) (ty:TypeId) (A:Option Addr) (M:List α) (m cap:Nat) (hm:m = M.length) (hA:M = [] → A = none∧cap = 0) (hcell:∀ ad,A = some ad → ∀ j u,(flat c M)[j]? = some u → W.cell? (ad.add j) = some u) (hA2:M ≠ [] → A ≠ none)
    (hl:L.length + M.length ≤ 1000000) (hbase:base ≤ W.heap.size) :
    ∃ v' W',(Builtin.append_ #[ts,ts] ty #[v,.slice A m cap]).run Tryz.prog W = .ok v' W'∧RowG t c W' base v' (L ++ M)∧W.grownBy W' v.ownBlock∧(v'.ownBlock = v.ownBlock ∨ v'.ownBlock = some W.heap.size):=by
  subst hm
  rcases hM:M with _ | ⟨x,M'⟩
  · obtain ⟨rfl,rfl⟩:=hA hM
    exact ⟨v,W,run_append_owned_none (P:=Tryz.prog) (w:=W) base ts ty t i 3 ht hi v L.length (flat c L) h.1,by simpa using h,World.grownBy.refl W _,.inl rfl⟩
  · rw [← hM]
    have hne:M ≠ []:=by rw [hM];simp
    rcases A with _ | ad
    · exact absurd rfl (hA2 hne)
    · obtain ⟨v',w',h1,h2,h3,h4,h5⟩:=run_append_own_at (P:=Tryz.prog) W base ts ty t i z 3 bytes ht hi hz hsize hby hzs (by omega) v L.length (flat c L) h.1 ad M.length cap (flat c M) (flat_length hc M) (hcell ad rfl) (fun u hu=>by
        simp only [flat,List.mem_flatMap] at hu
        obtain ⟨x,_,hx⟩:=hu
        exact hone x u hx) (by simp only [maxLen];omega) (Nat.le_trans (Nat.mul_le_mul hl hb1) (by decide)) hbase
      refine ⟨v',w',h1,⟨?_,fun e=>absurd (List.append_eq_nil_iff.1 e).2 hne⟩,h3,h5⟩
      rw [List.length_append,flat_append];exact h2
def rgC (r:Rg):List Value:=[.int .u64 r.s,.int .u64 r.e,.int .i64 r.p]
abbrev Row:=RowG (α:=Rg) 112 rgC
theorem rgC_len (r:Rg):(rgC r).length = 3:=rfl
theorem rgC_one (r:Rg) (u:Value) (h:u ∈ rgC r):u.oneCell' = true:=by
  simp only [rgC,List.mem_cons,List.not_mem_nil,or_false] at h
  rcases h with rfl | rfl | rfl <;> rfl
theorem info51:(Tryz.prog.info? 112).map (fun i=>(i.zero,i.size,i.bytes)) = some (some (.agg #[.int .u64 0,.int .u64 0,.int .i64 0]),3,24):=by kernel_rfl
theorem row_cells {w:World} {base g cap n:Nat} {L:List Rg} (h:Row w base (.slice (some ⟨g,0,none⟩) n cap) L) (k:Nat) (r:Rg) (hk:L[k]? = some r) :
    w.cell? ⟨g,k * 3,none⟩ = some (.int .u64 r.s)∧w.cell? ⟨g,k * 3 + 1,none⟩ = some (.int .u64 r.e)∧w.cell? ⟨g,k * 3 + 2,none⟩ = some (.int .i64 r.p):=
  ⟨by simpa [rgC] using h.cell rgC_len k 0 r hk (by omega),by simpa [rgC] using h.cell rgC_len k 1 r hk (by omega),by simpa [rgC] using h.cell rgC_len k 2 r hk (by omega)⟩
structure Ctx where
  rest:List Value
  t:TypeId
  ne:t ≠ 112
def ListFrom (X:Ctx) (base:Nat) (w:World) (b:Nat) (L:List Rg):Prop:=∃ v,w.heap[b]? = some (.cells (v :: X.rest).toArray X.t (0,0))∧Row w base v L
abbrev ListAt (X:Ctx):=ListFrom X 0
def alone:Ctx:=⟨[],97,by decide⟩
end Go.Proofs.YtlhpodholnfppaaGreatDoor

namespace Go.Proofs.YtlhpodholnfppaaGreatDoor
open Go.RowKit
set_option maxRecDepth 100000
theorem min_run {P:Program} (ts:Array TypeId) (t:TypeId) (k k':IntKind) (x y:Int) (w:World):(Builtin.min_ ts t #[.int k x,.int k' y]).run P w = .ok (.int k (if y < x then y else x)) w:=by
  simp [Builtin.min_,Builtin.min2]
theorem max_run {P:Program} (ts:Array TypeId) (t:TypeId) (k k':IntKind) (x y:Int) (w:World):(Builtin.max_ ts t #[.int k x,.int k' y]).run P w = .ok (.int k (if x < y then y else x)) w:=by
  simp [Builtin.max_,Builtin.max2]
theorem row_push {W:World} {base:Nat} {v:Value} {L:List Rg} (h:Row W base v L) (q:Rg) (g:Nat) (ty:TypeId) (hg:W.heap[g]? = some (.cells #[.int .u64 q.s,.int .u64 q.e,.int .i64 q.p] 112 (0,0))) (hl:L.length ≤ 100000) (hbase:base ≤ W.heap.size) :
    ∃ v' W',(Builtin.append_ #[95,95] ty #[v,.slice (some ⟨g,0,none⟩) 1 1]).run Tryz.prog W = .ok v' W'∧Row W' base v' (L ++ [q])∧W.grownBy W' v.ownBlock∧(v'.ownBlock = v.ownBlock ∨ v'.ownBlock = some W.heap.size):=by
  obtain ⟨i0,hi0,hz0,hz1,hz2⟩:=info_parts info51
  refine row_append (t:=112) (ts:=95) Tryz.underlying95 hi0 hz0 hz1 hz2 rfl (by omega) rgC_len rgC_one h ty (some ⟨g,0,none⟩) [q] 1 1 rfl (fun e=>by cases e) (fun ad had j u hj=>?_) (fun _ e=>by cases e) (by simp;omega) hbase
  cases had
  have e1:(⟨g,0,none⟩:Addr).add j = ⟨g,j,none⟩:=by unfold Addr.add;split <;> simp_all
  rw [e1,cell_of_row W g j _ 112 (0,0) hg]
  simpa [flat,rgC] using hj
def addr0 (b:Nat):Value:=.pointer (some ⟨b,0,none⟩)
def RowPost (w:World) (L:List Rg) (e:Ending) (w':World):Prop:=∃ v,e = .returned v∧Row w' w.heap.size v L∧Bl w w'
theorem within_take (L:List Rg) (a b:Int) (k:Nat) (r:Rg) (hk:L[k]? = some r):within (L.take (k + 1)) a b = within (L.take k) a b ++ (clip a b r).toList:=by
  rw [List.take_add_one,hk]
  simp only [within,List.filterMap_append,Option.toList]
  cases h:clip a b r <;> simp [h]
theorem within_any {X:Ctx} {w:World} {b:Nat} {L:List Rg} (h:ListAt X w b L) (a c:Int) (hl:L.length ≤ 1000) :
    Calls Tryz.prog 147 #[addr0 b,.int .u64 a,.int .u64 c] w (RowPost w (within L a c)):=by
  obtain ⟨v,hb,hr⟩:=h
  obtain ⟨A,cap,rfl⟩:=hr.shape
  have hcell:w.cell? ⟨b,0,none⟩ = some (.slice A L.length cap):=by rw [cell_of_row w b 0 _ _ (0,0) hb];simp
  have hlI:(L.length:Int) ≤ 1000:=by omega
  have HR:=hid hr;clear hr
  have HB:=hid hb;clear hb
  obtain ⟨n,hn⟩:∃ n,n = L.length:=⟨_,rfl⟩
  rw [← hn] at hcell hlI HR
  have HN:=hid hn;clear hn
  have HL:=hid hl;clear hl
  unfold addr0
  go_enter Tryz.func147,Tryz.ntmps147
  go_wp2_with fail
  go_loopw [7,9,15] (fun v7 _ i wr=>∃ k:Nat,k ≤ n∧i = .int .i64 k∧Row wr w.heap.size v7 (within (L.take k) a c)∧Bl w wr) (fun _ _ i _=>n - (intOf i).toNat)
  case atStart=>exact ⟨0,by omega,rfl,RowG.nil,Bl.refl _⟩
  case round =>
    obtain ⟨k,hk,rfl,hrow,hbl⟩:=hrel
    have HROW:=hid hrow;clear hrow
    have HBL:=hid hbl;clear hbl
    by_cases hlt:k < n
    · have hltL:k < L.length:=by have:=HN.out;omega
      obtain ⟨r,hr⟩:∃ r,L[k]? = some r:=⟨L[k],List.getElem?_eq_getElem hltL⟩
      have hne:L ≠ []:=by intro e;rw [e] at hltL;simp at hltL
      obtain ⟨g,cap',cur,hA,_,hnc,hg,_⟩:=HR.out.form hne
      have hA':A = some ⟨g,0,none⟩:=by injection hA
      subst hA'
      obtain ⟨c0,c1,c2⟩:=row_cells (HR.out.bl HBL.out) k r hr
      clear hA hnc hg hne hltL
      have HRK:=hid hr;clear hr
      have hkI:(k:Int) < (n:Int):=by omega
      obtain ⟨m1,hm1⟩:∃ m1,m1 = max r.s a:=⟨_,rfl⟩
      obtain ⟨m2,hm2⟩:∃ m2,m2 = min r.e c:=⟨_,rfl⟩
      have mx:∀ ts t W,(Builtin.max_ ts t #[.int .u64 r.s,.int .u64 a]).run Tryz.prog W = .ok (.int .u64 m1) W:=fun ts t W=>by
        rw [max_run];congr 2;rw [hm1];omega
      have mn:∀ ts t W,(Builtin.min_ ts t #[.int .u64 r.e,.int .u64 c]).run Tryz.prog W = .ok (.int .u64 m2) W:=fun ts t W=>by
        rw [min_run];congr 2;rw [hm2];omega
      have hclip:clip a c r = if m1 < m2 then some ⟨m1,m2,r.p⟩ else none:=by rw [hm1,hm2];unfold clip;split <;> rfl
      have hstep:=within_take L a c k r HRK.out
      rw [hclip] at hstep
      have hwl:(within (L.take k) a c).length ≤ 1000:=by
        have h1:=within_len (L.take k) a c
        have h2:=HL.out
        rw [List.length_take] at h1;omega
      clear hclip hm1 hm2
      have HS:=hid hstep;clear hstep
      have HWL:=hid hwl;clear hwl
      by_cases hc:m1 < m2
      · have hb2:Bl w ((wr.alloc (.cells #[.int .u64 m1,.int .u64 m2,.int .i64 r.p] 112)).alloc (.cells #[.int .u64 m1,.int .u64 m2,.int .i64 r.p] 112)):=(HBL.out.alloc _).alloc _
        have hrow2:=(HROW.out.bl (Bl.new _ (.cells #[.int .u64 m1,.int .u64 m2,.int .i64 r.p] 112))).bl (Bl.new _ (.cells #[.int .u64 m1,.int .u64 m2,.int .i64 r.p] 112))
        obtain ⟨v',W',hrun,hrow3,hgr,_⟩:=row_push hrow2 ⟨m1,m2,r.p⟩ (wr.heap.size + 1) 95 (by
          have:=heap_alloc_new (wr.alloc (.cells #[.int .u64 m1,.int .u64 m2,.int .i64 r.p] 112)) (.cells #[.int .u64 m1,.int .u64 m2,.int .i64 r.p] 112)
          rw [show (wr.alloc (.cells #[.int .u64 m1,.int .u64 m2,.int .i64 r.p] 112)).heap.size = wr.heap.size + 1 by simp] at this
          exact this) (by have:=HWL.out;omega) hb2.size
        have hbl3:Bl w W':=Below.grown hb2 hgr hb2.size (fun q hq=>(hrow2.lt q hq).1)
        have HROW3:=hid hrow3;clear hrow3 hrow2 hb2 hgr
        have HBL3:=hid hbl3;clear hbl3
        have HRUN:=hid hrun;clear hrun
        go_wp2_with (first | (at_builtin;refine wpl_append_run rfl (.tmp 34) (.tmp 36) 95 rfl _ _ _ rfl rfl HRUN.out ?_))
        refine ⟨⟨k + 1,by omega,by go_num,by rw [HS.out,if_pos hc];exact HROW3.out,HBL3.out⟩,?_⟩
        simp only [intOf];omega
      · have hb2:Bl w (wr.alloc (.cells #[.int .u64 m1,.int .u64 m2,.int .i64 r.p] 112)):=HBL.out.alloc _
        have hrow2:=HROW.out.bl (Bl.new _ (.cells #[.int .u64 m1,.int .u64 m2,.int .i64 r.p] 112))
        have HB2:=hid hb2;clear hb2
        have HROW2:=hid hrow2;clear hrow2
        go_wp2_with fail
        refine ⟨⟨k + 1,by omega,by go_num,by rw [HS.out,if_neg hc];simpa using HROW2.out,HB2.out⟩,?_⟩
        simp only [intOf];omega
    · obtain rfl:k = n:=by omega
      have hfin:=HROW.out
      rw [HN.out,List.take_length] at hfin
      have HF:=hid hfin;clear hfin
      go_wp2_with fail
      go_ret
      exact ⟨_,rfl,HF.out,HBL.out⟩
end Go.Proofs.YtlhpodholnfppaaGreatDoor

namespace Go.Proofs.YtlhpodholnfppaaGreatDoor
open Go.RowKit
theorem ret_pairb {k:IntKind} {a b:Int} {c:Bool} (h:a = b):Ending.returned (.tuple #[.int k a,.bool c]) = .returned (.tuple #[.int k b,.bool c]):=by rw [h]
theorem nin {op k:Int} (h:¬ op = k):(op == k) = false:=beq_eq_false_iff_ne.2 h
theorem ret_int {k:IntKind} {a b:Int} (h:a = b):Ending.returned (.int k a) = .returned (.int k b):=by rw [h]
theorem ret_bool {a b:Bool} (h:a = b):Ending.returned (.bool a) = .returned (.bool b):=by rw [h]

def sextI (x b:Int):Int:=if 1 ≤ b∧b ≤ 64 then sx x b.toNat else x

theorem sext_any (x b:Int) (w:World) :
    Calls Tryz.prog 129 #[.int .u64 x,.int .i64 b] w fun e w'=>e = .returned (.int .u64 (sextI x b))∧w = w':=by
  by_cases hb:1 ≤ b∧b ≤ 64
  · obtain ⟨h1,h2⟩:=hb
    obtain ⟨n,rfl⟩:=Int.eq_ofNat_of_zero_le (show 0 ≤ b by omega)
    have hs:=hid (shifts x n (by omega) (by omega))
    go_enter Tryz.func129,Tryz.ntmps129
    go_wp2
    go_ret
    exact ⟨ret_int (by rw [hs.out];unfold sextI;rw [if_pos ⟨h1,h2⟩];rfl),rfl⟩
  · by_cases h1:b < 1
    · go_enter Tryz.func129,Tryz.ntmps129
      go_wp2
      go_ret
      exact ⟨ret_int (by unfold sextI;rw [if_neg hb]),rfl⟩
    · have h2:64 < b:=by omega
      go_enter Tryz.func129,Tryz.ntmps129
      go_wp2
      go_ret
      exact ⟨ret_int (by unfold sextI;rw [if_neg hb]),rfl⟩

def isNeg (x:Int):Bool:=x / 2 ^ 63 % 2 == 1
theorem isNeg_iff (x:Int) (h0:0 ≤ x) (h:x < 18446744073709551616):isNeg x = true ↔ 9223372036854775808 ≤ x:=by
  unfold isNeg;rw [beq_iff_eq,show (2:Int) ^ 63 = 9223372036854775808 from rfl];omega
theorem isNeg_wrap (x:Int) (h0:0 ≤ x) (h:x < 18446744073709551616):isNeg x = true ↔ wrap64 x < 0:=by
  rw [isNeg_iff x h0 h];unfold wrap64;omega

end Go.Proofs.YtlhpodholnfppaaGreatDoor

namespace Go.Proofs.YtlhpodholnfppaaGreatDoor
open Go.RowKit
set_option maxRecDepth 100000
def awid (op:Int):Nat:=if 63 ≤ op∧op ≤ 73 then 4 else if 74 ≤ op∧op ≤ 84 then 8 else 0
theorem awid4 {op:Int} (h:63 ≤ op∧op ≤ 73):awid op = 4:=if_pos h
theorem awid8 {op:Int} (h:74 ≤ op∧op ≤ 84):awid op = 8:=by unfold awid;rw [if_neg (by omega),if_pos h]
theorem awid0 {op:Int} (h:op < 63 ∨ 84 < op):awid op = 0:=by unfold awid;rw [if_neg (by omega),if_neg (by omega)]
theorem awid_one (op:Int):awid op = 4 ∨ awid op = 8 ∨ awid op = 0:=by
  rcases (by omega:(63 ≤ op∧op ≤ 73) ∨ (74 ≤ op∧op ≤ 84) ∨ (op < 63 ∨ 84 < op)) with h | h | h
  · exact .inl (awid4 h)
  · exact .inr (.inl (awid8 h))
  · exact .inr (.inr (awid0 h))
theorem awidth_any (op:Int) (w:World):Calls Tryz.prog 86 #[.int .i64 op] w fun e w'=>e = .returned (.int .i64 (awid op))∧w = w':=by
  rcases (by omega:op < 63 ∨ (63 ≤ op∧op ≤ 73) ∨ (74 ≤ op∧op ≤ 84) ∨ 84 < op) with h | ⟨h,h'⟩ | ⟨h,h'⟩ | h
  · rw [awid0 (.inl h)]
    go_enter Tryz.func86,Tryz.ntmps86
    go_wp2
    go_ret
    exact ⟨rfl,rfl⟩
  · rw [awid4 ⟨h,h'⟩]
    go_enter Tryz.func86,Tryz.ntmps86
    go_wp2
    go_ret
    exact ⟨rfl,rfl⟩
  · rw [awid8 ⟨h,h'⟩]
    go_enter Tryz.func86,Tryz.ntmps86
    go_wp2
    go_ret
    exact ⟨rfl,rfl⟩
  · rw [awid0 (.inr h)]
    go_enter Tryz.func86,Tryz.ntmps86
    go_wp2
    go_ret
    exact ⟨rfl,rfl⟩
theorem alow_any (x:Int) (n:Nat) (w:World) (hn:n = 0 ∨ n = 32 ∨ n = 64) (h0:0 ≤ x) (h:x < 18446744073709551616):Calls Tryz.prog 212 #[.int .u64 x,.int .i64 n] w fun e w'=>e = .returned (.int .u64 (x % 2 ^ n))∧w = w':=by
  obtain ⟨X,rfl⟩:=Int.eq_ofNat_of_zero_le h0
  rcases hn with rfl | rfl | rfl
  · have e:bits .and .u64 (X:Int) 0 = (X:Int) % 2 ^ 0:=by
      have:=u64_and_nat X 0 (by omega) (by decide)
      rw [Nat.and_zero] at this
      rw [Int.pow_zero,Int.emod_one];exact this
    have E:=hid e;clear e
    go_enter Tryz.func212,Tryz.ntmps212
    go_wp2
    go_ret
    exact ⟨ret_int E.out,rfl⟩
  · have e:bits .and .u64 (X:Int) 4294967295 = (X:Int) % 2 ^ 32:=by
      have:=u64_and_nat X 4294967295 (by omega) (by decide)
      rw [show X &&& 4294967295 = X % 2 ^ 32 from Nat.and_two_pow_sub_one_eq_mod X 32] at this
      exact this.trans (by rw [Int.natCast_emod];rfl)
    have E:=hid e;clear e
    go_enter Tryz.func212,Tryz.ntmps212
    go_wp2
    go_ret
    exact ⟨ret_int E.out,rfl⟩
  · have e:bits .and .u64 (X:Int) 18446744073709551615 = (X:Int) % 2 ^ 64:=by
      have:=u64_and_nat X 18446744073709551615 (by omega) (by decide)
      rw [show X &&& 18446744073709551615 = X % 2 ^ 64 from Nat.and_two_pow_sub_one_eq_mod X 64] at this
      exact this.trans (by rw [Int.natCast_emod];rfl)
    have E:=hid e;clear e
    go_enter Tryz.func212,Tryz.ntmps212
    go_wp2
    go_ret
    exact ⟨ret_int E.out,rfl⟩
def reckV (op a b:Int):Int:=
  if op = 65 ∨ op = 76 then b
  else if op = 66 ∨ op = 77 then IntKind.u64.wrap (a + b)
  else if op = 67 ∨ op = 78 then bits .xor .u64 a b
  else if op = 68 ∨ op = 79 then bits .and .u64 a b
  else if op = 69 ∨ op = 80 then bits .or .u64 a b
  else if op = 70 ∨ op = 81 then IntKind.u64.wrap (if wrap64 b < wrap64 a then wrap64 b else wrap64 a)
  else if op = 71 ∨ op = 82 then IntKind.u64.wrap (if wrap64 a < wrap64 b then wrap64 b else wrap64 a)
  else if op = 72 ∨ op = 83 then (if b < a then b else a)
  else if op = 73 ∨ op = 84 then (if a < b then b else a)
  else 0
def amoOps:List Int:=[65,76,66,77,67,78,68,79,69,80,70,81,71,82,72,83,73,84]
theorem reck_yes (op a b:Int) (w:World) (hop:op ∈ amoOps) :
    Calls Tryz.prog 211 #[.int .i64 op,.int .u64 a,.int .u64 b] w fun e w'=>e = .returned (.tuple #[.int .u64 (reckV op a b),.bool true])∧w = w':=by
  have h1:∀ W,(Builtin.min_ #[2,2] 2 #[.int .i64 (wrap64 a),.int .i64 (wrap64 b)]).run Tryz.prog W = .ok (.int .i64 (if wrap64 b < wrap64 a then wrap64 b else wrap64 a)) W:=fun W=>by rw [min_run]
  have h2:∀ W,(Builtin.max_ #[2,2] 2 #[.int .i64 (wrap64 a),.int .i64 (wrap64 b)]).run Tryz.prog W = .ok (.int .i64 (if wrap64 a < wrap64 b then wrap64 b else wrap64 a)) W:=fun W=>by rw [max_run]
  have h3:∀ W,(Builtin.min_ #[29,29] 29 #[.int .u64 a,.int .u64 b]).run Tryz.prog W = .ok (.int .u64 (if b < a then b else a)) W:=fun W=>by rw [min_run]
  have h4:∀ W,(Builtin.max_ #[29,29] 29 #[.int .u64 a,.int .u64 b]).run Tryz.prog W = .ok (.int .u64 (if a < b then b else a)) W:=fun W=>by rw [max_run]
  obtain ⟨m1,e1⟩:∃ m,m = (if wrap64 b < wrap64 a then wrap64 b else wrap64 a):=⟨_,rfl⟩
  obtain ⟨m2,e2⟩:∃ m,m = (if wrap64 a < wrap64 b then wrap64 b else wrap64 a):=⟨_,rfl⟩
  obtain ⟨m3,e3⟩:∃ m,m = (if b < a then b else a):=⟨_,rfl⟩
  obtain ⟨m4,e4⟩:∃ m,m = (if a < b then b else a):=⟨_,rfl⟩
  unfold reckV
  rw [← e1,← e2,← e3,← e4]
  rw [← e1] at h1;rw [← e2] at h2;rw [← e3] at h3;rw [← e4] at h4
  clear e1 e2 e3 e4
  simp only [amoOps,List.mem_cons,List.not_mem_nil,or_false] at hop
  rcases hop with rfl | rfl | rfl | rfl | rfl | rfl | rfl | rfl | rfl | rfl | rfl | rfl | rfl | rfl | rfl | rfl | rfl | rfl
  all_goals
    go_enter Tryz.func211,Tryz.ntmps211
    go_wp2
    go_ret2
    exact ⟨rfl,rfl⟩
theorem reck_no (op a b:Int) (w:World) (hop:op ∉ amoOps) :
    Calls Tryz.prog 211 #[.int .i64 op,.int .u64 a,.int .u64 b] w fun e w'=>e = .returned (.tuple #[.int .u64 0,.bool false])∧w = w':=by
  simp only [amoOps,List.mem_cons,List.not_mem_nil,or_false,not_or] at hop
  obtain ⟨h1,h2,h3,h4,h5,h6,h7,h8,h9,h10,h11,h12,h13,h14,h15,h16,h17,h18⟩:=hop
  replace h1:=nin h1;replace h2:=nin h2;replace h3:=nin h3;replace h4:=nin h4;replace h5:=nin h5;replace h6:=nin h6;replace h7:=nin h7
  replace h8:=nin h8;replace h9:=nin h9;replace h10:=nin h10;replace h11:=nin h11;replace h12:=nin h12;replace h13:=nin h13;replace h14:=nin h14
  replace h15:=nin h15;replace h16:=nin h16;replace h17:=nin h17;replace h18:=nin h18
  go_enter Tryz.func211,Tryz.ntmps211
  go_wp2
  go_ret2
  exact ⟨rfl,rfl⟩
theorem reckV_no {op a b:Int} (hop:op ∉ amoOps):reckV op a b = 0:=by
  simp only [amoOps,List.mem_cons,List.not_mem_nil,or_false,not_or] at hop
  unfold reckV
  obtain ⟨h1,h2,h3,h4,h5,h6,h7,h8,h9,h10,h11,h12,h13,h14,h15,h16,h17,h18⟩:=hop
  simp [h1,h2,h3,h4,h5,h6,h7,h8,h9,h10,h11,h12,h13,h14,h15,h16,h17,h18]
theorem reck_any (op a b:Int) (w:World) :
    Calls Tryz.prog 211 #[.int .i64 op,.int .u64 a,.int .u64 b] w fun e w'=>e = .returned (.tuple #[.int .u64 (reckV op a b),.bool (decide (op ∈ amoOps))])∧w = w':=by
  by_cases h:op ∈ amoOps
  · rw [decide_eq_true h];exact reck_yes op a b w h
  · rw [decide_eq_false h,reckV_no h];exact reck_no op a b w h
theorem wbits_bd (k:BinOp) (hk:k = .xor ∨ k = .and ∨ k = .or) (a b:Int) (a0:0 ≤ a) (a1:a < 18446744073709551616) (b0:0 ≤ b) (b1:b < 18446744073709551616):0 ≤ bits k .u64 a b∧bits k .u64 a b < 18446744073709551616:=by
  obtain ⟨A,rfl⟩:=Int.eq_ofNat_of_zero_le a0
  obtain ⟨B,rfl⟩:=Int.eq_ofNat_of_zero_le b0
  rcases hk with rfl | rfl | rfl
  · rw [u64_xor_nat A B (by omega) (by omega)]
    have:=Nat.xor_lt_two_pow (n:=64) (x:=A) (y:=B) (by omega) (by omega)
    omega
  · rw [u64_and_nat A B (by omega) (by omega)]
    have:=Nat.and_lt_two_pow (n:=64) A (y:=B) (by omega)
    omega
  · rw [u64_or_nat A B (by omega) (by omega)]
    have:=Nat.or_lt_two_pow (n:=64) (x:=A) (y:=B) (by omega) (by omega)
    omega
theorem reckV_bd (op a b:Int) (a0:0 ≤ a) (a1:a < 18446744073709551616) (b0:0 ≤ b) (b1:b < 18446744073709551616):0 ≤ reckV op a b∧reckV op a b < 18446744073709551616:=by
  have q1:=wbits_bd .xor (by simp) a b a0 a1 b0 b1
  have q2:=wbits_bd .and (by simp) a b a0 a1 b0 b1
  have q3:=wbits_bd .or (by simp) a b a0 a1 b0 b1
  unfold reckV
  generalize bits .xor .u64 a b = X at *
  generalize bits .and .u64 a b = Y at *
  generalize bits .or .u64 a b = Z at *
  simp only [IntKind.wrap_u64]
  repeat' split
  all_goals omega
theorem sextI_bd (x:Int) (b:Int) (h0:0 ≤ x) (h:x < 18446744073709551616):0 ≤ sextI x b∧sextI x b < 18446744073709551616:=by
  unfold sextI;split
  · exact sx_bd x _
  · exact ⟨h0,h⟩
def amoV (op a b:Int):Int:=reckV op (sextI a (8 * awid op:Nat)) (sextI b (8 * awid op:Nat)) % 2 ^ (8 * awid op)
def amoOk (op:Int):Bool:=decide (op ∈ amoOps)
theorem do_any (op a b:Int) (w:World) (a0:0 ≤ a) (a1:a < 18446744073709551616) (b0:0 ≤ b) (b1:b < 18446744073709551616) :
    Calls Tryz.prog 179 #[.int .i64 op,.int .u64 a,.int .u64 b] w fun e w'=>e = .returned (.tuple #[.int .u64 (amoV op a b),.bool (amoOk op)])∧w = w':=by
  unfold amoV amoOk
  have hwo:=awid_one op
  have cw:=awidth_any op
  have cr:=fun x y w=>reck_any op x y w
  generalize decide (op ∈ amoOps) = ok at *
  obtain ⟨n,hn⟩:∃ n,n = 8 * awid op:=⟨_,rfl⟩
  rw [← hn]
  have hn3:n = 0 ∨ n = 32 ∨ n = 64:=by omega
  have hm:IntKind.i64.wrap (8 * (awid op:Int)) = (n:Int):=by rw [hn];rcases hwo with h | h | h <;> rw [h] <;> rfl
  have HM:=hid hm;clear hm
  have sa:=sextI_bd a n a0 a1
  have sb:=sextI_bd b n b0 b1
  have hr:=reckV_bd op _ _ sa.1 sa.2 sb.1 sb.2
  have ca:=fun w=>sext_any a n w
  have cb:=fun w=>sext_any b n w
  have cl:=fun w=>alow_any _ n w hn3 hr.1 hr.2
  clear hwo hn hr sa sb a0 a1 b0 b1 hn3
  generalize awid op = k at *
  generalize sextI a n = A at *
  generalize sextI b n = B at *
  have cr2:=fun w=>cr A B w
  clear cr
  generalize reckV op A B = R at *
  generalize R % 2 ^ n = Q at *
  have CW:=hid cw;clear cw
  have CA:=hid ca;clear ca
  have CB:=hid cb;clear cb
  have CR:=hid cr2;clear cr2
  have CL:=hid cl;clear cl
  go_enter Tryz.func179,Tryz.ntmps179
  go_wp2_with fail
  refine (CW.out _).mono ?_
  rintro e w' ⟨rfl,rfl⟩
  have hm:=HM.out
  go_wp2_with fail
  refine (CA.out _).mono ?_
  rintro e w' ⟨rfl,rfl⟩
  go_wp2_with fail
  refine (CB.out _).mono ?_
  rintro e w' ⟨rfl,rfl⟩
  go_wp2_with fail
  refine (CR.out _).mono ?_
  rintro e w' ⟨rfl,rfl⟩
  go_wp2_with fail
  refine (CL.out _).mono ?_
  rintro e w' ⟨rfl,rfl⟩
  go_wp2_with fail
  go_ret2
  exact ⟨rfl,rfl⟩
end Go.Proofs.YtlhpodholnfppaaGreatDoor

namespace Go.Proofs.YtlhpodholnfppaaGreatDoor
open Go.RowKit
set_option maxRecDepth 100000
end Go.Proofs.YtlhpodholnfppaaGreatDoor

namespace Go.Proofs.YtlhpodholnfppaaGreatDoor
open Go.RowKit
set_option maxRecDepth 100000
end Go.Proofs.YtlhpodholnfppaaGreatDoor

namespace Go.Proofs.YtlhpodholnfppaaGreatDoor
open Go.RowKit
set_option maxRecDepth 100000
section
variable (a b:Int) (a0:0 ≤ a) (a1:a < 18446744073709551616) (b0:0 ≤ b) (b1:b < 18446744073709551616)
include a0 a1 b0 b1
end
end Go.Proofs.YtlhpodholnfppaaGreatDoor
