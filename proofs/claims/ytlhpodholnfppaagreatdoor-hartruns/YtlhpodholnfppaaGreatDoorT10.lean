/-
  Pages one by one, and the regions that they are: plain mathematics.
  Pages in memory: a space; New, without, Regions, Span, SameRegions.
  The regions of pages: Regions.
  What Lay makes: facts ahead of its walk.
-/
import Derived.Test.YtlhpodholnfppaaGreatDoorT9
import Derived.Test.YtlhpodholnfppaaGreatDoorT1
import Derived.Test.YtlhpodholnfppaaGreatDoorT6
import Derived.Lib.Hide
set_option linter.unusedVariables false
set_option linter.unusedSimpArgs false
set_option maxHeartbeats 16000000
open Go.Lib (hid)
namespace Go.Proofs.YtlhpodholnfppaaGreatDoor
structure Pg where
  no:Int
  p:Int
  b:Nat
def toR (x:Pg):Rg:=⟨x.no * 4096,x.no * 4096 + 4096,x.p⟩
noncomputable def regs (P:List Pg):List Rg:=join [] (P.map toR)
def Pgs (n:Nat) (P:List Pg):Prop:=P.Pairwise (fun x y=>x.no < y.no)∧∀ x,x ∈ P → 0 ≤ x.no∧x.no < (n:Int)
theorem Pgs.nil (n:Nat):Pgs n []:=⟨List.Pairwise.nil,fun x h=>by cases h⟩
theorem pg_so {n:Nat} {P:List Pg} (h:Pgs n P):So 0 ((n:Int) * 4096) (P.map toR):=by
  refine ⟨?_,fun r hr=>?_⟩
  · rw [List.pairwise_map]
    exact h.1.imp fun h=>by simp only [toR];omega
  · obtain ⟨x,hx,rfl⟩:=List.mem_map.1 hr
    have:=h.2 x hx
    simp only [toR];omega
theorem pg_al (P:List Pg):Al (P.map toR):=fun r hr=>by
  obtain ⟨x,hx,rfl⟩:=List.mem_map.1 hr
  simp only [toR];omega
theorem pg_tot (P:List Pg):tot (P.map toR) = (P.length:Int) * 4096:=by
  induction P with
  | nil=>simp [tot]
  | cons x P ih=>simp only [List.map_cons,tot,ih,List.length_cons,toR];omega
def OnP (P:List Pg) (a q:Int):Prop:=∃ x,x ∈ P∧x.no * 4096 ≤ a∧a < x.no * 4096 + 4096∧x.p = q
theorem onP_in {P:List Pg} {a q:Int}:In (P.map toR) a q ↔ OnP P a q:=by
  constructor
  · rintro ⟨r,hr,h⟩
    obtain ⟨x,hx,rfl⟩:=List.mem_map.1 hr
    exact ⟨x,hx,h⟩
  · rintro ⟨x,hx,h⟩
    exact ⟨toR x,List.mem_map_of_mem hx,h⟩
theorem regs_all {n:Nat} {P:List Pg} (h:Pgs n P) (hn:(n:Int) ≤ 67108864) :
    Rs (regs P)∧(∀ a q,In (regs P) a q ↔ OnP P a q)∧tot (regs P) = (P.length:Int) * 4096∧(regs P).length ≤ P.length:=by
  obtain ⟨h1,h2,h3,h4,h5,_⟩:=join_all (Nm.nil 0 274877906944) ((pg_so h).mono (by omega) (by omega)) (fun q r hq _=>by cases hq)
  refine ⟨⟨h1,h4 Al.nil (pg_al P)⟩,fun a q=>?_,?_,by simpa [regs] using h5⟩
  · show In (join _ _) a q ↔ _
    rw [h2,onP_in]
    exact ⟨fun h=>h.resolve_left (In_nil _ _),.inr⟩
  · show tot (join _ _) = _
    rw [h3,pg_tot];simp [tot]
def outP (P:List Pg) (s e:Int):List Pg:=P.filter fun x=>decide (x.no * 4096 < s) || decide (e ≤ x.no * 4096)
theorem outP_mem {P:List Pg} {s e:Int} {x:Pg}:x ∈ outP P s e ↔ x ∈ P∧(x.no * 4096 < s ∨ e ≤ x.no * 4096):=by
  simp [outP,List.mem_filter]
theorem outP_pgs {n:Nat} {P:List Pg} {s e:Int} (h:Pgs n P):Pgs n (outP P s e):=
  ⟨h.1.sublist List.filter_sublist,fun x hx=>h.2 x (outP_mem.1 hx).1⟩
theorem outP_on {P:List Pg} {s e a q:Int} (hs:s % 4096 = 0) (he:e % 4096 = 0) (hse:s < e):OnP (outP P s e) a q ↔ (a < s ∨ e ≤ a)∧OnP P a q:=by
  constructor
  · rintro ⟨x,hx,h1,h2,h3⟩
    obtain ⟨h4,h5⟩:=outP_mem.1 hx
    exact ⟨by omega,x,h4,h1,h2,h3⟩
  · rintro ⟨h0,x,hx,h1,h2,h3⟩
    exact ⟨x,outP_mem.2 ⟨hx,by omega⟩,h1,h2,h3⟩
def News (p s a:Int) (N:List Pg):Prop:=(N.length:Int) * 4096 = a - s∧∀ (i:Nat) (x:Pg),N[i]? = some x → x.no * 4096 = s + (i:Int) * 4096∧x.p = p
theorem News.nil (p s:Int):News p s s []:=⟨by simp,fun i x h=>by simp at h⟩
theorem News.push {p s a:Int} {N:List Pg} (h:News p s a N) (x:Pg) (hx:x.no * 4096 = a) (hp:x.p = p):News p s (a + 4096) (N ++ [x]):=by
  refine ⟨?_,fun i y hy=>?_⟩
  · have:=h.1
    rw [List.length_append];simp;omega
  · rcases Nat.lt_trichotomy i N.length with hi | hi | hi
    · rw [List.getElem?_append_left hi] at hy
      exact h.2 i y hy
    · subst hi
      rw [List.getElem?_append_right (by omega)] at hy
      simp at hy
      subst hy
      have:=h.1
      exact ⟨by omega,hp⟩
    · rw [List.getElem?_append_right (by omega),List.getElem?_eq_none (by simp;omega)] at hy
      cases hy
theorem News.mem {p s a:Int} {N:List Pg} (h:News p s a N) {x:Pg} (hx:x ∈ N):s ≤ x.no * 4096∧x.no * 4096 + 4096 ≤ a∧x.p = p:=by
  obtain ⟨i,hi,rfl⟩:=List.mem_iff_getElem.1 hx
  have h1:=h.2 i _ (List.getElem?_eq_getElem hi)
  have h2:=h.1
  omega
theorem News.on {p s a:Int} {N:List Pg} (h:News p s a N) (hs:s % 4096 = 0) {y q:Int}:OnP N y q ↔ s ≤ y∧y < a∧p = q:=by
  constructor
  · rintro ⟨x,hx,h1,h2,h3⟩
    have:=h.mem hx
    omega
  · rintro ⟨h1,h2,h3⟩
    have h4:=h.1
    have hi:((y - s) / 4096).toNat < N.length:=by omega
    have h5:=h.2 _ _ (List.getElem?_eq_getElem hi)
    exact ⟨N[((y - s) / 4096).toNat],List.getElem_mem hi,by omega,by omega,by omega⟩
theorem News.pair {p s a:Int} {N:List Pg} (h:News p s a N):N.Pairwise fun x y=>x.no < y.no:=by
  rw [List.pairwise_iff_getElem]
  intro i j hi hj hij
  have h1:=h.2 i _ (List.getElem?_eq_getElem hi)
  have h2:=h.2 j _ (List.getElem?_eq_getElem hj)
  omega
theorem laid_pgs {n:Nat} {P N:List Pg} {s e p:Int} (h:Pgs n P) (hs0:0 ≤ s) (hs:s % 4096 = 0) (he:e % 4096 = 0) (hse:s < e) (hn:e ≤ (n:Int) * 4096) (hN:News p s e N) (k:Nat)
    (h1:∀ x,x ∈ (outP P s e).take k → x.no * 4096 < s) (h2:∀ x,x ∈ (outP P s e).drop k → e ≤ x.no * 4096) :
    Pgs n ((outP P s e).take k ++ N ++ (outP P s e).drop k)∧∀ a q,OnP ((outP P s e).take k ++ N ++ (outP P s e).drop k) a q ↔ (s ≤ a∧a < e∧p = q) ∨ ((a < s ∨ e ≤ a)∧OnP P a q):=by
  have ho:=outP_pgs (s:=s) (e:=e) h
  refine ⟨⟨?_,fun x hx=>?_⟩,fun a q=>?_⟩
  · refine List.pairwise_append.2 ⟨List.pairwise_append.2 ⟨ho.1.sublist (List.take_sublist _ _),hN.pair,fun x hx y hy=>?_⟩,ho.1.sublist (List.drop_sublist _ _),fun x hx y hy=>?_⟩
    · have a1:=h1 x hx
      have a2:=hN.mem hy
      omega
    · have a2:=h2 y hy
      rcases List.mem_append.1 hx with hx | hx
      · have:=h1 x hx;omega
      · have:=hN.mem hx;omega
  · rcases List.mem_append.1 hx with hx | hx
    · rcases List.mem_append.1 hx with hx | hx
      · exact ho.2 x (List.mem_of_mem_take hx)
      · have:=hN.mem hx;omega
    · exact ho.2 x (List.mem_of_mem_drop hx)
  · rw [← outP_on hs he hse,← hN.on hs]
    constructor
    · rintro ⟨x,hx,h⟩
      rcases List.mem_append.1 hx with hx | hx
      · rcases List.mem_append.1 hx with hx | hx
        · exact .inr ⟨x,List.mem_of_mem_take hx,h⟩
        · exact .inl ⟨x,hx,h⟩
      · exact .inr ⟨x,List.mem_of_mem_drop hx,h⟩
    · rintro (⟨x,hx,h⟩ | ⟨x,hx,h⟩)
      · exact ⟨x,by simp [hx],h⟩
      · have hx2:x ∈ (outP P s e).take k ++ (outP P s e).drop k:=by rw [List.take_append_drop];exact hx
        rcases List.mem_append.1 hx2 with hx2 | hx2
        · exact ⟨x,by simp [hx2],h⟩
        · exact ⟨x,by simp [hx2],h⟩
theorem split_at {n:Nat} {P:List Pg} (h:Pgs n P) (s:Int) (k:Nat) (h2:∀ x,P[k]? = some x → s ≤ x.no * 4096):∀ x,x ∈ P.drop k → s ≤ x.no * 4096:=by
  intro x hx
  obtain ⟨i,hi,rfl⟩:=List.mem_iff_getElem.1 hx
  rw [List.length_drop] at hi
  rw [List.getElem_drop]
  have hk:k < P.length:=by omega
  have h3:=h2 P[k] (List.getElem?_eq_getElem hk)
  rcases Nat.eq_zero_or_pos i with h0 | h0
  · subst h0;simpa using h3
  · have:=List.pairwise_iff_getElem.1 h.1 k (k + i) hk (by omega) (by omega)
    omega
end Go.Proofs.YtlhpodholnfppaaGreatDoor

namespace Go.Proofs.YtlhpodholnfppaaGreatDoor
open Go.RowKit
set_option maxRecDepth 100000
def pgC (x:Pg):List Value:=[.int .u64 x.no,.int .i64 x.p,.slice (some ⟨x.b,0,none⟩) 4096 4096]
abbrev PRow:=RowG (α:=Pg) 87 pgC
theorem infoPg:(Tryz.prog.info? 87).map (fun i=>(i.zero,i.size,i.bytes)) = some (some (.agg #[.int .u64 0,.int .i64 0,.slice none 0 0]),3,40):=by kernel_rfl
theorem pgC_len (r:Pg):(pgC r).length = 3:=rfl
theorem pgC_one (r:Pg) (u:Value) (h:u ∈ pgC r):u.oneCell' = true:=by
  simp only [pgC,List.mem_cons,List.not_mem_nil,or_false] at h
  rcases h with rfl | rfl | rfl <;> rfl
theorem prow_cells {w:World} {base g cap n:Nat} {L:List Pg} (h:PRow w base (.slice (some ⟨g,0,none⟩) n cap) L) (k:Nat) (r:Pg) (hk:L[k]? = some r) :
    w.cell? ⟨g,k * 3,none⟩ = some (.int .u64 r.no)∧w.cell? ⟨g,k * 3 + 1,none⟩ = some (.int .i64 r.p)∧w.cell? ⟨g,k * 3 + 2,none⟩ = some (.slice (some ⟨r.b,0,none⟩) 4096 4096):=
  ⟨by simpa [pgC] using h.cell pgC_len k 0 r hk (by omega),by simpa [pgC] using h.cell pgC_len k 1 r hk (by omega),by simpa [pgC] using h.cell pgC_len k 2 r hk (by omega)⟩
theorem prow_append {W:World} {base:Nat} {v:Value} {L:List Pg} (h:PRow W base v L) (ty:TypeId) (A:Option Addr) (M:List Pg) (m cap:Nat) (hm:m = M.length) (hA:A = none → M = []∧cap = 0) (hcell:∀ ad,A = some ad → ∀ j u,(flat pgC M)[j]? = some u → W.cell? (ad.add j) = some u)
    (hl:L.length + M.length ≤ 1000000) (hbase:base ≤ W.heap.size) :
    ∃ v' W',(Builtin.append_ #[81,81] ty #[v,.slice A m cap]).run Tryz.prog W = .ok v' W'∧PRow W' base v' (L ++ M)∧W.grownBy W' v.ownBlock∧(v'.ownBlock = v.ownBlock ∨ v'.ownBlock = some W.heap.size):=by
  obtain ⟨i0,hi0,hz0,hz1,hz2⟩:=info_parts infoPg
  subst hm
  rcases A with _ | ad
  · obtain ⟨rfl,rfl⟩:=hA rfl
    exact ⟨v,W,run_append_owned_none (P:=Tryz.prog) (w:=W) base 81 ty 87 i0 3 Tryz.underlying81 hi0 v L.length (flat pgC L) h.1,by simpa using h,World.grownBy.refl W _,.inl rfl⟩
  · obtain ⟨v',w',h1,h2,h3,h4,h5⟩:=run_append_own_at (P:=Tryz.prog) W base 81 ty 87 i0 _ 3 40 Tryz.underlying81 hi0 hz0 hz1 hz2 rfl (by omega) v L.length (flat pgC L) h.1 ad M.length cap (flat pgC M) (flat_length pgC_len M) (hcell ad rfl) (fun u hu=>by
        simp only [flat,List.mem_flatMap] at hu
        obtain ⟨x,_,hx⟩:=hu
        exact pgC_one x u hx) (by simp only [maxLen];omega) (by omega) hbase
    refine ⟨v',w',h1,⟨?_,fun e=>?_⟩,h3,h5⟩
    · rw [List.length_append,flat_append];exact h2
    · obtain ⟨e1,e2⟩:=List.append_eq_nil_iff.1 e
      exact h4.2 ⟨h.2 e1,by rw [e2];rfl⟩
theorem prow_push {W:World} {base:Nat} {v:Value} {L:List Pg} (h:PRow W base v L) (q:Pg) (g:Nat) (ty:TypeId) (hg:W.heap[g]? = some (.cells #[.int .u64 q.no,.int .i64 q.p,.slice (some ⟨q.b,0,none⟩) 4096 4096] 87 (0,0))) (hl:L.length ≤ 100000) (hbase:base ≤ W.heap.size) :
    ∃ v' W',(Builtin.append_ #[81,81] ty #[v,.slice (some ⟨g,0,none⟩) 1 1]).run Tryz.prog W = .ok v' W'∧PRow W' base v' (L ++ [q])∧W.grownBy W' v.ownBlock∧(v'.ownBlock = v.ownBlock ∨ v'.ownBlock = some W.heap.size):=by
  refine prow_append h ty (some ⟨g,0,none⟩) [q] 1 1 rfl (fun e=>by cases e) (fun ad had j u hj=>?_) (by simp;omega) hbase
  cases had
  have e1:(⟨g,0,none⟩:Addr).add j = ⟨g,j,none⟩:=by unfold Addr.add;split <;> simp_all
  rw [e1,cell_of_row W g j _ 87 (0,0) hg]
  simpa [flat,pgC] using hj
def SpaceAt (mo e0 e1:Int) (w:World) (b:Nat) (P:List Pg):Prop:=∃ v,w.heap[b]? = some (.cells #[v,.int .i64 mo,.int .u64 e0,.int .u64 e1] 83 (0,0))∧PRow w 0 v P
section
variable {mo e0 e1:Int}
theorem SpaceAt.bl {w w':World} {b:Nat} {L:List Pg} (h:SpaceAt mo e0 e1 w b L) (k:Bl w w'):SpaceAt mo e0 e1 w' b L:=by
  obtain ⟨v,h1,h2⟩:=h
  exact ⟨v,k.at_ h1,h2.bl k⟩
theorem SpaceAt.lt {w:World} {b:Nat} {L:List Pg} (h:SpaceAt mo e0 e1 w b L):b < w.heap.size:=by
  obtain ⟨v,h1,h2⟩:=h;exact lt_at h1
theorem SpaceAt.frozen {w:World} {b:Nat} {L:List Pg} (h:SpaceAt mo e0 e1 w b L) (i:Nat):w.frozen? ⟨b,i,none⟩ = false:=by
  obtain ⟨v,h1,h2⟩:=h;simp [World.frozen?,h1]
theorem SpaceAt.cells {w:World} {b:Nat} {P:List Pg} (h:SpaceAt mo e0 e1 w b P):∃ A cap,w.cell? ⟨b,0,none⟩ = some (.slice A P.length cap)∧w.cell? ⟨b,1,none⟩ = some (.int .i64 mo)∧PRow w 0 (.slice A P.length cap) P:=by
  obtain ⟨v,h1,h2⟩:=h
  obtain ⟨A,cap,rfl⟩:=h2.shape
  exact ⟨A,cap,by rw [cell_of_row w b 0 _ 83 (0,0) h1];rfl,by rw [cell_of_row w b 1 _ 83 (0,0) h1];rfl,h2⟩
end
def PRowPost (w:World) (L:List Pg) (e:Ending) (w':World):Prop:=∃ v,e = .returned v∧PRow w' w.heap.size v L∧Bl w w'
theorem outP_take (P:List Pg) (s e:Int) (k:Nat) (x:Pg) (hk:P[k]? = some x):outP (P.take (k + 1)) s e = outP (P.take k) s e ++ (if x.no * 4096 < s ∨ e ≤ x.no * 4096 then [x] else []):=by
  rw [List.take_add_one,hk]
  simp only [outP,List.filter_append]
  congr 1
  by_cases h:x.no * 4096 < s ∨ e ≤ x.no * 4096
  · rw [if_pos h];simp [h]
  · rw [if_neg h]
    have h1:¬ x.no * 4096 < s:=fun h'=>h (.inl h')
    have h2:¬ e ≤ x.no * 4096:=fun h'=>h (.inr h')
    simp [h1,h2]
theorem outP_len (P:List Pg) (s e:Int):(outP P s e).length ≤ P.length:=List.length_filter_le _ _

theorem without_any {mo e0 e1:Int} {w:World} {b:Nat} {P:List Pg} (h:SpaceAt mo e0 e1 w b P) (hp:Pgs 67108864 P) (hl:P.length ≤ 5000) (s t:Int) :
    Calls Tryz.prog 44 #[addr0 b,.int .u64 s,.int .u64 t] w (PRowPost w (outP P s t)):=by
  have HH:=hid h;clear h
  have HPG:=hid hp;clear hp
  have hlI:(P.length:Int) ≤ 5000:=by omega
  obtain ⟨n,hn⟩:∃ n,n = P.length:=⟨_,rfl⟩
  rw [← hn] at hlI
  have HN:=hid hn;clear hn
  have HL:=hid hl;clear hl
  unfold addr0
  go_enter Tryz.func44,Tryz.ntmps44
  go_wp2_with fail
  go_loopw [7,8,9] (fun v7 i _ wr=>∃ k:Nat,k ≤ n∧i = .int .i64 k∧PRow wr w.heap.size v7 (outP (P.take k) s t)∧Bl w wr) (fun _ i _ _=>n - (intOf i).toNat)
  case atStart=>exact ⟨0,by omega,rfl,RowG.nil,Bl.refl _⟩
  case round =>
    obtain ⟨k,hk,rfl,hrow,hbl⟩:=hrel
    have HROW:=hid hrow;clear hrow
    obtain ⟨A,cap,e0,e1,hpr⟩:=(HH.out.bl hbl).cells
    rw [← HN.out] at e0 hpr
    have HPR:=hid hpr;clear hpr e1
    have HBL:=hid hbl;clear hbl
    by_cases hlt:k < n
    · have hltL:k < P.length:=by have:=HN.out;omega
      obtain ⟨x,hx⟩:∃ x,P[k]? = some x:=⟨P[k],List.getElem?_eq_getElem hltL⟩
      have hne:P ≠ []:=by intro e;rw [e] at hltL;simp at hltL
      obtain ⟨g,cap',cur,hA,_,hnc,hg,_⟩:=HPR.out.form hne
      have hA':A = some ⟨g,0,none⟩:=by injection hA
      subst hA'
      obtain ⟨c0,c1,c2⟩:=prow_cells HPR.out k x hx
      clear hA hnc hg hne hltL
      obtain ⟨x1,x2⟩:=HPG.out.2 x (List.mem_of_getElem? hx)
      have x3:x.no < 67108864:=by omega
      clear x2
      have hstep:=outP_take P s t k x hx
      have hwl:(outP (P.take k) s t).length ≤ 5000:=by
        have h1:=outP_len (P.take k) s t
        have h2:=HL.out
        rw [List.length_take] at h1;omega
      have HS:=hid hstep;clear hstep hx
      have HWL:=hid hwl;clear hwl
      have hkI:(k:Int) < (n:Int):=by omega
      by_cases hc:x.no * 4096 < s ∨ t ≤ x.no * 4096
      · have hrow2:=HROW.out.bl (Bl.new _ (.cells #[.int .u64 x.no,.int .i64 x.p,.slice (some ⟨x.b,0,none⟩) 4096 4096] 87))
        have hb2:Bl w (wr.alloc (.cells #[.int .u64 x.no,.int .i64 x.p,.slice (some ⟨x.b,0,none⟩) 4096 4096] 87)):=HBL.out.alloc _
        obtain ⟨v',W',hrun,hrow3,hgr,_⟩:=prow_push hrow2 x wr.heap.size 81 (heap_alloc_new wr _) (by have:=HWL.out;omega) hb2.size
        have hbl3:Bl w W':=Below.grown hb2 hgr hb2.size (fun q hq=>(hrow2.lt q hq).1)
        have HROW3:=hid hrow3;clear hrow3 hrow2 hb2 hgr
        have HBL3:=hid hbl3;clear hbl3
        have HRUN:=hid hrun;clear hrun
        by_cases hc1:x.no * 4096 < s
        · go_wp2_with (first | (at_builtin;refine wpl_append_run rfl (.tmp 36) (.tmp 44) 81 rfl _ _ _ rfl rfl HRUN.out ?_))
          refine ⟨⟨k + 1,by omega,by go_num,by rw [HS.out,if_pos hc];exact HROW3.out,HBL3.out⟩,?_⟩
          simp only [intOf];omega
        · have hc2:t ≤ x.no * 4096:=by omega
          have hc3:s ≤ x.no * 4096:=by omega
          go_wp2_with (first | (at_builtin;refine wpl_append_run rfl (.tmp 36) (.tmp 44) 81 rfl _ _ _ rfl rfl HRUN.out ?_))
          refine ⟨⟨k + 1,by omega,by go_num,by rw [HS.out,if_pos hc];exact HROW3.out,HBL3.out⟩,?_⟩
          simp only [intOf];omega
      · have hc2:x.no * 4096 < t:=by omega
        have hc3:s ≤ x.no * 4096:=by omega
        go_wp2_with fail
        refine ⟨⟨k + 1,by omega,by go_num,by rw [HS.out,if_neg hc];simpa using HROW.out,HBL.out⟩,?_⟩
        simp only [intOf];omega
    · obtain rfl:k = n:=by omega
      have hfin:=HROW.out
      rw [HN.out,List.take_length] at hfin
      have HF:=hid hfin;clear hfin
      go_wp2_with fail
      go_ret
      exact ⟨_,rfl,HF.out,HBL.out⟩
end Go.Proofs.YtlhpodholnfppaaGreatDoor

namespace Go.Proofs.YtlhpodholnfppaaGreatDoor
open Go.RowKit
set_option maxRecDepth 100000
theorem regs_take (P:List Pg) (k:Nat) (x:Pg) (hk:P[k]? = some x):join [] ((P.take (k + 1)).map toR) = joinOne (join [] ((P.take k).map toR)) (toR x):=by
  rw [List.take_add_one,hk]
  simp [join,List.foldl_append]
structure RR (w:World) (P:List Pg) (k:Nat) (v:Value) (wr:World):Prop where
  row:Row wr w.heap.size v (join [] ((P.take k).map toR))
  bl:Bl w wr
theorem regions_any {w:World} {base:Nat} {v:Value} {P:List Pg} (h:PRow w base v P) (hp:Pgs 67108864 P) (hl:P.length ≤ 5000):Calls Tryz.prog 45 #[v] w (RowPost w (regs P)):=by
  obtain ⟨A,cap,rfl⟩:=h.shape
  have hlI:(P.length:Int) ≤ 5000:=by omega
  have HPR:=hid h;clear h
  have HPG:=hid hp;clear hp
  obtain ⟨n,hn⟩:∃ n,n = P.length:=⟨_,rfl⟩
  rw [← hn] at hlI HPR ⊢
  have HN:=hid hn;clear hn
  go_enter Tryz.func45,Tryz.ntmps45
  go_wp2_with fail
  go_loopw [3,4,5,6] (fun v3 i _ _ wr=>∃ k:Nat,k ≤ n∧i = .int .i64 k∧RR w P k v3 wr) (fun _ i _ _ _=>n - (intOf i).toNat)
  case atStart=>exact ⟨0,by omega,rfl,⟨RowG.nil,Bl.refl _⟩⟩
  case round =>
    obtain ⟨k,hk,rfl,hrr⟩:=hrel
    have HRR:=hid hrr;clear hrr
    by_cases hlt:k < n
    · have hltL:k < P.length:=by have:=HN.out;omega
      obtain ⟨x,hx⟩:∃ x,P[k]? = some x:=⟨P[k],List.getElem?_eq_getElem hltL⟩
      have hne:P ≠ []:=by intro e;rw [e] at hltL;simp at hltL
      obtain ⟨g,cap',cur,hA,_,hnc,hg,_⟩:=HPR.out.form hne
      have hA':A = some ⟨g,0,none⟩:=by injection hA
      subst hA'
      obtain ⟨c0,c1,c2⟩:=prow_cells (HPR.out.bl HRR.out.bl) k x hx
      clear hA hnc hg hne hltL
      obtain ⟨x1,x2⟩:=HPG.out.2 x (List.mem_of_getElem? hx)
      have x3:x.no < 67108864:=by omega
      clear x2
      have hstep:=regs_take P k x hx
      have hkI:(k:Int) < (n:Int):=by omega
      clear hx
      obtain ⟨J,hJ⟩:∃ J,J = join [] ((P.take k).map toR):=⟨_,rfl⟩
      have hrow:=HRR.out.row
      rw [← hJ] at hrow hstep
      have hjl:J.length ≤ 5000:=by
        have h1:=join_len [] ((P.take k).map toR)
        rw [← hJ,List.length_map,List.length_take] at h1
        simp only [List.length_nil] at h1;omega
      have HS:=hid hstep;clear hstep hJ
      have HJL:=hid hjl;clear hjl
      have HBL:=hid HRR.out.bl
      clear c2
      obtain ⟨xn,xp,xb⟩:=x
      simp only [toR] at *
      rcases last_cases J with rfl | ⟨B,q,rfl⟩
      · obtain rfl:=hrow.2 rfl
        have HROW2:=hid hrow;clear hrow
        go_wp2_with fail
        go_quiet (fail)
        have hrowD:Row ((wr.drewN nq).alloc (.cells #[.int .u64 (xn * 4096),.int .u64 (xn * 4096 + 4096),.int .i64 xp] 112)) w.heap.size (.slice none 0 0) []:=(HROW2.out.bl ((Bl.refl wr).drewN nq)).bl (Bl.new _ _)
        have hbel:Bl w ((wr.drewN nq).alloc (.cells #[.int .u64 (xn * 4096),.int .u64 (xn * 4096 + 4096),.int .i64 xp] 112)):=(HBL.out.drewN nq).alloc _
        obtain ⟨v',W',hrun,hrow3,hgr,hown⟩:=row_push hrowD ⟨xn * 4096,xn * 4096 + 4096,xp⟩ wr.heap.size 95 (heap_alloc_new (wr.drewN nq) _) (by have:=HJL.out;omega) hbel.size
        have hj2:RR w P (k + 1) v' W':=⟨by rw [HS.out,joinOne_nil];exact hrow3,Below.grown hbel hgr hbel.size (fun q' hq'=>(hrowD.lt q' hq').1)⟩
        have HJ2:=hid hj2;clear hj2 hrow3 hgr hown hrowD hbel
        have HRUN:=hid hrun;clear hrun
        go_wp2_with (first | (at_builtin;refine wpl_append_run rfl (.tmp 54) (.tmp 64) 95 rfl _ _ _ rfl rfl HRUN.out ?_))
        refine ⟨⟨k + 1,by omega,by go_num,HJ2.out⟩,?_⟩
        simp only [intOf];omega
      · have HROW2:=hid hrow;clear hrow
        have hq:(B ++ [q])[B.length]? = some q:=by simp
        obtain ⟨g0,cap0,_,hv0,hbg0,_,_,_⟩:=HROW2.out.form (by simp)
        simp only [List.length_append,List.length_singleton] at hv0
        subst hv0
        obtain ⟨d0,d1,d2⟩:=row_cells HROW2.out B.length q hq
        have hBl:B.length ≤ 20000:=by have:=HJL.out;simp at this;omega
        clear hq
        obtain ⟨j,hj⟩:∃ j,j = B.length:=⟨_,rfl⟩
        rw [← hj] at d0 d1 d2 hBl HROW2 HRR ⊢
        have HJJ:=hid hj;clear hj
        have fz:=HROW2.out.free (j * 3 + 1)
        have hjI:(j:Int) ≤ 20000:=by omega
        have hj0:(0:Int) ≤ (j:Int):=by omega
        by_cases e1:q.e = xn * 4096
        · have t1:(q.e == xn * 4096) = true:=by simp [e1]
          by_cases e2:q.p = xp
          · have t2:(q.p == xp) = true:=by simp [e2]
            have HJY:=hid (joinOne_yes B q ⟨xn * 4096,xn * 4096 + 4096,xp⟩ e1 e2)
            clear e1 e2
            go_wp2_with fail
            go_quiet (fail)
            have hrowE:=row_end (HROW2.out.bl ((Bl.refl wr).drewN nq)) (xn * 4096 + 4096)
            rw [← HJJ.out] at hrowE
            have hj2:RR w P (k + 1) (.slice (some ⟨g0,0,none⟩) (j + 1) cap0) ((wr.drewN nq).setCell ⟨g0,j * 3 + 1,none⟩ (.int .u64 (xn * 4096 + 4096))):=⟨by rw [HS.out,HJY.out];exact hrowE,(HBL.out.drewN nq).set hbg0 _⟩
            have HJ2:=hid hj2;clear hj2 hrowE
            go_wp2_with fail
            refine ⟨⟨k + 1,by omega,by go_num,HJ2.out⟩,?_⟩
            simp only [intOf];omega
          · have t2:(q.p == xp) = false:=by simp [e2]
            have HJN:=hid (joinOne_no B q ⟨xn * 4096,xn * 4096 + 4096,xp⟩ (fun h=>e2 h.2))
            clear e1 e2
            go_wp2_with fail
            go_quiet (fail)
            have hrowD:Row ((wr.drewN nq).alloc (.cells #[.int .u64 (xn * 4096),.int .u64 (xn * 4096 + 4096),.int .i64 xp] 112)) w.heap.size (.slice (some ⟨g0,0,none⟩) (j + 1) cap0) (B ++ [q]):=(HROW2.out.bl ((Bl.refl wr).drewN nq)).bl (Bl.new _ _)
            have hbel:Bl w ((wr.drewN nq).alloc (.cells #[.int .u64 (xn * 4096),.int .u64 (xn * 4096 + 4096),.int .i64 xp] 112)):=(HBL.out.drewN nq).alloc _
            obtain ⟨v',W',hrun,hrow3,hgr,hown⟩:=row_push hrowD ⟨xn * 4096,xn * 4096 + 4096,xp⟩ wr.heap.size 95 (heap_alloc_new (wr.drewN nq) _) (by have:=HJL.out;omega) hbel.size
            have hj2:RR w P (k + 1) v' W':=⟨by rw [HS.out,HJN.out];exact hrow3,Below.grown hbel hgr hbel.size (fun q' hq'=>(hrowD.lt q' hq').1)⟩
            have HJ2:=hid hj2;clear hj2 hrow3 hgr hown hrowD hbel
            have HRUN:=hid hrun;clear hrun
            go_wp2_with (first | (at_builtin;refine wpl_append_run rfl (.tmp 54) (.tmp 64) 95 rfl _ _ _ rfl rfl HRUN.out ?_))
            refine ⟨⟨k + 1,by omega,by go_num,HJ2.out⟩,?_⟩
            simp only [intOf];omega
        · have t1:(q.e == xn * 4096) = false:=by simp [e1]
          have HJN:=hid (joinOne_no B q ⟨xn * 4096,xn * 4096 + 4096,xp⟩ (fun h=>e1 h.1))
          clear e1
          go_wp2_with fail
          go_quiet (fail)
          have hrowD:Row ((wr.drewN nq).alloc (.cells #[.int .u64 (xn * 4096),.int .u64 (xn * 4096 + 4096),.int .i64 xp] 112)) w.heap.size (.slice (some ⟨g0,0,none⟩) (j + 1) cap0) (B ++ [q]):=(HROW2.out.bl ((Bl.refl wr).drewN nq)).bl (Bl.new _ _)
          have hbel:Bl w ((wr.drewN nq).alloc (.cells #[.int .u64 (xn * 4096),.int .u64 (xn * 4096 + 4096),.int .i64 xp] 112)):=(HBL.out.drewN nq).alloc _
          obtain ⟨v',W',hrun,hrow3,hgr,hown⟩:=row_push hrowD ⟨xn * 4096,xn * 4096 + 4096,xp⟩ wr.heap.size 95 (heap_alloc_new (wr.drewN nq) _) (by have:=HJL.out;omega) hbel.size
          have hj2:RR w P (k + 1) v' W':=⟨by rw [HS.out,HJN.out];exact hrow3,Below.grown hbel hgr hbel.size (fun q' hq'=>(hrowD.lt q' hq').1)⟩
          have HJ2:=hid hj2;clear hj2 hrow3 hgr hown hrowD hbel
          have HRUN:=hid hrun;clear hrun
          go_wp2_with (first | (at_builtin;refine wpl_append_run rfl (.tmp 54) (.tmp 64) 95 rfl _ _ _ rfl rfl HRUN.out ?_))
          refine ⟨⟨k + 1,by omega,by go_num,HJ2.out⟩,?_⟩
          simp only [intOf];omega
    · obtain rfl:k = n:=by omega
      have hfin:=HRR.out.row
      rw [HN.out,List.take_length] at hfin
      have HF:=hid hfin;clear hfin
      go_wp2_with fail
      go_ret
      exact ⟨_,rfl,HF.out,HRR.out.bl⟩
end Go.Proofs.YtlhpodholnfppaaGreatDoor

namespace Go.Proofs.YtlhpodholnfppaaGreatDoor
open Go.RowKit
set_option maxRecDepth 100000
theorem sliceFromP (A:Option Addr) (n cap k:Nat) (hk:k ≤ n) (hn:n ≤ cap) (w:World):(Instr.sliceAt 81 (.slice A n cap) (some (.int .i64 (k:Int))) none none).run Tryz.prog w = .ok (.slice (if cap = k then A else A.map (·.add (k * 3))) (n - k) (cap - k)) w:=by
  obtain ⟨i0,hi0,hz0,hz1,hz2⟩:=info_parts infoPg
  simp [Instr.sliceAt,Instr.slice,run_underlying Tryz.underlying81,Instr.sliceBounds,Instr.sliceBound,asIntOf,sizeOf,typeInfo,hi0,hz1,Result.andThen]
  rw [if_pos hk]
theorem flat_drop (R:List Pg) (k:Nat):flat pgC (R.drop k) = (flat pgC R).drop (k * 3):=by
  by_cases hk:k ≤ R.length
  · have h1:flat pgC R = flat pgC (R.take k) ++ flat pgC (R.drop k):=by rw [← flat_append,List.take_append_drop]
    have h2:(flat pgC (R.take k)).length = k * 3:=by rw [flat_length pgC_len,List.length_take];omega
    have h3:(flat pgC (R.take k)).drop (k * 3) = []:=List.drop_of_length_le (by omega)
    rw [h1,List.drop_append,h2,h3]
    simp
  · have h1:=flat_length pgC_len R
    rw [List.drop_of_length_le (by omega),List.drop_of_length_le (by omega)];rfl
theorem part_cells {w:World} {base n cap k:Nat} {A:Option Addr} {R:List Pg} (h:PRow w base (.slice A n cap) R) (hk:k ≤ n) :
    n = R.length∧n ≤ cap∧((if cap = k then A else A.map (·.add (k * 3))) = none → R.drop k = []∧cap - k = 0)∧∀ ad,(if cap = k then A else A.map (·.add (k * 3))) = some ad → ∀ j u,(flat pgC (R.drop k))[j]? = some u → w.cell? (ad.add j) = some u:=by
  rcases h.1.2 with ⟨h1,h0⟩ | ⟨g,cap',cur,h1,h2,h3,h4,h5,h6,h7⟩
  · injection h1 with e1 e2 e3
    subst e1 e2 e3
    have hR:R = []:=List.eq_nil_of_length_eq_zero h0
    subst hR
    obtain rfl:k = 0:=by omega
    exact ⟨rfl,Nat.le_refl _,fun _=>⟨rfl,rfl⟩,fun ad had=>by simp at had⟩
  · injection h1 with e1 e2 e3
    subst e1 e2 e3
    refine ⟨rfl,h4,fun e=>?_,fun ad had j u hu=>?_⟩
    · split at e <;> simp at e
    · by_cases hc:cap = k
      · have hd:R.drop k = []:=List.drop_of_length_le (by omega)
        rw [hd] at hu
        simp [flat] at hu
      · rw [if_neg hc] at had
        simp only [Option.map_some,Option.some.injEq] at had
        subst had
        rw [flat_drop,List.getElem?_drop] at hu
        have hlt:=(List.getElem?_eq_some_iff.1 hu).1
        rw [flat_length pgC_len] at hlt
        have e1:((⟨g,0,none⟩:Addr).add (k * 3)).add j = ⟨g,k * 3 + j,none⟩:=by
          unfold Addr.add;by_cases a0:k * 3 = 0 <;> by_cases b0:j = 0 <;> simp [a0,b0]
        rw [e1,h.1.cellAt (k * 3 + j) hlt]
        exact hu
end Go.Proofs.YtlhpodholnfppaaGreatDoor
