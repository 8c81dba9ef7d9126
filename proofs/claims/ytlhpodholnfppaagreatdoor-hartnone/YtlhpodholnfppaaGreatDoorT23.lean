/-
  What is decoded of the bytes at a place: the instruction, or why there is none; the contract of the cache's decode; what keeps it as it is.
  The contract of the cache's decode.
  The cache's map: what is kept by places; the cache's block; New, Len, Clear; what an instruction is decoded from.
-/
import Derived.Test.YtlhpodholnfppaaGreatDoorT13
import Derived.Test.YtlhpodholnfppaaGreatDoorT22
import Derived.Deep.Cut
import Derived.Lib.Hide
set_option linter.unusedVariables false
set_option linter.unusedSimpArgs false
set_option maxHeartbeats 16000000
open Go.Lib (hid)
namespace Go.Proofs.YtlhpodholnfppaaGreatDoor
open Go.RowKit
set_option maxRecDepth 100000
theorem Td.Kp.bl {w w':World} (h:Td.Kp none w w'):Bl w w':=⟨h.os,h.tape,h.output,h.size,fun k hk=>h.block k hk (by simp)⟩
theorem Td.Tab.at_ {w w':World} {g:Nat} {zs:List Int} (h:Td.Tab w g zs) (hb:w'.heap[g]? = w.heap[g]?):Td.Tab w' g zs:=fun i hi=>by
  rw [World.cell?_of_block (w:=w) hb];exact h i hi
theorem Td.TabC.at_ {w w':World} {g:Nat} {zs:List Int} (h:Td.TabC w g zs) (hb:w'.heap[g]? = w.heap[g]?):Td.TabC w' g zs:=fun i hi=>by
  rw [World.cell?_of_block (w:=w) hb];exact h i hi
theorem Td.TabsS.blocks {w w':World} (h:Td.TabsS w) (hb:∀ g,g < 21 → w'.heap[g]? = w.heap[g]?):Td.TabsS w':=
  ⟨⟨h.c.o.at_ (hb _ (by decide)),h.c.r.at_ (hb _ (by decide))⟩,⟨h.i.t0.at_ (hb _ (by decide)),h.i.t1.at_ (hb _ (by decide)),h.i.t2.at_ (hb _ (by decide)),h.i.t3.at_ (hb _ (by decide)),h.i.t4.at_ (hb _ (by decide)),h.i.t5.at_ (hb _ (by decide)),h.i.t6.at_ (hb _ (by decide)),h.i.t7.at_ (hb _ (by decide)),h.i.t8.at_ (hb _ (by decide)),h.i.t9.at_ (hb _ (by decide)),h.i.t10.at_ (hb _ (by decide)),h.i.t11.at_ (hb _ (by decide)),h.i.t12.at_ (hb _ (by decide)),h.i.t13.at_ (hb _ (by decide)),h.i.t14.at_ (hb _ (by decide)),h.i.t15.at_ (hb _ (by decide)),h.i.t16.at_ (hb _ (by decide)),h.i.t17.at_ (hb _ (by decide)),h.i.t18.at_ (hb _ (by decide))⟩⟩
theorem Td.TabsS.lt {w:World} (h:Td.TabsS w) {g:Nat} (hg:g < 21):g < w.heap.size:=by
  have h1:=block_lt_of_cell (h.i.t18 0 (by decide))
  have h2:=block_lt_of_cell (h.c.r 0 (by decide))
  have h3:=block_lt_of_cell (h.c.o 0 (by decide))
  simp only at h1 h2 h3
  omega
theorem Td.TabsS.bl {w w':World} (h:Td.TabsS w) (k:Bl w w'):Td.TabsS w':=h.blocks fun g hg=>k.block g (h.lt hg)
theorem Td.TabsS.fr {w w':World} {S:Nat → Prop} (h:Td.TabsS w) (k:Fr S w w') (hS:∀ g,g < 21 → ¬ S g):Td.TabsS w':=h.blocks fun g hg=>k.block g (h.lt hg) (hS g hg)
def stopC (k fk fa:Int):Value:=.agg #[.int .i64 k,.int .i64 fk,.int .u64 fa]
def insOf (y:Nat):Td.Ins:=if y % 4 = 3 then Td.dec y else if (Td.ex (y % 65536)).op = 0 then Td.zeroI else ⟨(Td.ex (y % 65536)).op,(Td.ex (y % 65536)).rd,(Td.ex (y % 65536)).r1,(Td.ex (y % 65536)).r2,(Td.ex (y % 65536)).im,0,2⟩
def okOf (y:Nat):Bool:=if y % 4 = 3 then decide (Td.opW y ≠ 0) else Td.exB (y % 65536)
theorem insOf_long {y:Nat} (h:y % 4 = 3):insOf y = Td.dec y:=if_pos h
theorem okOf_long {y:Nat} (h:y % 4 = 3):okOf y = decide (Td.opW y ≠ 0):=if_pos h
theorem insOf_short {y:Nat} (h:y % 4 ≠ 3):(insOf y).cells = Td.exI (y % 65536):=by
  unfold insOf Td.exI
  rw [if_neg h]
  split <;> rfl
theorem okOf_short {y:Nat} (h:y % 4 ≠ 3):okOf y = Td.exB (y % 65536):=if_neg h
theorem parts_sz (o:Int) (s:Nat) {f:Td.Fm} (h:f ≠ .no):(Td.parts o s f).sz = 4:=by cases f <;> first | rfl | exact absurd rfl h
theorem op_no {c f g s:Nat} (h:Td.fmC c f = .no):Td.opC c f g s = 0:=by
  have n55:c ≠ 55:=fun e=>by
    subst e
    revert h
    unfold Td.fmC
    simp
  have n23:c ≠ 23:=fun e=>by
    subst e
    revert h
    unfold Td.fmC
    simp
  have n111:c ≠ 111:=fun e=>by
    subst e
    revert h
    unfold Td.fmC
    simp
  have n103:c ≠ 103:=fun e=>by
    subst e
    revert h
    unfold Td.fmC
    simp
  have n99:c ≠ 99:=fun e=>by
    subst e
    revert h
    unfold Td.fmC
    simp
  have n3:c ≠ 3:=fun e=>by
    subst e
    revert h
    unfold Td.fmC
    simp
  have n35:c ≠ 35:=fun e=>by
    subst e
    revert h
    unfold Td.fmC
    simp
  have n19:c ≠ 19:=fun e=>by
    subst e
    revert h
    unfold Td.fmC
    simp only [Nat.reduceEqDiff,if_true,if_false]
    split <;> (intro h;cases h)
  have n51:c ≠ 51:=fun e=>by
    subst e
    revert h
    unfold Td.fmC
    simp
  have n27:c ≠ 27:=fun e=>by
    subst e
    revert h
    unfold Td.fmC
    simp only [Nat.reduceEqDiff,if_true,if_false]
    split <;> (intro h;cases h)
  have n59:c ≠ 59:=fun e=>by
    subst e
    revert h
    unfold Td.fmC
    simp
  have n47:c ≠ 47:=fun e=>by
    subst e
    revert h
    unfold Td.fmC
    simp
  have n15:c ≠ 15:=fun e=>by
    subst e
    revert h
    unfold Td.fmC
    simp
  have n115:c ≠ 115:=fun e=>by
    subst e
    revert h
    unfold Td.fmC
    simp
  unfold Td.opC
  rw [if_neg n55,if_neg n23,if_neg n111,if_neg n103,if_neg n99,if_neg n3,if_neg n35,if_neg n19,if_neg n51,if_neg n27,if_neg n59,if_neg n47,if_neg n15,if_neg n115]
theorem ins_size {y:Nat} (h:okOf y = true):(insOf y).sz = if y % 4 = 3 then 4 else 2:=by
  by_cases h4:y % 4 = 3
  · rw [insOf_long h4,if_pos h4]
    rw [okOf_long h4] at h
    unfold Td.dec
    rw [if_neg (by simpa using h)]
    exact parts_sz _ _ fun e=>by
      have h0:Td.opW y = 0:=op_no e
      simp [h0] at h
  · rw [if_neg h4]
    rw [okOf_short h4] at h
    unfold Td.exB at h
    unfold insOf
    rw [if_neg h4,if_neg (by simpa using h)]
structure Ans where
  i:Td.Ins
  k:Int
  fk:Int
  fa:Int
def Ans.v (A:Ans):Value:=.tuple #[.agg A.i.cells,stopC A.k A.fk A.fa]
def ansOf (pc:Nat) (y k x:Int):Ans:=if k = 0 then (if okOf y.toNat = true then ⟨insOf y.toNat,0,0,0⟩ else ⟨Td.zeroI,3,3,pc⟩) else ⟨Td.zeroI,4,k,x⟩
def AnsIs (L:List Rg) (M:Nat → Int) (pc:Nat) (A:Ans):Prop:=∃ y k x,FetchIs L M pc y k x∧A = ansOf pc y k x
theorem AnsIs.one {L:List Rg} {M:Nat → Int} {pc:Nat} {A B:Ans} (h:AnsIs L M pc A) (g:AnsIs L M pc B):A = B:=by
  obtain ⟨y,k,x,h1,rfl⟩:=h
  obtain ⟨y',k',x',g1,rfl⟩:=g
  obtain ⟨rfl,rfl,rfl⟩:=h1.one g1
  rfl
theorem fetch_bd {L:List Rg} {M:Nat → Int} {a:Nat} {y k x:Int} (hb:∀ x,0 ≤ M x∧M x ≤ 255) (h:FetchIs L M a y k x):0 ≤ y∧y < 4294967296:=by
  have h0:=hb a
  have h1:=hb (a + 1)
  have h2:=hb (a + 2)
  have h3:=hb (a + 3)
  cases h <;> first | omega | (rw [num2_eq];omega) | (rw [num4_eq];omega)
def Agree (L L':List Rg) (M M':Nat → Int) (p:Nat):Prop:=(∀ x,x / 4096 = p → M' x = M x)∧∀ q,In L ((p:Int) * 4096) q ↔ In L' ((p:Int) * 4096) q
theorem in_page {L:List Rg} (h:Al L) (x q:Int):In L x q ↔ In L (x / 4096 * 4096) q:=by
  constructor
  · rintro ⟨r,hr,h1,h2,h3⟩
    have:=h r hr
    exact ⟨r,hr,by omega,by omega,h3⟩
  · rintro ⟨r,hr,h1,h2,h3⟩
    have:=h r hr
    exact ⟨r,hr,by omega,by omega,h3⟩
theorem Agree.can {L L':List Rg} {M M':Nat → Int} {p:Nat} (h:Agree L L' M M' p) (hl:Al L) (hl':Al L') {x t:Int} (hx:x / 4096 = p):Can L t x ↔ Can L' t x:=by
  unfold Can
  constructor
  · rintro ⟨q,h1,h2⟩
    exact ⟨q,by rw [in_page hl',hx,← h.2,← hx,← in_page hl];exact h1,h2⟩
  · rintro ⟨q,h1,h2⟩
    exact ⟨q,by rw [in_page hl,hx,h.2,← hx,← in_page hl'];exact h1,h2⟩
theorem numAt_same {M M':Nat → Int} {a n:Nat} (h:∀ x,a ≤ x → x < a + n → M' x = M x):numAt M' a n = numAt M a n:=by
  unfold numAt
  congr 1
  apply List.ext_getElem?
  intro i
  by_cases hi:i < n
  · rw [bytesAt_get _ _ _ _ hi,bytesAt_get _ _ _ _ hi,h _ (by omega) (by omega)]
  · rw [List.getElem?_eq_none (by rw [bytesAt_length];omega),List.getElem?_eq_none (by rw [bytesAt_length];omega)]
theorem AnsIs.keep {L L':List Rg} {M M':Nat → Int} {pc:Nat} {i:Td.Ins} (h:AnsIs L M pc ⟨i,0,0,0⟩) (hl:Al L) (hl':Al L')
    (h1:Agree L L' M M' (pc / 4096)) (h2:Agree L L' M M' ((pc + i.sz.toNat - 1) / 4096)) (hb:∀ x,0 ≤ M x∧M x ≤ 255):AnsIs L' M' pc ⟨i,0,0,0⟩:=by
  obtain ⟨y,k,x,hf,he⟩:=h
  have hk:k = 0:=by
    apply Classical.byContradiction
    intro hk
    unfold ansOf at he
    rw [if_neg hk] at he
    injection he with _ he
    cases he
  subst hk
  have he2:=he
  unfold ansOf at he2
  rw [if_pos rfl] at he2
  have hok:okOf y.toNat = true:=by
    apply Classical.byContradiction
    intro hk
    rw [if_neg hk] at he2
    injection he2 with _ he2
    cases he2
  rw [if_pos hok] at he2
  injection he2 with hi
  have hsz:=ins_size hok
  rw [← hi] at hsz
  have hn2:=hnum2 hb pc
  have hn4:=num42 (M:=M) pc
  have hn3:=hnum2 hb (pc + 2)
  refine ⟨y,0,x,?_,he⟩
  cases hf with
  | short g1 g2 g3 =>
    rw [if_neg (by omega)] at hsz
    have e:numAt M' pc 2 = numAt M pc 2:=numAt_same fun z z1 z2=>h1.1 z (by omega)
    rw [← e]
    exact .short g1 (fun z z1 z2=>(h1.can hl hl' (by omega)).1 (g2 z z1 z2)) (by rw [e];exact g3)
  | long g1 g2 g4 g3 =>
    rw [if_pos (by omega)] at hsz
    rw [hsz] at h2
    have e:numAt M' pc 2 = numAt M pc 2:=numAt_same fun z z1 z2=>h1.1 z (by omega)
    have e4:numAt M' pc 4 = numAt M pc 4:=numAt_same fun z z1 z2=>by
      by_cases hz:z < pc + 2
      · exact h1.1 z (by omega)
      · exact h2.1 z (by omega)
    rw [← e4]
    exact .long g1 (fun z z1 z2=>(h1.can hl hl' (by omega)).1 (g2 z z1 z2)) (fun z z1 z2=>(h2.can hl hl' (by omega)).1 (g4 z z1 z2)) (by rw [e];exact g3)
theorem AnsIs.size {L:List Rg} {M:Nat → Int} {pc:Nat} {i:Td.Ins} (h:AnsIs L M pc ⟨i,0,0,0⟩) (hs:So 0 274877906944 L):(i.sz = 2 ∨ i.sz = 4)∧pc < 274877906944:=by
  obtain ⟨y,k,x,hf,he⟩:=h
  have hk:k = 0:=by
    apply Classical.byContradiction
    intro hk
    unfold ansOf at he
    rw [if_neg hk] at he
    injection he with _ he
    cases he
  subst hk
  unfold ansOf at he
  rw [if_pos rfl] at he
  have hok:okOf y.toNat = true:=by
    apply Classical.byContradiction
    intro hk
    rw [if_neg hk] at he
    injection he with _ he
    cases he
  rw [if_pos hok] at he
  injection he with hi
  have hsz:=ins_size hok
  rw [← hi] at hsz
  refine ⟨?_,?_⟩
  · split at hsz
    · exact .inr hsz
    · exact .inl hsz
  · cases hf with
    | short g1 g2 g3=>have:=can_under hs (g2 pc (by omega) (by omega));omega
    | long g1 g2 g4 g3=>have:=can_under hs (g2 pc (by omega) (by omega));omega
theorem results_rows2 {P:Program} {fn:Func} {p q:Tmp} {ty tz:TypeId} (h:fn.results = #[.cell p ty,.cell q tz]) (tmps:Array Value) (w:World) (g g':Nat) (t t':TypeId) (cs cs':Array Value) (fr fr':Nat × Nat) (d d':TypeDesc)
    (hp:tmps.getD p undef = .pointer (some ⟨g,0,none⟩)) (hg:w.heap[g]? = some (.cells cs t fr))
    (hu:P.underlying ty = some d) (hd:(match d with | .struct _ | .array _ _=>true | _=>false) = true) (hi:(P.info? ty).map (·.size) = some cs.size)
    (hp2:tmps.getD q undef = .pointer (some ⟨g',0,none⟩)) (hg2:w.heap[g']? = some (.cells cs' t' fr'))
    (hu2:P.underlying tz = some d') (hd2:(match d' with | .struct _ | .array _ _=>true | _=>false) = true) (hi2:(P.info? tz).map (·.size) = some cs'.size) :
    (results fn tmps).run P w = .ok (.tuple #[.agg cs,.agg cs']) w:=by
  have hp':tmps[p]?.getD undef = .pointer (some ⟨g,0,none⟩):=by simpa using hp
  have hp2':tmps[q]?.getD undef = .pointer (some ⟨g',0,none⟩):=by simpa using hp2
  simp [results,h,hp',hp2',asAddr,run_loadVar_row w g t ty cs fr d hg hu hd hi,run_loadVar_row w g' t' tz cs' fr' d' hg2 hu2 hd2 hi2,Result.andThen]
theorem othB {w:World} {p:Addr} {k:Nat} {o:Obj} (h:w.heap[k]? = some o) (hne:p.block ≠ k) (u:Value):(w.setCell p u).heap[k]? = some o:=by
  rw [Below.heap_setCell _ _ _ _ hne.symm];exact h
theorem set7 {w:World} {g:Nat} {t:TypeId} {a0 a1 a2 a3 a4 a5 a6:Value} (x0 x1 x2 x3 x4 x5 x6:Value) (h:w.heap[g]? = some (.cells #[a0,a1,a2,a3,a4,a5,a6] t (0,0))) :
    ((((((((w.setCell ⟨g,0,none⟩ x0).setCell ⟨g,1,none⟩ x1).setCell ⟨g,2,none⟩ x2).setCell ⟨g,3,none⟩ x3).setCell ⟨g,4,none⟩ x4).setCell ⟨g,5,none⟩ x5).setCell ⟨g,6,none⟩ x6)).heap[g]? = some (.cells #[x0,x1,x2,x3,x4,x5,x6] t (0,0)):=by
  have h0:=heap_setCell_same w g 0 _ t x0 h
  have h1:=heap_setCell_same _ g 1 _ t x1 h0
  have h2:=heap_setCell_same _ g 2 _ t x2 h1
  have h3:=heap_setCell_same _ g 3 _ t x3 h2
  have h4:=heap_setCell_same _ g 4 _ t x4 h3
  have h5:=heap_setCell_same _ g 5 _ t x5 h4
  have h6:=heap_setCell_same _ g 6 _ t x6 h5
  rw [h6];rfl
theorem oth7 {w:World} {g k:Nat} {o:Obj} (h:w.heap[k]? = some o) (hne:g ≠ k) (x0 x1 x2 x3 x4 x5 x6:Value) :
    ((((((((w.setCell ⟨g,0,none⟩ x0).setCell ⟨g,1,none⟩ x1).setCell ⟨g,2,none⟩ x2).setCell ⟨g,3,none⟩ x3).setCell ⟨g,4,none⟩ x4).setCell ⟨g,5,none⟩ x5).setCell ⟨g,6,none⟩ x6)).heap[k]? = some o:=
  othB (othB (othB (othB (othB (othB (othB h hne x0) hne x1) hne x2) hne x3) hne x4) hne x5) hne x6
theorem oth3 {w:World} {g k:Nat} {o:Obj} (h:w.heap[k]? = some o) (hne:g ≠ k) (p q r:Value) :
    ((((w.setCell ⟨g,0,none⟩ p).setCell ⟨g,1,none⟩ q).setCell ⟨g,2,none⟩ r)).heap[k]? = some o:=othB (othB (othB h hne p) hne q) hne r
theorem bl7 {w0 w:World} {g:Nat} (f:Bl w0 w) (hg:w0.heap.size ≤ g) (x0 x1 x2 x3 x4 x5 x6:Value):Bl w0 (((((((w.setCell ⟨g,0,none⟩ x0).setCell ⟨g,1,none⟩ x1).setCell ⟨g,2,none⟩ x2).setCell ⟨g,3,none⟩ x3).setCell ⟨g,4,none⟩ x4).setCell ⟨g,5,none⟩ x5).setCell ⟨g,6,none⟩ x6):=
  ((((((f.set (p:=⟨g,0,none⟩) hg x0).set (p:=⟨g,1,none⟩) hg x1).set (p:=⟨g,2,none⟩) hg x2).set (p:=⟨g,3,none⟩) hg x3).set (p:=⟨g,4,none⟩) hg x4).set (p:=⟨g,5,none⟩) hg x5).set (p:=⟨g,6,none⟩) hg x6
theorem bl3 {w0 w:World} {g:Nat} (f:Bl w0 w) (hg:w0.heap.size ≤ g) (p q r:Value):Bl w0 (((w.setCell ⟨g,0,none⟩ p).setCell ⟨g,1,none⟩ q).setCell ⟨g,2,none⟩ r):=
  ((f.set (p:=⟨g,0,none⟩) hg p).set (p:=⟨g,1,none⟩) hg q).set (p:=⟨g,2,none⟩) hg r
theorem two_set {w0 w:World} {g g2:Nat} {t t2:TypeId} {a0 a1 a2 a3 a4 a5 a6 c d e:Value} (hne:g ≠ g2) (h:w.heap[g]? = some (.cells #[a0,a1,a2,a3,a4,a5,a6] t (0,0))) (h2:w.heap[g2]? = some (.cells #[c,d,e] t2 (0,0)))
    (x0 x1 x2 x3 x4 x5 x6 p q r:Value) (f:Bl w0 w) (hg:w0.heap.size ≤ g) (hg2:w0.heap.size ≤ g2) :
    (((((((((((w.setCell ⟨g,0,none⟩ x0).setCell ⟨g,1,none⟩ x1).setCell ⟨g,2,none⟩ x2).setCell ⟨g,3,none⟩ x3).setCell ⟨g,4,none⟩ x4).setCell ⟨g,5,none⟩ x5).setCell ⟨g,6,none⟩ x6).setCell ⟨g2,0,none⟩ p).setCell ⟨g2,1,none⟩ q).setCell ⟨g2,2,none⟩ r)).heap[g]? = some (.cells #[x0,x1,x2,x3,x4,x5,x6] t (0,0)) ∧
    (((((((((((w.setCell ⟨g,0,none⟩ x0).setCell ⟨g,1,none⟩ x1).setCell ⟨g,2,none⟩ x2).setCell ⟨g,3,none⟩ x3).setCell ⟨g,4,none⟩ x4).setCell ⟨g,5,none⟩ x5).setCell ⟨g,6,none⟩ x6).setCell ⟨g2,0,none⟩ p).setCell ⟨g2,1,none⟩ q).setCell ⟨g2,2,none⟩ r)).heap[g2]? = some (.cells #[p,q,r] t2 (0,0))∧Bl w0 ((((((((((w.setCell ⟨g,0,none⟩ x0).setCell ⟨g,1,none⟩ x1).setCell ⟨g,2,none⟩ x2).setCell ⟨g,3,none⟩ x3).setCell ⟨g,4,none⟩ x4).setCell ⟨g,5,none⟩ x5).setCell ⟨g,6,none⟩ x6).setCell ⟨g2,0,none⟩ p).setCell ⟨g2,1,none⟩ q).setCell ⟨g2,2,none⟩ r):=
  ⟨oth3 (set7 x0 x1 x2 x3 x4 x5 x6 h) (fun e=>hne e.symm) p q r,set3 p q r (oth7 h2 hne x0 x1 x2 x3 x4 x5 x6),bl3 (bl7 f hg x0 x1 x2 x3 x4 x5 x6) hg2 p q r⟩
theorem two_set' {w0 w:World} {g g2:Nat} {t t2:TypeId} {a0 a1 a2 a3 a4 a5 a6 c d e:Value} (hne:g ≠ g2) (h:w.heap[g]? = some (.cells #[a0,a1,a2,a3,a4,a5,a6] t (0,0))) (h2:w.heap[g2]? = some (.cells #[c,d,e] t2 (0,0)))
    (x0 x1 x2 x3 x4 x5 x6 p q r:Value) (f:Bl w0 w) (hg:w0.heap.size ≤ g) (hg2:w0.heap.size ≤ g2) :
    (((((((((((w.setCell ⟨g2,0,none⟩ p).setCell ⟨g2,1,none⟩ q).setCell ⟨g2,2,none⟩ r).setCell ⟨g,0,none⟩ x0).setCell ⟨g,1,none⟩ x1).setCell ⟨g,2,none⟩ x2).setCell ⟨g,3,none⟩ x3).setCell ⟨g,4,none⟩ x4).setCell ⟨g,5,none⟩ x5).setCell ⟨g,6,none⟩ x6)).heap[g]? = some (.cells #[x0,x1,x2,x3,x4,x5,x6] t (0,0)) ∧
    (((((((((((w.setCell ⟨g2,0,none⟩ p).setCell ⟨g2,1,none⟩ q).setCell ⟨g2,2,none⟩ r).setCell ⟨g,0,none⟩ x0).setCell ⟨g,1,none⟩ x1).setCell ⟨g,2,none⟩ x2).setCell ⟨g,3,none⟩ x3).setCell ⟨g,4,none⟩ x4).setCell ⟨g,5,none⟩ x5).setCell ⟨g,6,none⟩ x6)).heap[g2]? = some (.cells #[p,q,r] t2 (0,0))∧Bl w0 ((((((((((w.setCell ⟨g2,0,none⟩ p).setCell ⟨g2,1,none⟩ q).setCell ⟨g2,2,none⟩ r).setCell ⟨g,0,none⟩ x0).setCell ⟨g,1,none⟩ x1).setCell ⟨g,2,none⟩ x2).setCell ⟨g,3,none⟩ x3).setCell ⟨g,4,none⟩ x4).setCell ⟨g,5,none⟩ x5).setCell ⟨g,6,none⟩ x6):=
  ⟨set7 x0 x1 x2 x3 x4 x5 x6 (oth3 h (fun e=>hne e.symm) p q r),oth7 (set3 p q r h2) hne x0 x1 x2 x3 x4 x5 x6,bl7 (bl3 f hg2 p q r) hg x0 x1 x2 x3 x4 x5 x6⟩
theorem instruction_any (y:Nat) (w:World) (hy:y < 4294967296) (hT:Td.TabsS w) :
    Calls Tryz.prog 123 #[.int .u32 (y:Int)] w fun e w'=>e = .returned (.tuple #[.agg (insOf y).cells,.bool (okOf y)])∧Bl w w':=by
  have hc:IntKind.u16.wrap (y:Int) = ((y % 65536:Nat):Int):=by rw [IntKind.wrap_u16];omega
  have HT1:=hid hT
  have HC2:Hid ((y:Int) % 65536 = ((y % 65536:Nat):Int)):=hid (by omega)
  by_cases h4:y % 4 = 3
  · rw [insOf_long h4,okOf_long h4]
    have hn:=fun W=>Td.short_no (y % 65536) W (by omega) (by simp only [bne_eq_false_iff_eq];omega)
    have hd:=fun W hW=>Td.decode_any y W hy hW
    obtain ⟨⟨a0,a1,a2,a3,a4,a5,a6⟩,hE⟩:∃ i:Td.Ins,Td.dec y = i:=⟨_,rfl⟩
    simp only [hE] at hd ⊢
    unfold Td.Ins.cells at *
    generalize decide (Td.opW y ≠ 0) = ok at *
    have HN:=hid hn;clear hn
    have HD:=hid hd;clear hd h4 hT hE
    have HC:=hid hc;clear hc
    go_enter Tryz.func123,Tryz.ntmps123
    go_wp2_with fail
    rw [HC.out]
    with_reducible refine (HN.out _).mono ?_
    rintro e w1 ⟨rfl,k1⟩
    have K1:=hid ((Bl.new w (.cells (Td.I7 0 0 0 0 0 0 0) 38)).trans k1.bl)
    have HB:=hid (k1.bl.at_ (heap_alloc_new w (.cells (Td.I7 0 0 0 0 0 0 0) 38)))
    clear k1
    go_wp2_with fail
    with_reducible refine (HD.out _ (HT1.out.bl K1.out).i).mono ?_
    rintro e w2 ⟨rfl,k2⟩
    have K2:=hid (K1.out.trans k2.bl)
    have HB2:=hid (k2.bl.at_ HB.out)
    clear k2 HB
    have hb:=HB2.out
    have hcells:∀ j,w2.cell? ⟨w.heap.size,j,none⟩ = (Td.I7 0 0 0 0 0 0 0)[j]?:=fun j=>by simp [World.cell?,hb]
    have hfz:∀ j,w2.frozen? ⟨w.heap.size,j,none⟩ = false:=fun j=>by simp [World.frozen?,hb]
    obtain ⟨d0,d1,d2,d3,d4,d5,d6⟩:=(⟨hcells 0,hcells 1,hcells 2,hcells 3,hcells 4,hcells 5,hcells 6⟩:_∧_∧_∧_∧_∧_∧_)
    obtain ⟨z0,z1,z2,z3,z4,z5,z6⟩:=(⟨hfz 0,hfz 1,hfz 2,hfz 3,hfz 4,hfz 5,hfz 6⟩:_∧_∧_∧_∧_∧_∧_)
    clear hb hcells hfz
    go_wp2_with fail
    (try simp only [Exit.inBlock,Exit.then])
    refine bodyPost_ret (results_row_tmp rfl _ _ w.heap.size 38 _ (0,0) _ rfl (set7 _ _ _ _ _ _ _ HB2.out) Tryz.underlying38 rfl (by kernel_rfl)) rfl ?_
    exact ⟨rfl,bl7 K2.out (Nat.le_refl _) _ _ _ _ _ _ _⟩
  · rw [insOf_short h4,okOf_short h4]
    have hn:=fun W=>Td.short_yes (y % 65536) W (by omega) (by simp only [bne_iff_ne,ne_eq];omega)
    have hd:=fun W hW=>Td.expand_any (y % 65536) W (by omega) hW
    obtain ⟨⟨a0,a1,a2,a3,a4,a5,a6⟩,hE⟩:∃ i:Td.Ins,Td.exI (y % 65536) = i.cells:=⟨_,(insOf_short h4).symm⟩
    unfold Td.Ins.cells at *
    rw [hE] at hd ⊢
    generalize Td.exB (y % 65536) = ok at *
    have HN:=hid hn;clear hn
    have HD:=hid hd;clear hd h4 hE hT
    have HC:=hid hc;clear hc
    go_enter Tryz.func123,Tryz.ntmps123
    go_wp2_with fail
    rw [HC.out]
    with_reducible refine (HN.out _).mono ?_
    rintro e w1 ⟨rfl,k1⟩
    have K1:=hid ((Bl.new w (.cells (Td.I7 0 0 0 0 0 0 0) 38)).trans k1.bl)
    have HB:=hid (k1.bl.at_ (heap_alloc_new w (.cells (Td.I7 0 0 0 0 0 0 0) 38)))
    clear k1
    go_wp2_with fail
    rw [HC2.out]
    with_reducible refine (HD.out _ (HT1.out.bl K1.out).c).mono ?_
    rintro e w2 ⟨rfl,k2⟩
    have K2:=hid (K1.out.trans k2.bl)
    have HB2:=hid (k2.bl.at_ HB.out)
    clear k2 HB
    have hb:=HB2.out
    have hcells:∀ j,w2.cell? ⟨w.heap.size,j,none⟩ = (Td.I7 0 0 0 0 0 0 0)[j]?:=fun j=>by simp [World.cell?,hb]
    have hfz:∀ j,w2.frozen? ⟨w.heap.size,j,none⟩ = false:=fun j=>by simp [World.frozen?,hb]
    obtain ⟨d0,d1,d2,d3,d4,d5,d6⟩:=(⟨hcells 0,hcells 1,hcells 2,hcells 3,hcells 4,hcells 5,hcells 6⟩:_∧_∧_∧_∧_∧_∧_)
    obtain ⟨z0,z1,z2,z3,z4,z5,z6⟩:=(⟨hfz 0,hfz 1,hfz 2,hfz 3,hfz 4,hfz 5,hfz 6⟩:_∧_∧_∧_∧_∧_∧_)
    clear hb hcells hfz
    go_wp2_with fail
    (try simp only [Exit.inBlock,Exit.then])
    refine bodyPost_ret (results_row_tmp rfl _ _ w.heap.size 38 _ (0,0) _ rfl (set7 _ _ _ _ _ _ _ HB2.out) Tryz.underlying38 rfl (by kernel_rfl)) rfl ?_
    exact ⟨rfl,bl7 K2.out (Nat.le_refl _) _ _ _ _ _ _ _⟩
end Go.Proofs.YtlhpodholnfppaaGreatDoor

namespace Go.Proofs.YtlhpodholnfppaaGreatDoor
open Go.RowKit
set_option maxRecDepth 100000
theorem seven_at {w:World} {b:Nat} {t:TypeId} {a0 a1 a2 a3 a4 a5 a6:Value} (h:w.heap[b]? = some (.cells #[a0,a1,a2,a3,a4,a5,a6] t (0,0))) :
    w.cell? ⟨b,0,none⟩ = some a0∧w.cell? ⟨b,1,none⟩ = some a1∧w.cell? ⟨b,2,none⟩ = some a2∧w.cell? ⟨b,3,none⟩ = some a3∧w.cell? ⟨b,4,none⟩ = some a4∧w.cell? ⟨b,5,none⟩ = some a5∧w.cell? ⟨b,6,none⟩ = some a6:=by
  refine ⟨?_,?_,?_,?_,?_,?_,?_⟩ <;> simp [World.cell?,h]
theorem three_at {w:World} {b:Nat} {t:TypeId} {a0 a1 a2:Value} (h:w.heap[b]? = some (.cells #[a0,a1,a2] t (0,0))) :
    w.cell? ⟨b,0,none⟩ = some a0∧w.cell? ⟨b,1,none⟩ = some a1∧w.cell? ⟨b,2,none⟩ = some a2:=by
  refine ⟨?_,?_,?_⟩ <;> simp [World.cell?,h]
theorem free_at {w:World} {b:Nat} {t:TypeId} {cs:Array Value} (h:w.heap[b]? = some (.cells cs t (0,0))) (i:Nat):w.frozen? ⟨b,i,none⟩ = false:=by simp [World.frozen?,h]
theorem drew_at {w:World} {b:Nat} {o:Obj} (h:w.heap[b]? = some o):w.drew.heap[b]? = some o:=h
theorem ansOf_no {pc:Nat} {y k x:Int} (hk:¬ k = 0):ansOf pc y k x = ⟨Td.zeroI,4,k,x⟩:=if_neg hk
theorem ansOf_ill {pc y:Nat} {x:Int} (h:okOf y = false):ansOf pc (y:Int) 0 x = ⟨Td.zeroI,3,3,pc⟩:=by
  unfold ansOf
  rw [if_pos rfl,if_neg (by simp [h])]
theorem ansOf_ok {pc y:Nat} {x:Int} (h:okOf y = true):ansOf pc (y:Int) 0 x = ⟨insOf y,0,0,0⟩:=by
  unfold ansOf
  rw [if_pos rfl,if_pos (by simpa using h)]
  rfl
theorem cdecode_any {T:Nat → Prop} {w:World} {sb n:Nat} {L:List Rg} {M st:Nat → Int} {mo ba en:Int} (h:MS T w sb n L M st mo ba en) (hT:Td.TabsS w) (pc:Nat) (hpc:pc < 2 ^ 64) :
    Calls Tryz.prog 75 #[addr0 sb,.int .u64 (pc:Int)] w fun e w'=>∃ A,AnsIs L M pc A∧e = .returned A.v∧Bl w w':=by
  have cf:=fun W (k:Bl w W)=>fetch_is (h.bl k) pc hpc
  have CF:=hid cf;clear cf
  have HBY:=hid h.by_;clear h
  have CI:=hid (fun y W hy hW=>instruction_any y W hy hW)
  have HT:=hid hT;clear hT
  have hpcI:(pc:Int) ≤ 18446744073709551615:=by omega
  have K0:=hid ((Bl.new w (.cells (Td.I7 0 0 0 0 0 0 0) 38)).alloc (.cells #[.int .i64 0,.int .i64 0,.int .u64 0] 33))
  have A0:=hid ((Bl.new (w.alloc (.cells (Td.I7 0 0 0 0 0 0 0) 38)) (.cells #[.int .i64 0,.int .i64 0,.int .u64 0] 33)).at_ (heap_alloc_new w (.cells (Td.I7 0 0 0 0 0 0 0) 38)))
  have A1:Hid (((w.alloc (.cells (Td.I7 0 0 0 0 0 0 0) 38)).alloc (.cells #[.int .i64 0,.int .i64 0,.int .u64 0] 33)).heap[w.heap.size + 1]? = some (.cells #[.int .i64 0,.int .i64 0,.int .u64 0] 33 (0,0))):=hid (by
    have:=heap_alloc_new (w.alloc (.cells (Td.I7 0 0 0 0 0 0 0) 38)) (.cells #[.int .i64 0,.int .i64 0,.int .u64 0] 33)
    rw [show (w.alloc (.cells (Td.I7 0 0 0 0 0 0 0) 38)).heap.size = w.heap.size + 1 by simp] at this
    exact this)
  unfold addr0 at *
  go_enter Tryz.func75,Tryz.ntmps75
  go_wp2_with fail
  with_reducible refine (CF.out _ K0.out).mono ?_
  rintro e w1 ⟨y,k,x,rfl,hf,kk⟩
  have HF:=hid hf;clear hf
  have K1:=hid (K0.out.trans kk)
  have B0:=hid (kk.at_ A0.out)
  have B1:=hid (kk.at_ A1.out)
  clear kk CF
  unfold faultV
  have hlt:w.heap.size + 1 < w1.heap.size:=lt_at B1.out
  by_cases hk:k = 0
  · subst hk
    obtain ⟨y0,y1⟩:=fetch_bd HBY.out HF.out
    obtain ⟨m,rfl⟩:=Int.eq_ofNat_of_zero_le y0
    have hm:m < 4294967296:=by omega
    have W2K:=hid (K1.out.alloc (.cells #[.int .i64 0,.int .u64 x] 31))
    have hb2:=heap_alloc_new w1 (.cells #[.int .i64 0,.int .u64 x] 31)
    obtain ⟨d0,d1⟩:=two_cells hb2
    have C0:=hid ((Bl.new w1 (.cells #[.int .i64 0,.int .u64 x] 31)).at_ B0.out)
    have C1:=hid ((Bl.new w1 (.cells #[.int .i64 0,.int .u64 x] 31)).at_ B1.out)
    clear hb2 y0 y1
    go_wp2_with fail
    with_reducible refine (CI.out m _ hm (HT.out.bl W2K.out)).mono ?_
    rintro e w2 ⟨rfl,kk⟩
    have hsz:w1.heap.size < w2.heap.size:=by have:=kk.size;simp at this;omega
    have K2:=hid (W2K.out.trans kk)
    have E0:=hid (kk.at_ C0.out)
    have E1:=hid (kk.at_ C1.out)
    clear kk C0 C1 B0 B1 d0 d1 W2K CI
    by_cases hok:okOf m = true
    · have HA:=hid (ansOf_ok (pc:=pc) (x:=x) hok)
      rw [hok]
      obtain ⟨⟨a0,a1,a2,a3,a4,a5,a6⟩,hE⟩:∃ i:Td.Ins,insOf m = i:=⟨_,rfl⟩
      rw [hE] at HA ⊢
      unfold Td.Ins.cells
      clear hok hE
      have hb3:=heap_alloc_new w2 (.cells (Td.I7 a0 a1 a2 a3 a4 a5 a6) 38)
      have K3:=hid (K2.out.alloc (.cells (Td.I7 a0 a1 a2 a3 a4 a5 a6) 38))
      have F0:=hid ((Bl.new w2 (.cells (Td.I7 a0 a1 a2 a3 a4 a5 a6) 38)).at_ E0.out)
      have F1:=hid ((Bl.new w2 (.cells (Td.I7 a0 a1 a2 a3 a4 a5 a6) 38)).at_ E1.out)
      go_upto_region 5 with (fail)
      generalize w2.alloc (.cells (Td.I7 a0 a1 a2 a3 a4 a5 a6) 38) = W at *
      obtain ⟨d0,d1,d2,d3,d4,d5,d6⟩:=seven_at hb3
      obtain ⟨e0,e1,e2,e3,e4,e5,e6⟩:=seven_at F0.out
      obtain ⟨g0,g1,g2⟩:=three_at F1.out
      have z0:=free_at F0.out
      have z1:=free_at F1.out
      clear hb3
      go_wp2_with fail
      (try simp only [Exit.inBlock,Exit.then])
      obtain ⟨s1,s2,s3⟩:=two_set (w0:=w) (g:=w.heap.size) (g2:=w.heap.size + 1) (by omega) F0.out F1.out (.int .i64 a0) (.int .i64 a1) (.int .i64 a2) (.int .i64 a3) (.int .i64 a4) (.int .i64 a5) (.int .i64 a6) (.int .i64 0) (.int .i64 0) (.int .u64 0) K3.out (by omega) (by omega)
      refine bodyPost_ret (results_rows2 rfl _ _ w.heap.size (w.heap.size + 1) 38 33 _ _ (0,0) (0,0) _ _ rfl s1 Tryz.underlying38 rfl (by kernel_rfl) rfl s2 Tryz.underlying33 rfl (by kernel_rfl)) rfl ?_
      exact ⟨_,⟨_,_,_,HF.out,rfl⟩,by rw [HA.out];rfl,s3⟩
    · have hok:okOf m = false:=by simpa using hok
      have HA:=hid (ansOf_ill (pc:=pc) (x:=x) hok)
      rw [hok]
      obtain ⟨⟨a0,a1,a2,a3,a4,a5,a6⟩,hE⟩:∃ i:Td.Ins,insOf m = i:=⟨_,rfl⟩
      rw [hE]
      unfold Td.Ins.cells
      clear hok hE
      have hb3:=heap_alloc_new w2 (.cells (Td.I7 a0 a1 a2 a3 a4 a5 a6) 38)
      have K3:=hid (K2.out.alloc (.cells (Td.I7 a0 a1 a2 a3 a4 a5 a6) 38))
      have F0:=hid ((Bl.new w2 (.cells (Td.I7 a0 a1 a2 a3 a4 a5 a6) 38)).at_ E0.out)
      have F1:=hid ((Bl.new w2 (.cells (Td.I7 a0 a1 a2 a3 a4 a5 a6) 38)).at_ E1.out)
      go_upto_region 5 with (fail)
      generalize w2.alloc (.cells (Td.I7 a0 a1 a2 a3 a4 a5 a6) 38) = W at *
      obtain ⟨e0,e1,e2,e3,e4,e5,e6⟩:=seven_at F0.out
      obtain ⟨g0,g1,g2⟩:=three_at F1.out
      have z0:=free_at F0.out
      have z1:=free_at F1.out
      clear hb3
      go_wp2_with fail
      (try simp only [Exit.inBlock,Exit.then])
      obtain ⟨s1,s2,s3⟩:=two_set (w0:=w) (g:=w.heap.size) (g2:=w.heap.size + 1) (by omega) F0.out F1.out (.int .i64 0) (.int .i64 0) (.int .i64 0) (.int .i64 0) (.int .i64 0) (.int .i64 0) (.int .i64 0) (.int .i64 3) (.int .i64 3) (.int .u64 (pc:Int)) K3.out (by omega) (by omega)
      refine bodyPost_ret (results_rows2 rfl _ _ w.heap.size (w.heap.size + 1) 38 33 _ _ (0,0) (0,0) _ _ rfl s1 Tryz.underlying38 rfl (by kernel_rfl) rfl s2 Tryz.underlying33 rfl (by kernel_rfl)) rfl ?_
      exact ⟨_,⟨_,_,_,HF.out,rfl⟩,by rw [HA.out];rfl,s3⟩
  · have HA:=hid (ansOf_no (pc:=pc) (y:=y) (x:=x) hk)
    have tk:(k != 0) = true:=by simp [hk]
    clear hk CI
    have hb2:=heap_alloc_new w1 (.cells #[.int .i64 k,.int .u64 x] 31)
    have K3:=hid (K1.out.alloc (.cells #[.int .i64 k,.int .u64 x] 31))
    have F0:=hid ((Bl.new w1 (.cells #[.int .i64 k,.int .u64 x] 31)).at_ B0.out)
    have F1:=hid ((Bl.new w1 (.cells #[.int .i64 k,.int .u64 x] 31)).at_ B1.out)
    go_upto_region 2 with (fail)
    generalize w1.alloc (.cells #[.int .i64 k,.int .u64 x] 31) = W at *
    obtain ⟨d0,d1⟩:=two_cells hb2
    obtain ⟨e0,e1,e2,e3,e4,e5,e6⟩:=seven_at F0.out
    obtain ⟨g0,g1,g2⟩:=three_at F1.out
    have z0:=free_at F0.out
    have z1:=free_at F1.out
    clear hb2
    go_wp2_with fail
    go_region
    all_goals (
      (try go_wp2_with fail)
      (try simp only [Exit.inBlock,Exit.then])
      first
      | (obtain ⟨s1,s2,s3⟩:=two_set (w0:=w) (g:=w.heap.size) (g2:=w.heap.size + 1) (by omega) F0.out F1.out (.int .i64 0) (.int .i64 0) (.int .i64 0) (.int .i64 0) (.int .i64 0) (.int .i64 0) (.int .i64 0) (.int .i64 4) (.int .i64 k) (.int .u64 x) K3.out (by omega) (by omega)
         refine bodyPost_ret (results_rows2 rfl _ _ w.heap.size (w.heap.size + 1) 38 33 _ _ (0,0) (0,0) _ _ rfl (drew_at s1) Tryz.underlying38 rfl (by kernel_rfl) rfl (drew_at s2) Tryz.underlying33 rfl (by kernel_rfl)) rfl ?_
         exact ⟨_,⟨_,_,_,HF.out,rfl⟩,by rw [HA.out];rfl,s3.drew⟩)
      | (obtain ⟨s1,s2,s3⟩:=two_set' (w0:=w) (g:=w.heap.size) (g2:=w.heap.size + 1) (by omega) F0.out F1.out (.int .i64 0) (.int .i64 0) (.int .i64 0) (.int .i64 0) (.int .i64 0) (.int .i64 0) (.int .i64 0) (.int .i64 4) (.int .i64 k) (.int .u64 x) K3.out (by omega) (by omega)
         refine bodyPost_ret (results_rows2 rfl _ _ w.heap.size (w.heap.size + 1) 38 33 _ _ (0,0) (0,0) _ _ rfl (drew_at s1) Tryz.underlying38 rfl (by kernel_rfl) rfl (drew_at s2) Tryz.underlying33 rfl (by kernel_rfl)) rfl ?_
         exact ⟨_,⟨_,_,_,HF.out,rfl⟩,by rw [HA.out];rfl,s3.drew⟩))
end Go.Proofs.YtlhpodholnfppaaGreatDoor

namespace Go.Proofs.YtlhpodholnfppaaGreatDoor
open Go.RowKit
set_option maxRecDepth 100000
structure Ent where
  i:Td.Ins
  sb:Nat
  f:Int
  l:Int
def Ent.v (e:Ent):Value:=.agg #[.int .i64 e.i.op,.int .i64 e.i.rd,.int .i64 e.i.r1,.int .i64 e.i.r2,.int .i64 e.i.im,.int .i64 e.i.od,.int .i64 e.i.sz,.pointer (some ⟨e.sb,0,none⟩),.int .u64 e.f,.int .u64 e.l]
def zeroEnt:Value:=.agg #[.int .i64 0,.int .i64 0,.int .i64 0,.int .i64 0,.int .i64 0,.int .i64 0,.int .i64 0,.pointer none,.int .u64 0,.int .u64 0]
def entV (x:Option Ent):Value:=match x with | some e=>e.v | none=>zeroEnt
def rawE (v:Value):Option (DataW Value × List MemPlace):=some (.held v,[])
theorem zeroDec (w:World):(zeroValue 177).run Tryz.prog w = .ok zeroEnt w:=by kernel_rfl
def putE (g:Nat → Option Ent) (p:Nat) (x:Option Ent):Nat → Option Ent:=fun q=>if q = p then x else g q
theorem putE_same (g:Nat → Option Ent) (p:Nat) (x:Option Ent):putE g p x p = x:=by simp [putE]
theorem putE_other (g:Nat → Option Ent) (p:Nat) (x:Option Ent) {q:Nat} (h:q ≠ p):putE g p x q = g q:=by simp [putE,h]
def noEnt:Nat → Option Ent:=fun _=>none
def CM (w:World) (B:Nat) (g:Nat → Option Ent) (k:Nat):Prop:=
  ∃ D,w.ownsMap Tryz.prog 29 rawE B k D∧(∀ p zd,p < 2 ^ 64 → D.atKey (key p) zd = (match g p with | some e=>.held e.v | none=>zd))∧(∀ p,p < 2 ^ 64 → Maps.has D (key p) = (g p).isSome)∧Maps.size D = k
theorem ownsMap_tight {H:Type} {w:World} {P:Program} {t:TypeId} {R:Value → Option (DataW H × List MemPlace)} {b n:Nat} {D:DataW H} (h:w.ownsMap P t R b n D):w.ownsMap P t R b (Maps.size D) D:=by
  obtain ⟨es,clock,hb,F,hs,rfl⟩:=h
  exact ⟨es,clock,hb,F,by simp [Maps.size,length_sorted],rfl⟩
section
variable {w w':World} {B k:Nat} {g:Nat → Option Ent}
theorem CM.lt (h:CM w B g k):B < w.heap.size:=by
  obtain ⟨D,h1,_⟩:=h;exact h1.lt
theorem CM.isMap (h:CM w B g k):∃ es c,w.heap[B]? = some (.map es c):=by
  obtain ⟨D,⟨es,c,h1,_⟩,_⟩:=h;exact ⟨es,c,h1⟩
theorem CM.of_block (h:CM w B g k) (hb:w'.heap[B]? = w.heap[B]?):CM w' B g k:=by
  obtain ⟨D,h1,h2⟩:=h
  exact ⟨D,ownsMap_of_block h1 hb,h2⟩
theorem CM.made (w:World):CM (w.alloc (.map #[] 0)) w.heap.size noEnt 0:=
  ⟨_,World.ownsMap_made w Tryz.prog 29 rawE,fun _ _ _=>rfl,fun _ _=>rfl,rfl⟩
theorem CM.look (h:CM w B g k) {p:Nat} (hp:p < 2 ^ 64) :
    (Instr.lookup 116 (.map (some B)) (.int .u64 (p:Int)) true).run Tryz.prog w = .ok (.tuple #[entV (g p),.bool (g p).isSome]) w:=by
  obtain ⟨D,h1,h2,h3,_⟩:=h
  obtain ⟨v,ps,hrun,hv⟩:=h1.look_ok law27 Tryz.underlying116 (zeroDec w) (zd:=.held zeroEnt) (zp:=[]) rfl (key_of hp)
  rw [hrun,h3 p hp]
  have e:v = entV (g p):=by
    unfold rawE at hv
    injection hv with hv
    injection hv with hv _
    rw [h2 p _ hp] at hv
    cases hg:g p with
    | none=>rw [hg] at hv;simp only [DataW.held.injEq] at hv;rw [hv];rfl
    | some x=>rw [hg] at hv;simp only [DataW.held.injEq] at hv;rw [hv];rfl
  rw [e]
theorem CM.len (h:CM w B g k) (ty:TypeId):(Builtin.len_ #[116] ty #[.map (some B)]).run Tryz.prog w = .ok (.int .i64 (k:Int)) w:=by
  obtain ⟨D,h1,_,_,rfl⟩:=h
  exact h1.len Tryz.underlying116 ty
theorem CM.put (h:CM w B g k) {p:Nat} (hp:p < 2 ^ 64) (hk:k ≤ 100000) (x:Ent) :
    ∃ w',(Instr.mapUpdate 116 (.map (some B)) (.int .u64 (p:Int)) x.v).run Tryz.prog w = .ok () w'∧CM w' B (putE g p (some x)) (if (g p).isSome then k else k + 1)∧w.mapTurned w' B:=by
  obtain ⟨D,h1,h2,h3,h4⟩:=h
  obtain ⟨w',hrun,ho,ht⟩:=h1.store law27 Tryz.underlying116 (by simp only [maxLen];omega) (key_of hp) (show rawE x.v = some (.held x.v,[]) from rfl)
  have hsz:Maps.size (D.put (key p) (.held x.v)) = if (g p).isSome then k else k + 1:=by rw [Maps.size_put (h1.tidy law27),h3 p hp,h4]
  refine ⟨w',hrun,⟨_,by rw [← hsz];exact ownsMap_tight ho,fun q zd hq=>?_,fun q hq=>?_,hsz⟩,ht⟩
  · by_cases e:q = p
    · subst e;rw [putE_same];exact Maps.atKey_put_same h1.isMap (isKeyLit_key _) _ _
    · rw [putE_other _ _ _ e,Maps.atKey_put_other (key_ne e)];exact h2 q zd hq
  · by_cases e:q = p
    · subst e;rw [putE_same];exact Maps.has_put_same h1.isMap (isKeyLit_key _) _
    · rw [putE_other _ _ _ e,Maps.has_put_other (key_ne e)];exact h3 q hq
theorem CM.del (h:CM w B g k) {p:Nat} (hp:p < 2 ^ 64) (ty:TypeId) :
    ∃ w',(Builtin.delete_ #[116,29] ty #[.map (some B),.int .u64 (p:Int)]).run Tryz.prog w = .ok (.tuple #[]) w'∧(∃ k',CM w' B (putE g p none) k'∧k' ≤ k)∧w.mapTurned w' B:=by
  obtain ⟨D,h1,h2,h3,h4⟩:=h
  obtain ⟨w2,hrun,ho,ht⟩:=h1.drop law27 Tryz.underlying116 (key_of hp) ty
  have hle:Maps.size (D.del (key p)) ≤ k:=by
    have:=Maps.size_del (k:=key p) (h1.tidy law27)
    rw [h4] at this
    omega
  refine ⟨w2,hrun,⟨_,⟨_,ownsMap_tight ho,fun q zd hq=>?_,fun q hq=>?_,rfl⟩,hle⟩,ht⟩
  · by_cases e:q = p
    · subst e;rw [putE_same];exact Maps.atKey_del_same _
    · rw [putE_other _ _ _ e,Maps.atKey_del_other (key_ne e)];exact h2 q zd hq
  · by_cases e:q = p
    · subst e;rw [putE_same];exact Maps.has_del_same
    · rw [putE_other _ _ _ e,Maps.has_del_other (key_ne e)];exact h3 q hq
theorem CM.clear (h:CM w B g k) (ty:TypeId) :
    ∃ w',(Builtin.clear_ #[116] ty #[.map (some B)]).run Tryz.prog w = .ok (.tuple #[]) w'∧CM w' B noEnt 0∧w.mapTurned w' B:=by
  obtain ⟨D,⟨es,clock,hb,F,hs,rfl⟩,_⟩:=h
  refine ⟨_,by simp [Builtin.clear_,run_underlying Tryz.underlying116,MapKept.run_getObj_map hb,MapKept.run_setObj_map _ hb,Result.andThen];rfl,⟨.map [],⟨#[],clock,ChangeMaps.heap_setBlock_same hb _,⟨by simp,MapKept.stamped_empty clock,by simp⟩,Nat.le_refl _,rfl⟩,fun _ _ _=>rfl,fun _ _=>rfl,rfl⟩,⟨es,clock,#[],clock,hb,rfl⟩⟩
end
theorem Fr.turned {a b:World} {B:Nat} (h:a.mapTurned b B):Fr (only B) a b:=Fr.grown h.grown fun k hk=>by injection hk with hk;exact hk.symm
structure CA (w:World) (cb B:Nat) (g:Nat → Option Ent) (k:Nat):Prop where
  blk:w.heap[cb]? = some (.cells #[.map (some B)] 118 (0,0))
  map:CM w B g k
def COff (w:World) (cb:Nat):Prop:=w.heap[cb]? = some (.cells #[.map none] 118 (0,0))
section
variable {w w':World} {cb B k:Nat} {g g':Nat → Option Ent}
theorem CA.ne (h:CA w cb B g k):cb ≠ B:=fun e=>by
  obtain ⟨es,c,h1⟩:=h.map.isMap
  have h2:=h.blk
  rw [e,h1] at h2
  cases h2
theorem CA.bl (h:CA w cb B g k) (f:Bl w w'):CA w' cb B g k:=⟨f.at_ h.blk,h.map.of_block (f.block _ h.map.lt)⟩
theorem CA.fr {S:Nat → Prop} (h:CA w cb B g k) (f:Fr S w w') (h1:¬ S cb) (h2:¬ S B):CA w' cb B g k:=⟨f.at_ h.blk h1,h.map.of_block (f.block _ h.map.lt h2)⟩
theorem CA.turned (h:CA w cb B g k) {k':Nat} (m:CM w' B g' k') (t:w.mapTurned w' B):CA w' cb B g' k':=⟨(Fr.turned t).at_ h.blk h.ne,m⟩
theorem CA.cell (h:CA w cb B g k):w.cell? ⟨cb,0,none⟩ = some (.map (some B)):=by simp [World.cell?,h.blk]
theorem COff.bl (h:COff w cb) (f:Bl w w'):COff w' cb:=f.at_ h
theorem COff.fr {S:Nat → Prop} (h:COff w cb) (f:Fr S w w') (h1:¬ S cb):COff w' cb:=Fr.at_ f h h1
theorem COff.cell (h:COff w cb):w.cell? ⟨cb,0,none⟩ = some (.map none):=by
  have h':w.heap[cb]? = some (.cells #[.map none] 118 (0,0)):=h
  simp [World.cell?,h']
theorem makeC (w:World):(Instr.makeMap 116 none).run Tryz.prog w = .ok (.map (some w.heap.size)) (w.alloc (.map #[] 0)):=by
  have hu:=run_underlying (P:=Tryz.prog) Tryz.underlying116 w
  simp [Instr.makeMap,hu,Result.andThen]
theorem cnew_on (w:World):Calls Tryz.prog 29 #[.bool true] w fun e w'=>e = .returned (addr0 (w.heap.size + 1))∧CA w' (w.heap.size + 1) w.heap.size noEnt 0∧Bl w w'∧w'.heap.size = w.heap.size + 2:=by
  have hmk:=makeC w
  unfold addr0
  go_enter Tryz.func29,Tryz.ntmps29
  go_wp2
  go_ret
  refine ⟨rfl,⟨?_,(CM.made w).of_block ((Bl.new _ _).block _ (by simp))⟩,(Bl.new _ _).alloc _,by simp⟩
  have:=heap_alloc_new (w.alloc (.map #[] 0)) (.cells #[.map (some w.heap.size)] 118)
  rw [show (w.alloc (.map #[] 0)).heap.size = w.heap.size + 1 by simp] at this
  exact this
theorem cnew_off (w:World):Calls Tryz.prog 29 #[.bool false] w fun e w'=>e = .returned (addr0 w.heap.size)∧COff w' w.heap.size∧Bl w w'∧w'.heap.size = w.heap.size + 1:=by
  unfold addr0
  go_enter Tryz.func29,Tryz.ntmps29
  go_wp2
  go_ret
  exact ⟨rfl,heap_alloc_new w _,Bl.new _ _,by simp⟩
theorem cclear_on (h:CA w cb B g k):Calls Tryz.prog 124 #[addr0 cb] w fun e w'=>e = .returned (.tuple #[])∧CA w' cb B noEnt 0∧Fr (only B) w w':=by
  obtain ⟨w1,hrun,hm,ht⟩:=h.map.clear 0
  have c0:=h.cell
  have HC:=hid (h.turned hm ht)
  have HT:=hid (Fr.turned ht)
  clear h hm ht
  unfold addr0
  go_enter Tryz.func124,Tryz.ntmps124
  go_wp2
  go_end0
  exact ⟨rfl,HC.out,HT.out⟩
end
theorem source_any {T:Nat → Prop} {w:World} {sb n:Nat} {L:List Rg} {M st:Nat → Int} {mo ba en:Int} (h:MS T w sb n L M st mo ba en) (pc:Nat) (sz:Int) (hpc:pc < 274877906944) (hs:sz = 2 ∨ sz = 4) :
    Calls Tryz.prog 121 #[addr0 sb,.int .u64 (pc:Int),.int .i64 sz] w fun e w'=>e = .returned (.agg #[addr0 sb,.int .u64 (st (pc / 4096)),.int .u64 (st ((pc + sz.toNat - 1) / 4096))])∧Bl w w':=by
  obtain ⟨m,hm1,hm2⟩:∃ m,m = (pc + sz.toNat - 1) / 4096∧((pc:Int) + sz - 1) / 4096 = (m:Int):=⟨_,rfl,by rcases hs with rfl | rfl <;> simp <;> omega⟩
  have hp1:(pc:Int) / 4096 = ((pc / 4096:Nat):Int):=by omega
  rw [← hm1]
  have c1:=fun W (k:Bl w W)=>mstamp_any (h.bl k) (pc / 4096) (by omega)
  have c2:=fun W (k:Bl w W)=>mstamp_any (h.bl k) m (by omega)
  have C1:=hid c1;clear c1
  have C2:=hid c2;clear c2 h hm1
  have HM:=hid hm2;clear hm2
  have HP:=hid hp1;clear hp1
  have hpcI:(pc:Int) < 274877906944:=by omega
  have hs0:2 ≤ sz∧sz ≤ 4:=by omega
  obtain ⟨s0,s1⟩:=hs0
  clear hs
  generalize st (pc / 4096) = v1 at *
  generalize st m = v2 at *
  have hb:=heap_alloc_new w (.cells #[.pointer none,.int .u64 0,.int .u64 0] 175)
  have K:=hid (Bl.new w (.cells #[.pointer none,.int .u64 0,.int .u64 0] 175))
  have HB:=hid hb;clear hb
  unfold addr0 at *
  go_enter Tryz.func121,Tryz.ntmps121
  go_upto_region 2 with (fail)
  generalize w.alloc (.cells #[.pointer none,.int .u64 0,.int .u64 0] 175) = W at *
  go_wp2_with fail
  rw [HP.out]
  with_reducible refine (C1.out _ K.out).mono ?_
  rintro e w1 ⟨rfl,rfl⟩
  go_wp2_with fail
  rw [HM.out]
  with_reducible refine (C2.out _ K.out).mono ?_
  rintro e w1 ⟨rfl,rfl⟩
  obtain ⟨g0,g1,g2⟩:=three_at HB.out
  have z0:=free_at HB.out
  go_wp2_with fail
  (try simp only [Exit.inBlock,Exit.then])
  refine bodyPost_ret (results_cell_row rfl _ _ w.heap.size 175 _ (0,0) _ rfl (set3 _ _ _ HB.out) Tryz.underlying175 rfl (by kernel_rfl)) rfl ?_
  exact ⟨rfl,bl3 K.out (Nat.le_refl _) _ _ _⟩
end Go.Proofs.YtlhpodholnfppaaGreatDoor
