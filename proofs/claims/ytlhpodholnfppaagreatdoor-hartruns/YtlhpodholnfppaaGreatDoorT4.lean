/-
  sort.Search over regions; seek; At; First; Free.
  At.
  First, Free, Protect.
  answers; lists of regions that the laws build.
  The greatest room below a place: plain mathematics.
  Room: of the list.
  A store of pages in memory: its block, its map of pages, its map of stamps, the pages' blocks; what is read of it; what a call may turn.
  Spans: below, within, empty, first, last, wide.
-/
import Derived.Test.YtlhpodholnfppaaGreatDoorT3
import Derived.Laws.ResultCell
import Derived.Deep.Cut
import Derived.IntWalk
import Derived.Test.YtlhpodholnfppaaGreatDoorT2
import Derived.Test.YtlhpodholnfppaaGreatDoorT1
import Derived.Deep.QuietTactic
import Derived.BigQuiet
import Derived.Deep.RegionHeld3
import Derived.Lib.Hide
set_option linter.unusedVariables false
set_option linter.unusedSimpArgs false
set_option maxHeartbeats 16000000
open Go.Lib (hid)
namespace Go.Proofs.YtlhpodholnfppaaGreatDoor
open Go.RowKit
set_option maxRecDepth 100000
def SeekPost (w:World) (L:List Rg) (q:Rg → Bool) (e:Ending) (w':World):Prop:=∃ k:Nat,e = .returned (.int .i64 (k:Int))∧k ≤ L.length∧(0 < k → ∀ r,L[k - 1]? = some r → q r = false)∧(∀ r,L[k]? = some r → q r = true)∧Bl w w'
structure SR (w:World) (L:List Rg) (q:Rg → Bool) (i j:Nat) (wr:World):Prop where
  le:i ≤ j
  top:j ≤ L.length
  low:0 < i → ∀ r,L[i - 1]? = some r → q r = false
  high:j < L.length → ∀ r,L[j]? = some r → q r = true
  bl:Bl w wr
theorem search_any {w:World} {bi bl:Nat} {L:List Rg} {q:Rg → Bool} (n:Nat) (hn:n = L.length) (hl:n ≤ 1000)
    (hc:∀ W,Bl w W → ∀ (k:Nat) r,L[k]? = some r → Calls Tryz.prog 120 #[.int .i64 (k:Int),.pointer (some ⟨bi,0,none⟩),.pointer (some ⟨bl,0,none⟩)] W (BoolPost W (q r))) :
    Calls Tryz.prog 119 #[.int .i64 (n:Int),.func (.func 120) #[] #[.pointer (some ⟨bi,0,none⟩),.pointer (some ⟨bl,0,none⟩)]] w (SeekPost w L q):=by
  have HC:=hid hc;clear hc
  have HN:=hid hn;clear hn
  have hlI:(n:Int) ≤ 1000:=by omega
  go_enter Tryz.func119,Tryz.ntmps119
  go_wp2_with fail
  go_loopw [5,6,7] (fun v5 v6 _ wr=>∃ i j:Nat,v5 = .int .i64 i∧v6 = .int .i64 j∧SR w L q i j wr) (fun v5 v6 _ _=>(intOf v6).toNat - (intOf v5).toNat)
  case atStart=>exact ⟨0,n,rfl,rfl,⟨by omega,by rw [HN.out];omega,fun h=>absurd h (by omega),fun h=>absurd h (by rw [HN.out];omega),Bl.refl _⟩⟩
  case round =>
    obtain ⟨i,j,rfl,rfl,hsr⟩:=hrel
    have hij:=hsr.le
    have hjn:=hsr.top
    rw [← HN.out] at hjn
    have HSR:=hid hsr;clear hsr
    have hijI:(i:Int) ≤ (j:Int):=by omega
    have hjI:(j:Int) ≤ 1000:=by omega
    have hi0:(0:Int) ≤ (i:Int):=by omega
    by_cases hlt:i < j
    · obtain ⟨m,hm⟩:∃ m:Nat,m = (i + j) / 2:=⟨_,rfl⟩
      have hmI:((i:Int) + (j:Int)) / 2 = (m:Int):=by omega
      have hm1:i ≤ m:=by omega
      have hm2:m < j:=by omega
      have hmL:m < L.length:=by have:=HN.out;omega
      have hgm:L[m]? = some L[m]:=List.getElem?_eq_getElem hmL
      have cc:=fun W hW=>HC.out W hW m L[m] hgm
      obtain ⟨qm,hqm⟩:∃ qm,qm = q L[m]:=⟨_,rfl⟩
      simp only [← hqm] at cc
      have CC:=hid cc;clear cc
      have HGM:=hid hgm;clear hgm
      have HQM:=hid hqm;clear hqm
      have HMI:=hid hmI;clear hmI hm
      have hltI:(i:Int) < (j:Int):=by omega
      go_wp2_with fail
      rw [HMI.out]
      with_reducible refine (CC.out _ HSR.out.bl).mono ?_
      rintro e w1 ⟨rfl,k1⟩
      have K1:=hid (HSR.out.bl.trans k1);clear k1
      rcases qm with _ | _
      · have hsr2:SR w L q (m + 1) j w1:=⟨by omega,HSR.out.top,fun _ r hr=>by
          rw [Nat.add_sub_cancel,HGM.out] at hr;cases hr;exact HQM.out.symm,HSR.out.high,K1.out⟩
        have HSR2:=hid hsr2;clear hsr2
        go_wp2_with fail
        refine ⟨⟨m + 1,j,by go_num,rfl,HSR2.out⟩,?_⟩
        simp only [intOf];omega
      · have hsr2:SR w L q i m w1:=⟨hm1,by have:=HSR.out.top;omega,HSR.out.low,fun _ r hr=>by
          rw [HGM.out] at hr;cases hr;exact HQM.out.symm,K1.out⟩
        have HSR2:=hid hsr2;clear hsr2
        go_wp2_with fail
        refine ⟨⟨i,m,rfl,rfl,HSR2.out⟩,?_⟩
        simp only [intOf];omega
    · obtain rfl:i = j:=by omega
      have hpost:SeekPost w L q (.returned (.int .i64 (i:Int))) wr:=⟨i,rfl,HSR.out.top,HSR.out.low,fun r hr=>HSR.out.high (List.getElem?_eq_some_iff.1 hr).1 r hr,HSR.out.bl⟩
      have HP:=hid hpost;clear hpost
      go_wp2_with fail
      go_ret
      exact HP.out
theorem seek_42 {X:Ctx} {w:World} {b c:Nat} {L:List Rg} {x:Int} {q:Rg → Bool} (h:ListAt X w b L) (hx:w.cell? ⟨c,0,none⟩ = some (.int .u64 x)) (hq:Ask 69 c x q) (hl:L.length ≤ 1000) :
    Calls Tryz.prog 68 #[addr0 b,asks 69 c] w (SeekPost w L q):=by
  have hmf:∀ (fn:Fn) (first cap:Array Value) (w:World),(Instr.makeFunc fn first cap).run Tryz.prog w = .ok (.func fn first cap) w:=fun _ _ _ _=>rfl
  have hk:Bl w ((w.alloc (.cells #[addr0 b] 137)).alloc (.cells #[asks 69 c] 142)):=(Bl.new w _).alloc _
  have hsk:Seek X ((w.alloc (.cells #[addr0 b] 137)).alloc (.cells #[asks 69 c] 142)) b (w.heap.size + 1) w.heap.size c 69 x L:=by
    refine ⟨h.bl hk,?_,?_,hk.cell' hx⟩
    · have:=heap_alloc_new (w.alloc (.cells #[addr0 b] 137)) (.cells #[asks 69 c] 142)
      rw [show (w.alloc (.cells #[addr0 b] 137)).heap.size = w.heap.size + 1 by simp] at this
      rw [cell_of_row _ _ 0 _ 142 (0,0) this];rfl
    · exact (Bl.new (w.alloc (.cells #[addr0 b] 137)) (.cells #[asks 69 c] 142)).cell' (by rw [cell_of_row _ _ 0 _ 137 (0,0) (heap_alloc_new w _)];rfl)
  obtain ⟨v,hb,hr⟩:=h
  obtain ⟨A,cap,rfl⟩:=hr.shape
  have hcell:w.cell? ⟨b,0,none⟩ = some (.slice A L.length cap):=by rw [cell_of_row w b 0 _ _ (0,0) hb];simp
  have hblt:=lt_at hb
  have cs:=search_any (w:=(w.alloc (.cells #[addr0 b] 137)).alloc (.cells #[asks 69 c] 142)) (bi:=w.heap.size + 1) (bl:=w.heap.size) (L:=L) (q:=q) L.length rfl hl (fun W hW k r hkr=>seek1_42 (hsk.bl hW) hq k r hkr hl)
  have CS:=hid cs;clear cs hsk hr hb hx hq
  have HK:=hid hk;clear hk hl
  unfold addr0 asks at *
  go_enter Tryz.func68,Tryz.ntmps68
  go_wp2_with fail
  refine CS.out.mono ?_
  rintro e w' ⟨k,rfl,h1,h2,h3,h4⟩
  have hp:SeekPost w L q (.returned (.int .i64 (k:Int))) w':=⟨k,rfl,h1,h2,h3,HK.out.trans h4⟩
  have HP:=hid hp;clear hp h1 h2 h3 h4
  go_wp2_with fail
  go_ret
  exact HP.out
end Go.Proofs.YtlhpodholnfppaaGreatDoor

namespace Go.Proofs.YtlhpodholnfppaaGreatDoor
open Go.RowKit
set_option maxRecDepth 100000
def rgV (r:Rg):Value:=.agg #[.int .u64 r.s,.int .u64 r.e,.int .i64 r.p]
theorem results_row_tmp {P:Program} {fn:Func} {p u:Tmp} {ty:TypeId} (h:fn.results = #[.cell p ty,.tmp u]) (tmps:Array Value) (w:World) (g:Nat) (t:TypeId) (cs:Array Value) (fr:Nat × Nat) (d:TypeDesc)
    (hp:tmps.getD p undef = .pointer (some ⟨g,0,none⟩)) (hg:w.heap[g]? = some (.cells cs t fr))
    (hu:P.underlying ty = some d) (hd:(match d with | .struct _ | .array _ _=>true | _=>false) = true) (hi:(P.info? ty).map (·.size) = some cs.size) :
    (results fn tmps).run P w = .ok (.tuple #[.agg cs,tmps.getD u undef]) w:=by
  rw [results_cell_tmp h,hp]
  simp [asAddr,run_loadVar_row w g t ty cs fr d hg hu hd hi,Result.andThen]
theorem set3 {w:World} {g:Nat} {t:TypeId} {a b c:Value} (x y z:Value) (h:w.heap[g]? = some (.cells #[a,b,c] t (0,0))) :
    (((w.setCell ⟨g,0,none⟩ x).setCell ⟨g,1,none⟩ y).setCell ⟨g,2,none⟩ z).heap[g]? = some (.cells #[x,y,z] t (0,0)):=by
  have h1:=heap_setCell_same w g 0 _ t x h
  have h2:=heap_setCell_same _ g 1 _ t y h1
  have h3:=heap_setCell_same _ g 2 _ t z h2
  simpa using h3
def AtPost (w:World) (L:List Rg) (x:Int) (e:Ending) (w':World):Prop:=∃ r ok,e = .returned (.tuple #[rgV r,.bool ok])∧((ok = true∧r ∈ L∧r.s ≤ x∧x < r.e) ∨ (ok = false∧r = ⟨0,0,0⟩∧∀ p,¬ In L x p))∧Bl w w'
theorem at_any {X:Ctx} {w:World} {b:Nat} {L:List Rg} (h:ListAt X w b L) (hs:So 0 274877906944 L) (x:Int) (hl:L.length ≤ 1000) :
    Calls Tryz.prog 47 #[addr0 b,.int .u64 x] w (AtPost w L x):=by
  have hmf:∀ (fn:Fn) (first cap:Array Value) (w:World),(Instr.makeFunc fn first cap).run Tryz.prog w = .ok (.func fn first cap) w:=fun _ _ _ _=>rfl
  have hk:Bl w ((w.alloc (.cells #[.int .u64 x] 29)).alloc (.cells #[.int .u64 0,.int .u64 0,.int .i64 0] 112)):=(Bl.new w _).alloc _
  have hx:((w.alloc (.cells #[.int .u64 x] 29)).alloc (.cells #[.int .u64 0,.int .u64 0,.int .i64 0] 112)).cell? ⟨w.heap.size,0,none⟩ = some (.int .u64 x):=
    (Bl.new (w.alloc (.cells #[.int .u64 x] 29)) _).cell' (by rw [cell_of_row _ _ 0 _ 29 (0,0) (heap_alloc_new w _)];rfl)
  have hz:((w.alloc (.cells #[.int .u64 x] 29)).alloc (.cells #[.int .u64 0,.int .u64 0,.int .i64 0] 112)).heap[w.heap.size + 1]? = some (.cells #[.int .u64 0,.int .u64 0,.int .i64 0] 112 (0,0)):=by
    have:=heap_alloc_new (w.alloc (.cells #[.int .u64 x] 29)) (.cells #[.int .u64 0,.int .u64 0,.int .i64 0] 112)
    rwa [show (w.alloc (.cells #[.int .u64 x] 29)).heap.size = w.heap.size + 1 by simp] at this
  have cs:=seek_42 (h.bl hk) hx (fun r W hW=>is42_any r w.heap.size x W hW) hl
  have CS:=hid cs;clear cs
  have HH:=hid (h.bl hk);clear h
  have HK:=hid hk;clear hk
  have HX:=hid hx;clear hx
  have HZ:=hid hz;clear hz
  have HSO:=hid hs;clear hs
  unfold addr0 asks at *
  go_enter Tryz.func47,Tryz.ntmps47
  go_wp2_with fail
  refine CS.out.mono ?_
  rintro e w1 ⟨k,rfl,h1,h2,h3,h4⟩
  have hL1:=HH.out.bl h4
  have hx1:=h4.cell' HX.out
  have hz1:=h4.at_ HZ.out
  have hk1:=HK.out.trans h4
  clear CS h4 HH HX HZ HK
  have hin:=fun p=>in_seek (p:=p) HSO.out (fun hk r hr=>by have:=h2 hk r hr;simpa using this) (fun r hr=>by have:=h3 r hr;simpa using this) h1
  obtain ⟨v,hb,hr⟩:=hL1
  obtain ⟨A,cap,rfl⟩:=hr.shape
  have hcell:w1.cell? ⟨b,0,none⟩ = some (.slice A L.length cap):=by rw [cell_of_row w1 b 0 _ _ (0,0) hb];simp
  have z0:w1.cell? ⟨w.heap.size + 1,0,none⟩ = some (.int .u64 0):=by rw [cell_of_row w1 _ 0 _ 112 (0,0) hz1];rfl
  have z1:w1.cell? ⟨w.heap.size + 1,1,none⟩ = some (.int .u64 0):=by rw [cell_of_row w1 _ 1 _ 112 (0,0) hz1];rfl
  have z2:w1.cell? ⟨w.heap.size + 1,2,none⟩ = some (.int .i64 0):=by rw [cell_of_row w1 _ 2 _ 112 (0,0) hz1];rfl
  have fz:∀ j,w1.frozen? ⟨w.heap.size + 1,j,none⟩ = false:=fun j=>by simp [World.frozen?,hz1]
  have f0:=fz 0
  have f1:=fz 1
  have f2:=fz 2
  clear fz
  have HZ1:=hid hz1;clear hz1
  have HK1:=hid hk1;clear hk1
  have HIN:=hid hin;clear hin
  have HR:=hid hr;clear hr hb
  have H3:=hid h3;clear h3 h2
  obtain ⟨n,hn⟩:∃ n,n = L.length:=⟨_,rfl⟩
  rw [← hn] at hcell h1 HR hl
  have HN:=hid hn;clear hn
  have hnI:(n:Int) ≤ 1000:=by omega
  have hkI:(k:Int) ≤ (n:Int):=by omega
  by_cases hkn:k = n
  · have t1:((k:Int) == (n:Int)) = true:=by simp [hkn]
    have t2:(k == n) = true:=by simp [hkn]
    clear hkn
    go_wp2_with fail
    go_quiet (fail)
    go_wp2_with fail
    have hnone:∀ p,¬ In L x p:=fun p hp=>by
      obtain ⟨r,hr,_⟩:=(HIN.out p).1 hp
      have h5:=(List.getElem?_eq_some_iff.1 hr).1
      have:=HN.out
      simp at t2
      omega
    refine bodyPost_ret (results_row_tmp rfl _ _ (w.heap.size + 1) 112 _ (0,0) _ rfl (set3 _ _ _ HZ1.out) Tryz.underlying112 rfl (by kernel_rfl)) rfl ?_
    exact ⟨⟨0,0,0⟩,false,rfl,.inr ⟨rfl,rfl,hnone⟩,(((HK1.out.drewN _).set (by simp) _).set (by simp) _).set (by simp) _⟩
  · have t1:((k:Int) == (n:Int)) = false:=by simp;omega
    have t2:(k == n) = false:=by simp;omega
    have hlt:k < n:=by omega
    have hltL:k < L.length:=by have:=HN.out;omega
    obtain ⟨r,hr⟩:∃ r,L[k]? = some r:=⟨L[k],List.getElem?_eq_getElem hltL⟩
    have hne:L ≠ []:=by intro e;rw [e] at hltL;simp at hltL
    obtain ⟨g,cap',cur,hA,_,hnc,hg,_⟩:=HR.out.form hne
    have hA':A = some ⟨g,0,none⟩:=by injection hA
    subst hA'
    obtain ⟨c0,c1,c2⟩:=row_cells HR.out k r hr
    clear hA hnc hg hne hltL hkn
    have hxe:x < r.e:=by have:=H3.out r hr;simpa using this
    have hltI:(k:Int) < (n:Int):=by omega
    have HXE:=hid hxe;clear hxe
    by_cases hsx:x < r.s
    · have hnone:∀ p,¬ In L x p:=fun p hp=>by
        obtain ⟨r',hr',h5,_⟩:=(HIN.out p).1 hp
        rw [hr] at hr';cases hr';omega
      have HNO:=hid hnone;clear hnone hr
      go_wp2_with fail
      go_quiet (fail)
      go_wp2_with fail
      refine bodyPost_ret (results_row_tmp rfl _ _ (w.heap.size + 1) 112 _ (0,0) _ rfl (set3 _ _ _ HZ1.out) Tryz.underlying112 rfl (by kernel_rfl)) rfl ?_
      exact ⟨⟨0,0,0⟩,false,rfl,.inr ⟨rfl,rfl,HNO.out⟩,(((HK1.out.drewN _).set (by simp) _).set (by simp) _).set (by simp) _⟩
    · have HIR:=hid (List.mem_of_getElem? hr);clear hr
      have hsx2:r.s ≤ x:=by omega
      go_wp2_with fail
      go_quiet (fail)
      go_wp2_with fail
      refine bodyPost_ret (results_row_tmp rfl _ _ (w.heap.size + 1) 112 _ (0,0) _ rfl (set3 _ _ _ HZ1.out) Tryz.underlying112 rfl (by kernel_rfl)) rfl ?_
      exact ⟨r,true,rfl,.inl ⟨rfl,HIR.out,hsx2,HXE.out⟩,(((HK1.out.drewN _).set (by simp) _).set (by simp) _).set (by simp) _⟩
end Go.Proofs.YtlhpodholnfppaaGreatDoor

namespace Go.Proofs.YtlhpodholnfppaaGreatDoor
open Go.RowKit
set_option maxRecDepth 100000
def Can (L:List Rg) (p x:Int):Prop:=∃ q,In L x q∧bits .and .i64 q p = p
def FirstPost (w:World) (L:List Rg) (s t p:Int) (e:Ending) (w':World):Prop:=∃ x ok,e = .returned (.tuple #[.int .u64 x,.bool ok]) ∧
  ((ok = true∧s ≤ x∧x < t∧¬ Can L p x∧∀ y,s ≤ y → y < x → Can L p y) ∨ (ok = false∧x = 0∧∀ y,s ≤ y → y < t → Can L p y))∧Bl w w'
theorem first_any {X:Ctx} {w:World} {b:Nat} {L:List Rg} (h:ListAt X w b L) (hs:So 0 274877906944 L) (s t p:Int) (hl:L.length ≤ 1000) :
    Calls Tryz.prog 210 #[addr0 b,.int .u64 s,.int .u64 t,.int .i64 p] w (FirstPost w L s t p):=by
  have HH:=hid h;clear h
  have HSO:=hid hs;clear hs
  have HL:=hid hl;clear hl
  unfold addr0
  go_enter Tryz.func210,Tryz.ntmps210
  go_wp2_with fail
  go_loopw [1,10,11] (fun v1 _ _ wr=>∃ a:Int,v1 = .int .u64 a∧s ≤ a∧(∀ y,s ≤ y → y < a → Can L p y)∧Bl w wr) (fun v1 _ _ _=>(t - intOf v1).toNat)
  case atStart=>exact ⟨s,rfl,by omega,fun y h1 h2=>absurd h2 (by omega),Bl.refl _⟩
  case round =>
    obtain ⟨a,rfl,ha,hall,hbl⟩:=hrel
    have HALL:=hid hall;clear hall
    have HBL:=hid hbl;clear hbl
    by_cases hat:a < t
    · go_wp2_with fail
      refine (at_any (HH.out.bl HBL.out) HSO.out a HL.out).mono ?_
      rintro e w1 ⟨r,ok,rfl,hr,k1⟩
      have K1:=hid (HBL.out.trans k1);clear k1
      unfold rgV
      rcases hr with ⟨rfl,h1,h2,h3⟩ | ⟨rfl,rfl,h1⟩
      · have hmem:In L a r.p:=⟨r,h1,h2,h3,rfl⟩
        by_cases hc:bits .and .i64 r.p p = p
        · have t1:(bits .and .i64 r.p p == p) = true:=by simp [hc]
          have t2:(bits .and .i64 r.p p != p) = false:=by simp [hc]
          have hall2:∀ y,s ≤ y → y < r.e → Can L p y:=fun y y1 y2=>by
            by_cases hy:y < a
            · exact HALL.out y y1 hy
            · exact ⟨r.p,⟨r,h1,by omega,y2,rfl⟩,hc⟩
          have HALL2:=hid hall2;clear hall2 hmem h1 hc
          go_wp2_with fail
          refine ⟨⟨r.e,rfl,by omega,HALL2.out,K1.out.alloc _⟩,?_⟩
          simp only [intOf];omega
        · have t1:(bits .and .i64 r.p p == p) = false:=by simp [hc]
          have t2:(bits .and .i64 r.p p != p) = true:=by simp [hc]
          have hno:¬ Can L p a:=fun ⟨q,hq,hb⟩=>hc (by rw [← HSO.out.one hq hmem];exact hb)
          have hp:FirstPost w L s t p (.returned (.tuple #[.int .u64 a,.bool true])) (w1.alloc (.cells #[.int .u64 r.s,.int .u64 r.e,.int .i64 r.p] 112)):=⟨a,true,rfl,.inl ⟨rfl,ha,hat,hno,HALL.out⟩,K1.out.alloc _⟩
          have HP:=hid hp;clear hp hno hmem h1 hc
          go_wp2_with fail
          go_ret2
          exact HP.out
      · have hno:¬ Can L p a:=fun ⟨q,hq,hb⟩=>h1 q hq
        have hp:FirstPost w L s t p (.returned (.tuple #[.int .u64 a,.bool true])) (w1.alloc (.cells #[.int .u64 0,.int .u64 0,.int .i64 0] 112)):=⟨a,true,rfl,.inl ⟨rfl,ha,hat,hno,HALL.out⟩,K1.out.alloc _⟩
        have HP:=hid hp;clear hp hno h1
        go_wp2_with fail
        go_ret2
        exact HP.out
    · have hp:FirstPost w L s t p (.returned (.tuple #[.int .u64 0,.bool false])) wr:=⟨0,false,rfl,.inr ⟨rfl,rfl,fun y y1 y2=>HALL.out y y1 (by omega)⟩,HBL.out⟩
      have HP:=hid hp;clear hp
      go_wp2_with fail
      go_ret2
      exact HP.out
end Go.Proofs.YtlhpodholnfppaaGreatDoor

namespace Go.Proofs.YtlhpodholnfppaaGreatDoor
open Go.RowKit
set_option maxRecDepth 100000
theorem Fr.only_new {w w1 w2:World} {b:Nat} (k:Bl w w1) (f:Fr (only b) w1 w2) (hb:w.heap.size ≤ b):Bl w w2:=
  ((Fr.of_bl (S:=only b) k).trans f).bl fun j hj e=>by have e:j = b:=e;omega
structure Rs (L:List Rg):Prop where
  nm:Nm 0 274877906944 L
  al:Al L
theorem Rs.nil:Rs []:=⟨Nm.nil _ _,Al.nil⟩
theorem Rs.lay {L:List Rg} (h:Rs L) {s e p:Int} (h0:0 ≤ s) (hs:Span s e):Rs (layL L s e [⟨s,e,p⟩]):=by
  obtain ⟨a,b,c,d⟩:=hs
  obtain ⟨h1,h2,h3,h4⟩:=layL_all h.nm.so h0 c d (one_so (p:=p) c)
  exact ⟨h1,h3 h.al a b (one_al a b)⟩
theorem lay_in {L:List Rg} (h:Rs L) {s e p:Int} (h0:0 ≤ s) (hs:Span s e) (a q:Int):In (layL L s e [⟨s,e,p⟩]) a q ↔ (s ≤ a∧a < e∧p = q) ∨ ((a < s ∨ e ≤ a)∧In L a q):=by
  obtain ⟨_,_,c,d⟩:=hs
  rw [(layL_all h.nm.so h0 c d (one_so (p:=p) c)).2.1,In_one]
theorem Rs.eq {L M:List Rg} (h:Rs L) (k:Rs M) (e:∀ a p,In L a p ↔ In M a p):L = M:=unique h.nm k.nm e
end Go.Proofs.YtlhpodholnfppaaGreatDoor

namespace Go.Proofs.YtlhpodholnfppaaGreatDoor
end Go.Proofs.YtlhpodholnfppaaGreatDoor

namespace Go.Proofs.YtlhpodholnfppaaGreatDoor
open Go.RowKit
set_option maxRecDepth 100000
end Go.Proofs.YtlhpodholnfppaaGreatDoor

namespace Go.Proofs.YtlhpodholnfppaaGreatDoor
open Go.RowKit
set_option maxRecDepth 100000

theorem cells_ty {a b:Array Value} {t u:TypeId} {f g:Nat × Nat} (h:some (Obj.cells a t f) = some (Obj.cells b u g)):t = u:=by
  injection h with h;injection h
theorem Fr.grown {S:Nat → Prop} {a b:World} {r:Option Nat} (h:a.grownBy b r) (hr:∀ k,r = some k → S k):Fr S a b:=
  ⟨h.os,h.tape,h.output,h.size,fun k hk hn=>h.block k hk (fun e=>hn (hr k e.symm))⟩
def pageOf (M:Nat → Int) (p:Nat):List Int:=(List.range 4096).map fun o=>M (p * 4096 + o)
theorem pageOf_length (M:Nat → Int) (p:Nat):(pageOf M p).length = 4096:=by simp [pageOf]
theorem pageOf_get (M:Nat → Int) (p o:Nat) (h:o < 4096):(pageOf M p)[o]? = some (M (p * 4096 + o)):=by simp [pageOf,List.getElem?_range h]
def lay (M:Nat → Int) (a:Nat) (cs:List Int):Nat → Int:=fun x=>if a ≤ x∧x < a + cs.length then cs.getD (x - a) 0 else M x
theorem lay_nil (M:Nat → Int) (a:Nat):lay M a [] = M:=by funext x;simp only [lay,List.length_nil];rw [if_neg (by omega)]
theorem lay_at (M:Nat → Int) (a:Nat) (cs:List Int) (i:Nat) (h:i < cs.length):lay M a cs (a + i) = cs.getD i 0:=by
  simp only [lay];rw [if_pos (by omega),Nat.add_sub_cancel_left]
theorem lay_out (M:Nat → Int) (a:Nat) (cs:List Int) (x:Nat) (h:x < a ∨ a + cs.length ≤ x):lay M a cs x = M x:=by
  simp only [lay];rw [if_neg (by omega)]
theorem lay_lay (M:Nat → Int) (a:Nat) (cs ds:List Int):lay (lay M a cs) (a + cs.length) ds = lay M a (cs ++ ds):=by
  funext x
  simp only [lay,List.length_append,List.getD_eq_getElem?_getD,List.getElem?_append]
  by_cases h1:a + cs.length ≤ x∧x < a + cs.length + ds.length
  · rw [if_pos h1,if_pos (by omega),if_neg (by omega)]
    congr 2;omega
  · rw [if_neg h1]
    by_cases h2:a ≤ x∧x < a + cs.length
    · rw [if_pos h2,if_pos (by omega),if_pos (by omega)]
    · rw [if_neg h2,if_neg (by omega)]
theorem pageOf_lay (M:Nat → Int) (p off:Nat) (cs:List Int) (h:off + cs.length ≤ 4096):pageOf (lay M (p * 4096 + off) cs) p = splice (pageOf M p) off cs:=by
  apply List.ext_getElem?
  intro o
  by_cases ho:o < 4096
  · rw [pageOf_get _ _ _ ho]
    simp only [splice,lay]
    by_cases h1:o < off
    · rw [if_neg (by omega),List.getElem?_append_left (by simp [pageOf_length];omega),List.getElem?_take_of_lt h1,pageOf_get _ _ _ ho]
    · have hl:((pageOf M p).take off).length = off:=by simp [pageOf_length];omega
      rw [List.getElem?_append_right (by omega),hl]
      by_cases h2:o < off + cs.length
      · rw [if_pos (by omega),List.getElem?_append_left (by omega),List.getD_eq_getElem?_getD]
        have e:p * 4096 + o - (p * 4096 + off) = o - off:=by omega
        rw [e,List.getElem?_eq_getElem (by omega)];rfl
      · rw [if_neg (by omega),List.getElem?_append_right (by omega),List.getElem?_drop]
        have e:off + cs.length + (o - off - cs.length) = o:=by omega
        rw [e,pageOf_get _ _ _ ho]
  · rw [List.getElem?_eq_none (by simp [pageOf_length];omega),List.getElem?_eq_none (by rw [length_splice _ _ _ (by rw [pageOf_length];exact h),pageOf_length];omega)]
theorem pageOf_other (M M':Nat → Int) (p:Nat) (h:∀ o,o < 4096 → M' (p * 4096 + o) = M (p * 4096 + o)):pageOf M' p = pageOf M p:=by
  simp only [pageOf]
  apply List.map_congr_left
  intro o ho
  exact h o (by simpa using ho)
theorem pageOf_zero (M:Nat → Int) (p:Nat) (h:∀ o,o < 4096 → M (p * 4096 + o) = 0):pageOf M p = List.replicate 4096 0:=by
  apply List.ext_getElem?
  intro o
  by_cases ho:o < 4096
  · rw [pageOf_get _ _ _ ho,h o ho,List.getElem?_replicate,if_pos ho]
  · rw [List.getElem?_eq_none (by simp [pageOf_length];omega),List.getElem?_eq_none (by simp;omega)]

def ptrE (v:Value):Option (DataW Nat × List MemPlace):=
  match v with
  | .pointer (some ⟨b,0,none⟩)=>some (.held b,[])
  | .pointer none=>some (.nil,[])
  | _=>none
def ptrOf (x:Option Nat):Value:=.pointer (x.map fun b=>⟨b,0,none⟩)
theorem ptrE_inv {v:Value} {z:DataW Nat × List MemPlace} (h:ptrE v = some z):∃ x,v = ptrOf x∧z.1 = (match x with | some b=>.held b | none=>.nil):=by
  unfold ptrE at h
  split at h
  · rename_i b;cases h;exact ⟨some b,rfl,rfl⟩
  · cases h;exact ⟨none,rfl,rfl⟩
  · cases h
theorem ptrE_mk (x:Option Nat):ptrE (ptrOf x) = some ((match x with | some b=>.held b | none=>.nil),[]):=by cases x <;> rfl
def datum (x:Option Nat):DataW Nat:=match x with | some b=>.held b | none=>.nil
theorem datum_inj {x y:Option Nat} (h:datum x = datum y):x = y:=by
  cases x <;> cases y <;> simp_all [datum]
def key (p:Nat):Lit:=.int .u64 (p:Int)
theorem key_wf {p:Nat} (h:p < 2 ^ 64):(key p).wf = true:=by
  show (decide ((0:Int) ≤ (p:Int)) && decide ((p:Int) ≤ 18446744073709551615)) = true
  simp;omega
theorem key_ne {p q:Nat} (h:p ≠ q):key p ≠ key q:=by
  intro e;simp only [key,Lit.int.injEq,true_and] at e;omega
def put1 (f:Nat → Option Nat) (p:Nat) (x:Option Nat):Nat → Option Nat:=fun q=>if q = p then x else f q
theorem put1_same (f:Nat → Option Nat) (p:Nat) (x:Option Nat):put1 f p x p = x:=by simp [put1]
theorem put1_other (f:Nat → Option Nat) (p:Nat) (x:Option Nat) {q:Nat} (h:q ≠ p):put1 f p x q = f q:=by simp [put1,h]

theorem key_of {p:Nat} (h:p < 2 ^ 64):keyOf Tryz.prog 29 (.int .u64 (p:Int)) = some (key p):=Maps.keyOf_int_mk Tryz.underlying29 (key_wf h)

def PM (w:World) (B n:Nat) (f:Nat → Option Nat) (k:Nat):Prop:=
  ∃ D,w.ownsMap Tryz.prog 29 ptrE B n D∧(∀ p,p < 2 ^ 64 → D.atKey (key p) .nil = datum (f p))∧(∀ p,p < 2 ^ 64 → Maps.has D (key p) = (f p).isSome)∧Maps.size D = k

theorem PM.lt {w:World} {B n k:Nat} {f:Nat → Option Nat} (h:PM w B n f k):B < w.heap.size:=by
  obtain ⟨D,h1,_⟩:=h;exact h1.lt
theorem PM.isMap {w:World} {B n k:Nat} {f:Nat → Option Nat} (h:PM w B n f k):∃ es c,w.heap[B]? = some (.map es c):=by
  obtain ⟨D,⟨es,c,h1,_⟩,_⟩:=h;exact ⟨es,c,h1⟩
theorem ownsMap_of_block {H:Type} {w w':World} {P:Program} {t:TypeId} {R:Value → Option (DataW H × List MemPlace)} {b n:Nat} {D:DataW H} (h:w.ownsMap P t R b n D) (hb:w'.heap[b]? = w.heap[b]?):w'.ownsMap P t R b n D:=by
  obtain ⟨es,c,h1,h2⟩:=h;exact ⟨es,c,hb.trans h1,h2⟩
theorem PM.of_block {w w':World} {B n k:Nat} {f:Nat → Option Nat} (h:PM w B n f k) (hb:w'.heap[B]? = w.heap[B]?):PM w' B n f k:=by
  obtain ⟨D,h1,h2⟩:=h
  exact ⟨D,ownsMap_of_block h1 hb,h2⟩
theorem PM.mono {w:World} {B n m k:Nat} {f:Nat → Option Nat} (h:PM w B n f k) (hn:n ≤ m):PM w B m f k:=by
  obtain ⟨D,h1,h2⟩:=h;exact ⟨D,h1.mono hn,h2⟩
theorem PM.made (w:World):PM (w.alloc (.map #[] 0)) w.heap.size 0 (fun _=>none) 0:=
  ⟨_,World.ownsMap_made w Tryz.prog 29 ptrE,fun _ _=>rfl,fun _ _=>rfl,rfl⟩
theorem PM.look {w:World} {B n k:Nat} {f:Nat → Option Nat} (h:PM w B n f k) {p:Nat} (hp:p < 2 ^ 64) :
    (Instr.lookup 98 (.map (some B)) (.int .u64 (p:Int)) false).run Tryz.prog w = .ok (ptrOf (f p)) w:=by
  obtain ⟨D,h1,h2,_⟩:=h
  obtain ⟨v,ps,hrun,hv⟩:=h1.lookup law27 Tryz.underlying98 (zero44 w) (ptrE_mk none) (key_of hp)
  obtain ⟨x,rfl,hx⟩:=ptrE_inv hv
  rw [hrun]
  have:f p = x:=datum_inj (by rw [← h2 p hp];exact hx)
  rw [this]
theorem isKeyLit_key (p:Nat):WideAt.IsKeyLit (key p):=trivial
theorem PM.put {w:World} {B n k:Nat} {f:Nat → Option Nat} (h:PM w B n f k) {p:Nat} (hp:p < 2 ^ 64) (hn:n < maxLen) (b:Nat) :
    ∃ w',(Instr.mapUpdate 98 (.map (some B)) (.int .u64 (p:Int)) (.pointer (some ⟨b,0,none⟩))).run Tryz.prog w = .ok () w'∧PM w' B (n + 1) (put1 f p (some b)) (if (f p).isSome then k else k + 1)∧w.mapTurned w' B:=by
  obtain ⟨D,h1,h2,h3,h4⟩:=h
  obtain ⟨w',hrun,ho,ht⟩:=h1.store law27 Tryz.underlying98 hn (key_of hp) (ptrE_mk (some b))
  refine ⟨w',hrun,⟨_,ho,fun q hq=>?_,fun q hq=>?_,?_⟩,ht⟩
  · by_cases e:q = p
    · subst e;rw [put1_same];exact Maps.atKey_put_same h1.isMap (isKeyLit_key _) _ _
    · rw [put1_other _ _ _ e,Maps.atKey_put_other (key_ne e)];exact h2 q hq
  · by_cases e:q = p
    · subst e;rw [put1_same];exact Maps.has_put_same h1.isMap (isKeyLit_key _) _
    · rw [put1_other _ _ _ e,Maps.has_put_other (key_ne e)];exact h3 q hq
  · rw [Maps.size_put (h1.tidy law27),h3 p hp,h4]
theorem PM.del_of {w w':World} {B n k:Nat} {f:Nat → Option Nat} (h:PM w B n f k) {p:Nat} (hp:p < 2 ^ 64) {ty:TypeId}
    (hd:(Builtin.delete_ #[98,29] ty #[.map (some B),.int .u64 (p:Int)]).run Tryz.prog w = .ok (.tuple #[]) w') :
    (∃ k',PM w' B n (put1 f p none) k'∧k' + (if (f p).isSome then 1 else 0) = k)∧w.mapTurned w' B:=by
  obtain ⟨D,h1,h2,h3,h4⟩:=h
  obtain ⟨w2,hrun,ho,ht⟩:=h1.drop law27 Tryz.underlying98 (key_of hp) ty
  rw [hrun] at hd;injection hd with _ e;subst e
  refine ⟨⟨_,⟨_,ho,fun q hq=>?_,fun q hq=>?_,rfl⟩,?_⟩,ht⟩
  · by_cases e:q = p
    · subst e;rw [put1_same];exact Maps.atKey_del_same _
    · rw [put1_other _ _ _ e,Maps.atKey_del_other (key_ne e)];exact h2 q hq
  · by_cases e:q = p
    · subst e;rw [put1_same];exact Maps.has_del_same
    · rw [put1_other _ _ _ e,Maps.has_del_other (key_ne e)];exact h3 q hq
  · have:=Maps.size_del (k:=key p) (h1.tidy law27)
    rw [h3 p hp,h4] at this;exact this
theorem PM.del_run {w:World} {B n k:Nat} {f:Nat → Option Nat} (h:PM w B n f k) {p:Nat} (hp:p < 2 ^ 64) (ty:TypeId) :
    ∃ w',(Builtin.delete_ #[98,29] ty #[.map (some B),.int .u64 (p:Int)]).run Tryz.prog w = .ok (.tuple #[]) w':=by
  obtain ⟨D,h1,_⟩:=h
  obtain ⟨w2,hrun,_⟩:=h1.drop law27 Tryz.underlying98 (key_of hp) ty
  exact ⟨w2,hrun⟩

def PMV (S:Nat → Prop) (w:World) (pm:Value) (n:Nat) (f:Nat → Option Nat) (k:Nat):Prop:=
  (pm = .map none∧(∀ p,f p = none)∧k = 0) ∨ ∃ B,pm = .map (some B)∧S B∧PM w B n f k
theorem PMV.look {S:Nat → Prop} {w:World} {pm:Value} {n k:Nat} {f:Nat → Option Nat} (h:PMV S w pm n f k) {p:Nat} (hp:p < 2 ^ 64) :
    (Instr.lookup 98 pm (.int .u64 (p:Int)) false).run Tryz.prog w = .ok (ptrOf (f p)) w:=by
  rcases h with ⟨rfl,h1,_⟩ | ⟨B,rfl,_,h1⟩
  · rw [h1 p];exact Maps.look_nil false law27 Tryz.underlying98 (zero44 w) (key_of hp)
  · exact h1.look hp
def SMV (S:Nat → Prop) (w:World) (sm:Value) (n:Nat) (c:Int) (st:Nat → Int):Prop:=
  (sm = .map none∧∀ p,p < 2 ^ 64 → st p = c) ∨ ∃ B D,sm = .map (some B)∧S B∧w.ownsMap Tryz.prog 29 (plainElem (H:=Nat) Tryz.prog 29) B n D ∧
    ∃ g:Nat → Option Int,(∀ p,p < 2 ^ 64 → Maps.has D (key p) = (g p).isSome)∧(∀ p v,p < 2 ^ 64 → g p = some v → ∀ zd,D.atKey (key p) zd = .lit (.int .u64 v))∧∀ p,p < 2 ^ 64 → st p = (g p).getD c
def Rise (st st':Nat → Int) (T:Nat → Prop):Prop:=∀ p,p < 2 ^ 64 → st p ≤ st' p∧(T p → st p < st' p)
theorem Rise.refl (st:Nat → Int):Rise st st (fun _=>False):=fun p _=>⟨Int.le_refl _,fun h=>h.elim⟩
theorem Rise.trans {st st1 st2:Nat → Int} {T U:Nat → Prop} (h:Rise st st1 T) (k:Rise st1 st2 U):Rise st st2 (fun p=>T p ∨ U p):=fun p hp=>by
  have h1:=h p hp
  have h2:=k p hp
  refine ⟨by omega,fun h3=>?_⟩
  rcases h3 with h3 | h3
  · have:=h1.2 h3;omega
  · have:=h2.2 h3;omega
theorem Rise.mono {st st1:Nat → Int} {T U:Nat → Prop} (h:Rise st st1 T) (k:∀ p,U p → T p):Rise st st1 U:=fun p hp=>⟨(h p hp).1,fun hu=>(h p hp).2 (k p hu)⟩
def setSt (st:Nat → Int) (num:Nat) (l:Int):Nat → Int:=fun p=>if p = num then l else st p
structure Rest where
  rg:Value
  mo:Int
  ba:Int
  en:Int
theorem PMV.kept {S:Nat → Prop} {w w':World} {pm:Value} {n k:Nat} {f:Nat → Option Nat} (h:PMV S w pm n f k) (hb:∀ B,pm = .map (some B) → w'.heap[B]? = w.heap[B]?):PMV S w' pm n f k:=by
  rcases h with h | ⟨B,rfl,h1,h2⟩
  · exact .inl h
  · exact .inr ⟨B,rfl,h1,h2.of_block (hb B rfl)⟩
theorem SMV.kept {S:Nat → Prop} {w w':World} {sm:Value} {n:Nat} {c:Int} {st:Nat → Int} (h:SMV S w sm n c st) (hb:∀ B,sm = .map (some B) → w'.heap[B]? = w.heap[B]?):SMV S w' sm n c st:=by
  rcases h with h | ⟨B,D,rfl,h1,h2,h3⟩
  · exact .inl h
  · exact .inr ⟨B,D,rfl,h1,ownsMap_of_block h2 (hb B rfl),h3⟩
theorem SMV.mono {S:Nat → Prop} {w:World} {sm:Value} {n m:Nat} {c:Int} {st:Nat → Int} (h:SMV S w sm n c st) (hn:n ≤ m):SMV S w sm m c st:=by
  rcases h with h | ⟨B,D,h0,h1,h2,h3⟩
  · exact .inl h
  · exact .inr ⟨B,D,h0,h1,h2.mono hn,h3⟩
theorem PMV.mono {S:Nat → Prop} {w:World} {pm:Value} {n m k:Nat} {f:Nat → Option Nat} (h:PMV S w pm n f k) (hn:n ≤ m):PMV S w pm m f k:=by
  rcases h with h1 | ⟨B,h0,h1,h2⟩
  · exact .inl h1
  · exact .inr ⟨B,h0,h1,h2.mono hn⟩

structure SA (Y:Rest) (S:Nat → Prop) (w:World) (sb n:Nat) (f:Nat → Option Nat) (k:Nat) (M st:Nat → Int) (pm sm:Value) (c l:Int):Prop where
  blk:w.heap[sb]? = some (.cells #[Y.rg,pm,sm,.int .u64 c,.int .u64 l,.int .i64 Y.mo,.int .u64 Y.ba,.int .u64 Y.en] 103 (0,0))
  own:S sb
  lw:0 ≤ l∧l ≤ (n:Int)
  top:∀ p,p < 2 ^ 64 → st p ≤ l
  pages:PMV S w pm n f k
  stamps:SMV S w sm n c st
  apart:∀ B,pm = .map (some B) → sm ≠ .map (some B)
  at_:∀ p b,f p = some b → S b∧w.heap[b]? = some (.cells (asBytes (pageOf M p)).toArray 173 (0,0))
  inj:∀ p q b,f p = some b → f q = some b → p = q
  zero:∀ p o,f p = none → o < 4096 → M (p * 4096 + o) = 0
  lim:∀ p b,f p = some b → p < 67108864
def StoreAt (Y:Rest) (S:Nat → Prop) (w:World) (sb n:Nat) (f:Nat → Option Nat) (k:Nat) (M st:Nat → Int):Prop:=∃ pm sm c l,SA Y S w sb n f k M st pm sm c l

section
variable {Y:Rest} {S T:Nat → Prop} {w w':World} {sb n k:Nat} {f:Nat → Option Nat} {M st:Nat → Int} {pm sm:Value} {c l:Int}
theorem SMV.isMap {S:Nat → Prop} {w:World} {sm:Value} {n:Nat} {c:Int} {st:Nat → Int} (h:SMV S w sm n c st) {B:Nat} (hB:sm = .map (some B)):S B∧∃ es c,w.heap[B]? = some (.map es c):=by
  rcases h with h | ⟨B',D,h0,h1,⟨es,c,h2,_⟩,_⟩
  · rw [h.1] at hB;cases hB
  · rw [h0] at hB;cases hB;exact ⟨h1,es,c,h2⟩
theorem PMV.isMap {S:Nat → Prop} {w:World} {pm:Value} {n k:Nat} {f:Nat → Option Nat} (h:PMV S w pm n f k) {B:Nat} (hB:pm = .map (some B)):S B∧∃ es c,w.heap[B]? = some (.map es c):=by
  rcases h with h | ⟨B',h0,h1,h2⟩
  · rw [h.1] at hB;cases hB
  · rw [h0] at hB;cases hB;exact ⟨h1,h2.isMap⟩
theorem SA.kept (h:SA Y S w sb n f k M st pm sm c l) (hf:Fr T w w') (hd:∀ b,S b → ¬ T b):SA Y S w' sb n f k M st pm sm c l where
  blk:=hf.at_ h.blk (hd _ h.own)
  own:=h.own
  lw:=h.lw
  top:=h.top
  pages:=h.pages.kept fun B hB=>by
    obtain ⟨h1,es,c,h2⟩:=h.pages.isMap hB
    rw [hf.at_ h2 (hd _ h1),h2]
  stamps:=h.stamps.kept fun B hB=>by
    obtain ⟨h1,es,c,h2⟩:=h.stamps.isMap hB
    rw [hf.at_ h2 (hd _ h1),h2]
  apart:=h.apart
  at_:=fun p b hb=>⟨(h.at_ p b hb).1,hf.at_ (h.at_ p b hb).2 (hd _ (h.at_ p b hb).1)⟩
  inj:=h.inj
  zero:=h.zero
  lim:=h.lim
theorem SA.bl (h:SA Y S w sb n f k M st pm sm c l) (hf:Bl w w'):SA Y S w' sb n f k M st pm sm c l:=h.kept (T:=fun _=>False) (Fr.of_bl hf) (fun _ _ e=>e)
theorem StoreAt.kept (h:StoreAt Y S w sb n f k M st) (hf:Fr T w w') (hd:∀ b,S b → ¬ T b):StoreAt Y S w' sb n f k M st:=by
  obtain ⟨pm,sm,c,l,h⟩:=h;exact ⟨pm,sm,c,l,h.kept hf hd⟩
theorem StoreAt.bl (h:StoreAt Y S w sb n f k M st) (hf:Bl w w'):StoreAt Y S w' sb n f k M st:=by
  obtain ⟨pm,sm,c,l,h⟩:=h;exact ⟨pm,sm,c,l,h.bl hf⟩
theorem SA.lt (h:SA Y S w sb n f k M st pm sm c l):sb < w.heap.size:=lt_at h.blk
theorem SA.among (h:SA Y S w sb n f k M st pm sm c l) (hs:∀ b,b < w.heap.size → S b → T b):SA Y T w sb n f k M st pm sm c l where
  blk:=h.blk
  own:=hs _ h.lt h.own
  lw:=h.lw
  top:=h.top
  pages:=by
    rcases h.pages with h1 | ⟨B,h0,h1,h2⟩
    · exact .inl h1
    · exact .inr ⟨B,h0,hs _ h2.lt h1,h2⟩
  stamps:=by
    rcases h.stamps with h1 | ⟨B,D,h0,h1,h2,h3⟩
    · exact .inl h1
    · exact .inr ⟨B,D,h0,hs _ h2.lt h1,h2,h3⟩
  apart:=h.apart
  at_:=fun p b hb=>⟨hs _ (lt_at (h.at_ p b hb).2) (h.at_ p b hb).1,(h.at_ p b hb).2⟩
  inj:=h.inj
  zero:=h.zero
  lim:=h.lim
theorem StoreAt.among (h:StoreAt Y S w sb n f k M st) (hs:∀ b,b < w.heap.size → S b → T b):StoreAt Y T w sb n f k M st:=by
  obtain ⟨pm,sm,c,l,h⟩:=h;exact ⟨pm,sm,c,l,h.among hs⟩
theorem SA.mono (h:SA Y S w sb n f k M st pm sm c l) {m:Nat} (hn:n ≤ m):SA Y S w sb m f k M st pm sm c l where
  blk:=h.blk
  own:=h.own
  lw:=by have:=h.lw;omega
  top:=h.top
  pages:=h.pages.mono hn
  stamps:=h.stamps.mono hn
  apart:=h.apart
  at_:=h.at_
  inj:=h.inj
  zero:=h.zero
  lim:=h.lim
theorem StoreAt.mono (h:StoreAt Y S w sb n f k M st) {m:Nat} (hn:n ≤ m):StoreAt Y S w sb m f k M st:=by
  obtain ⟨pm,sm,c,l,h⟩:=h;exact ⟨pm,sm,c,l,h.mono hn⟩
theorem SA.cell (h:SA Y S w sb n f k M st pm sm c l):w.cell? ⟨sb,1,none⟩ = some pm∧w.cell? ⟨sb,2,none⟩ = some sm∧w.cell? ⟨sb,3,none⟩ = some (.int .u64 c)∧w.cell? ⟨sb,4,none⟩ = some (.int .u64 l):=by
  have:=h.blk
  refine ⟨?_,?_,?_,?_⟩ <;> simp [World.cell?,this]
theorem SA.free (h:SA Y S w sb n f k M st pm sm c l) (i:Nat):w.frozen? ⟨sb,i,none⟩ = false:=by
  have:=h.blk
  simp [World.frozen?,this]
theorem SA.write (h:SA Y S w sb n f k M st pm sm c l) {num b off:Nat} {cs:List Int} (hb:f num = some b) (hfit:off + cs.length ≤ 4096) (hg:w.grownBy w' (some b))
    (hw:w'.heap[b]? = some (.cells (asBytes (splice (pageOf M num) off cs)).toArray 173 (0,0))):SA Y S w' sb n f k (lay M (num * 4096 + off) cs) st pm sm c l:=by
  have hbb:=(h.at_ num b hb).2
  have other:∀ x o,w.heap[x]? = some o → x ≠ b → w'.heap[x]? = some o:=fun x o hx hn=>by
    rw [hg.block x (lt_at hx) (fun e=>hn (by injection e))];exact hx
  refine ⟨other _ _ h.blk (fun e=>?_),h.own,h.lw,h.top,h.pages.kept fun B hB=>?_,h.stamps.kept fun B hB=>?_,h.apart,fun p x hx=>?_,h.inj,fun p o hp ho=>?_,h.lim⟩
  · have:=h.blk;rw [e,hbb] at this;first | cases this | exact absurd (cells_ty this) (by decide)
  · obtain ⟨_,es,c,h2⟩:=h.pages.isMap hB
    rw [other _ _ h2 (fun e=>by rw [e,hbb] at h2;cases h2),h2]
  · obtain ⟨_,es,c,h2⟩:=h.stamps.isMap hB
    rw [other _ _ h2 (fun e=>by rw [e,hbb] at h2;cases h2),h2]
  · by_cases e:p = num
    · subst e
      rw [hb] at hx;cases hx
      exact ⟨(h.at_ p _ hb).1,by rw [pageOf_lay _ _ _ _ hfit];exact hw⟩
    · have hne:x ≠ b:=fun ex=>e (h.inj p num b (ex ▸ hx) hb)
      refine ⟨(h.at_ p x hx).1,?_⟩
      rw [pageOf_other M _ p (fun o ho=>lay_out _ _ _ _ (by omega))]
      exact other _ _ (h.at_ p x hx).2 hne
  · have hpn:p ≠ num:=fun e=>by subst e;rw [hb] at hp;cases hp
    rw [lay_out _ _ _ _ (by omega)]
    exact h.zero p o hp ho
end

end Go.Proofs.YtlhpodholnfppaaGreatDoor

namespace Go.Proofs.YtlhpodholnfppaaGreatDoor
open Go.RowKit
set_option maxRecDepth 100000

theorem below_far (addr n:Int) (w:World) (h:274877906944 ≤ addr):Calls Tryz.prog 70 #[.int .u64 addr,.int .i64 n] w fun e w'=>e = .returned (.int .i64 0)∧w = w':=by
  go_enter Tryz.func70,Tryz.ntmps70
  go_wp2
  go_ret
  exact ⟨rfl,rfl⟩
theorem below_le (addr n:Int) (w:World) (h0:0 ≤ addr) (h:addr < 274877906944) (hn0:0 ≤ n) (hn:n ≤ 100000000) (h1:n ≤ 274877906944 - addr):Calls Tryz.prog 70 #[.int .u64 addr,.int .i64 n] w fun e w'=>e = .returned (.int .i64 n)∧w = w':=by
  go_enter Tryz.func70,Tryz.ntmps70
  go_wp2
  go_ret
  exact ⟨rfl,rfl⟩
theorem below_gt (addr n:Int) (w:World) (h0:0 ≤ addr) (h:addr < 274877906944) (hn0:0 ≤ n) (hn:n ≤ 100000000) (h1:274877906944 - addr < n):Calls Tryz.prog 70 #[.int .u64 addr,.int .i64 n] w fun e w'=>e = .returned (.int .i64 (274877906944 - addr))∧w = w':=by
  go_enter Tryz.func70,Tryz.ntmps70
  go_wp2
  go_ret
  exact ⟨rfl,rfl⟩
def room (addr n:Nat):Nat:=min n (274877906944 - addr)
theorem below_any (addr n:Nat) (w:World) (hn:n ≤ 100000000):Calls Tryz.prog 70 #[.int .u64 (addr:Int),.int .i64 (n:Int)] w fun e w'=>e = .returned (.int .i64 (room addr n:Int))∧w = w':=by
  unfold room
  by_cases h:addr < 274877906944
  · by_cases hle:n ≤ 274877906944 - addr
    · rw [Nat.min_eq_left hle]
      exact below_le _ _ w (by omega) (by omega) (by omega) (by omega) (by omega)
    · rw [Nat.min_eq_right (by omega)]
      have e:((274877906944 - addr:Nat):Int) = 274877906944 - (addr:Int):=by omega
      rw [e]
      exact below_gt _ _ w (by omega) (by omega) (by omega) (by omega) (by omega)
  · rw [show 274877906944 - addr = 0 by omega,Nat.min_zero]
    exact below_far _ _ w (by omega)

def span (a b:Int):Value:=.agg #[.int .u64 a,.int .u64 b]
theorem pwithin_in (a b:Int) (w:World) (h:b ≤ 274877906944):Calls Tryz.prog 112 #[.int .u64 a,.int .u64 b] w fun e w'=>e = .returned (span a b)∧Bl w w':=by
  unfold span
  go_enter Tryz.func112,Tryz.ntmps112
  go_wp2
  refine bodyPost_ret (results_cell_row rfl _ _ w.heap.size 167 _ (0,0) _ rfl (heap_alloc_new w _) Tryz.underlying167 rfl (by kernel_rfl)) rfl ⟨rfl,?_⟩
  exact Bl.new _ _
theorem empty_any (a b:Int) (w:World):Calls Tryz.prog 113 #[span a b] w fun e w'=>e = .returned (.bool (decide (b ≤ a)))∧Bl w w':=by
  unfold span
  go_enter Tryz.func113,Tryz.ntmps113
  go_wp2
  go_ret
  exact ⟨rfl,Bl.new _ _⟩
theorem first_i (a b:Int) (w:World) (h0:0 ≤ a) (h1:a ≤ 18446744073709551615):Calls Tryz.prog 117 #[span a b] w fun e w'=>e = .returned (.int .u64 (a / 4096))∧Bl w w':=by
  unfold span
  go_enter Tryz.func117,Tryz.ntmps117
  go_wp2
  go_ret
  exact ⟨rfl,Bl.new _ _⟩
theorem last_i (a b:Int) (w:World) (hb:1 ≤ b) (hc:b ≤ 274877906944):Calls Tryz.prog 118 #[span a b] w fun e w'=>e = .returned (.int .u64 ((b - 1) / 4096))∧Bl w w':=by
  unfold span
  go_enter Tryz.func118,Tryz.ntmps118
  go_wp2
  go_ret
  exact ⟨rfl,Bl.new _ _⟩
theorem keepS {w w9 w8:World} {x:Value} {y:Value} {b:Nat} (h:w8.cell? ⟨b,0,none⟩ = some x∧w8.cell? ⟨b,1,none⟩ = some y∧Bl w w8) (k:Bl w8 w9):w9.cell? ⟨b,0,none⟩ = some x∧w9.cell? ⟨b,1,none⟩ = some y∧Bl w w9:=by
  obtain ⟨h1,h2,h3⟩:=h
  exact ⟨by rw [k.cell (block_lt_of_cell h1)];exact h1,by rw [k.cell (block_lt_of_cell h2)];exact h2,h3.trans k⟩
theorem wide_i (a b:Int) (w:World) (ha:0 ≤ a) (hab:a < b) (hc:b ≤ 274877906944):Calls Tryz.prog 115 #[span a b] w fun e w'=>e = .returned (.bool (decide (4096 ≤ (b - 1) / 4096 - a / 4096)))∧Bl w w':=by
  have cl:=fun W=>last_i a b W (by omega) hc
  have cf:=fun W=>first_i a b W ha (by omega)
  have CL:=hid cl;clear cl
  have CF:=hid cf;clear cf
  have k0:Bl w (w.alloc (.cells #[.int .u64 a,.int .u64 b] 167)):=Bl.new _ _
  have K0:=hid k0;clear k0
  have c0:(w.alloc (.cells #[.int .u64 a,.int .u64 b] 167)).cell? ⟨w.heap.size,0,none⟩ = some (.int .u64 a):=by rw [cell_of_row _ _ _ _ _ _ (heap_alloc_new w _)];rfl
  have c1:(w.alloc (.cells #[.int .u64 a,.int .u64 b] 167)).cell? ⟨w.heap.size,1,none⟩ = some (.int .u64 b):=by rw [cell_of_row _ _ _ _ _ _ (heap_alloc_new w _)];rfl
  have C0:=hid c0;clear c0
  have C1:=hid c1;clear c1
  have hle:a / 4096 ≤ (b - 1) / 4096:=by omega
  have hq0:0 ≤ a / 4096:=by omega
  have hq1:(b - 1) / 4096 ≤ 67108864:=by omega
  unfold span at *
  generalize (b - 1) / 4096 = q1 at *
  generalize a / 4096 = q0 at *
  go_enter Tryz.func115,Tryz.ntmps115
  go_wp2
  generalize w.alloc (.cells #[.int .u64 a,.int .u64 b] 167) = W at *
  go_region_held3 (fun w'=>w'.cell? ⟨w.heap.size,0,none⟩ = some (.int .u64 a)∧w'.cell? ⟨w.heap.size,1,none⟩ = some (.int .u64 b)∧Bl w w') (first | assumption | exact ⟨C0.out,C1.out,K0.out⟩ | exact ⟨C0.out,C1.out,K0.out.drew⟩) (first | (go_at_call 118;refine (CL.out _).mono ?_;rintro e w9 ⟨rfl,k9⟩;have hkk:=keepS (by assumption) k9) | (go_at_call 117;refine (CF.out _).mono ?_;rintro e w9 ⟨rfl,k9⟩;have hkk:=keepS (by assumption) k9))
  all_goals go_wp2
  all_goals go_ret
  all_goals refine ⟨?_,hkk.2.2⟩
  all_goals rw [IntWalk.u64_in (q1 - q0) (by omega)]
  all_goals rfl
end Go.Proofs.YtlhpodholnfppaaGreatDoor
