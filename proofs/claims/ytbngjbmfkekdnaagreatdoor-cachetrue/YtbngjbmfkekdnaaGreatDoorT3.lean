/-
  At.
  First, Free, Protect.
  answers; lists of regions that the laws build.
  Unmap and Protect that would make too many regions.
  Pages one by one, and the regions that they are: plain mathematics.
  Closed facts of the program's types: a page of bytes, maps of pages and of stamps.
  Pages in memory: a space; New, without, Regions, Span, SameRegions.
  The regions of pages: Regions.
-/
import Derived.Test.YtbngjbmfkekdnaaGreatDoorT2
import Derived.Laws.ResultCell
import Derived.Test.YtbngjbmfkekdnaaGreatDoorRows
import Derived.Test.YtbngjbmfkekdnaaGreatDoorT1
import Derived.Maps.RangeWalk
import Derived.Maps.OwnOps
import Derived.Lib.Hide
set_option linter.unusedVariables false
set_option linter.unusedSimpArgs false
set_option maxHeartbeats 16000000
open Go.Lib (hid)
namespace Go.Proofs.YtbngjbmfkekdnaaGreatDoor
open Go.RowKit
set_option maxRecDepth 100000
def rgV (r:Rg):Value:=.agg #[.int .u64 r.s,.int .u64 r.e,.int .i64 r.p]
theorem results_row_tmp {P:Program} {fn:Func} {p u:Tmp} {ty:TypeId} (h:fn.results = #[.cell p ty,.tmp u]) (tmps:Array Value) (w:World) (g:Nat) (t:TypeId) (cs:Array Value) (fr:Nat × Nat) (d:TypeDesc)
    (hp:tmps.getD p undef = .pointer (some ⟨g,0,none⟩)) (hg:w.heap[g]? = some (.cells cs t fr))
    (hu:P.underlying ty = some d) (hd:(match d with | .struct _ | .array _ _=>true | _=>false) = true) (hi:(P.info? ty).map (·.size) = some cs.size) :
    (results fn tmps).run P w = .ok (.tuple #[.agg cs,tmps.getD u undef]) w:=by
  rw [results_cell_tmp h,hp]
  simp [asAddr,run_loadVar_row w g t ty cs fr d hg hu hd hi,Result.andThen]
theorem set3 {w:World} {g:Nat} {t:TypeId} {a b c:Value} (x y z:Value) (h:w.heap[g]? = some (.cells #[a,b,c] t (0,0))) :
    (((w.setCell ⟨g,0,none⟩ x).setCell ⟨g,1,none⟩ y).setCell ⟨g,2,none⟩ z).heap[g]? = some (.cells #[x,y,z] t (0,0)):=by
  have h1:=heap_setCell_same w g 0 _ t x h
  have h2:=heap_setCell_same _ g 1 _ t y h1
  have h3:=heap_setCell_same _ g 2 _ t z h2
  simpa using h3
def AtPost (w:World) (L:List Rg) (x:Int) (e:Ending) (w':World):Prop:=∃ r ok,e = .returned (.tuple #[rgV r,.bool ok])∧((ok = true∧r ∈ L∧r.s ≤ x∧x < r.e) ∨ (ok = false∧r = ⟨0,0,0⟩∧∀ p,¬ In L x p))∧Bl w w'
theorem at_any {X:Ctx} {w:World} {b:Nat} {L:List Rg} (h:ListAt X w b L) (hs:So 0 274877906944 L) (x:Int) (hl:L.length ≤ 1000) :
    Calls Tryz.prog 32 #[addr0 b,.int .u64 x] w (AtPost w L x):=by
  have hmf:∀ (fn:Fn) (first cap:Array Value) (w:World),(Instr.makeFunc fn first cap).run Tryz.prog w = .ok (.func fn first cap) w:=fun _ _ _ _=>rfl
  have hk:Bl w ((w.alloc (.cells #[.int .u64 x] 29)).alloc (.cells #[.int .u64 0,.int .u64 0,.int .i64 0] 79)):=(Bl.new w _).alloc _
  have hx:((w.alloc (.cells #[.int .u64 x] 29)).alloc (.cells #[.int .u64 0,.int .u64 0,.int .i64 0] 79)).cell? ⟨w.heap.size,0,none⟩ = some (.int .u64 x):=
    (Bl.new (w.alloc (.cells #[.int .u64 x] 29)) _).cell' (by rw [cell_of_row _ _ 0 _ 29 (0,0) (heap_alloc_new w _)];rfl)
  have hz:((w.alloc (.cells #[.int .u64 x] 29)).alloc (.cells #[.int .u64 0,.int .u64 0,.int .i64 0] 79)).heap[w.heap.size + 1]? = some (.cells #[.int .u64 0,.int .u64 0,.int .i64 0] 79 (0,0)):=by
    have:=heap_alloc_new (w.alloc (.cells #[.int .u64 x] 29)) (.cells #[.int .u64 0,.int .u64 0,.int .i64 0] 79)
    rwa [show (w.alloc (.cells #[.int .u64 x] 29)).heap.size = w.heap.size + 1 by simp] at this
  have cs:=seek_42 (h.bl hk) hx (fun r W hW=>is42_any r w.heap.size x W hW) hl
  have CS:=hid cs;clear cs
  have HH:=hid (h.bl hk);clear h
  have HK:=hid hk;clear hk
  have HX:=hid hx;clear hx
  have HZ:=hid hz;clear hz
  have HSO:=hid hs;clear hs
  unfold addr0 asks at *
  go_enter Tryz.func32,Tryz.ntmps32
  go_wp2_with fail
  refine CS.out.mono ?_
  rintro e w1 ⟨k,rfl,h1,h2,h3,h4⟩
  have hL1:=HH.out.bl h4
  have hx1:=h4.cell' HX.out
  have hz1:=h4.at_ HZ.out
  have hk1:=HK.out.trans h4
  clear CS h4 HH HX HZ HK
  have hin:=fun p=>in_seek (p:=p) HSO.out (fun hk r hr=>by have:=h2 hk r hr;simpa using this) (fun r hr=>by have:=h3 r hr;simpa using this) h1
  obtain ⟨v,hb,hr⟩:=hL1
  obtain ⟨A,cap,rfl⟩:=hr.shape
  have hcell:w1.cell? ⟨b,0,none⟩ = some (.slice A L.length cap):=by rw [cell_of_row w1 b 0 _ _ (0,0) hb];simp
  have z0:w1.cell? ⟨w.heap.size + 1,0,none⟩ = some (.int .u64 0):=by rw [cell_of_row w1 _ 0 _ 79 (0,0) hz1];rfl
  have z1:w1.cell? ⟨w.heap.size + 1,1,none⟩ = some (.int .u64 0):=by rw [cell_of_row w1 _ 1 _ 79 (0,0) hz1];rfl
  have z2:w1.cell? ⟨w.heap.size + 1,2,none⟩ = some (.int .i64 0):=by rw [cell_of_row w1 _ 2 _ 79 (0,0) hz1];rfl
  have fz:∀ j,w1.frozen? ⟨w.heap.size + 1,j,none⟩ = false:=fun j=>by simp [World.frozen?,hz1]
  have f0:=fz 0
  have f1:=fz 1
  have f2:=fz 2
  clear fz
  have HZ1:=hid hz1;clear hz1
  have HK1:=hid hk1;clear hk1
  have HIN:=hid hin;clear hin
  have HR:=hid hr;clear hr hb
  have H3:=hid h3;clear h3 h2
  obtain ⟨n,hn⟩:∃ n,n = L.length:=⟨_,rfl⟩
  rw [← hn] at hcell h1 HR hl
  have HN:=hid hn;clear hn
  have hnI:(n:Int) ≤ 1000:=by omega
  have hkI:(k:Int) ≤ (n:Int):=by omega
  by_cases hkn:k = n
  · have t1:((k:Int) == (n:Int)) = true:=by simp [hkn]
    have t2:(k == n) = true:=by simp [hkn]
    clear hkn
    go_wp2_with fail
    go_quiet (fail)
    go_wp2_with fail
    have hnone:∀ p,¬ In L x p:=fun p hp=>by
      obtain ⟨r,hr,_⟩:=(HIN.out p).1 hp
      have h5:=(List.getElem?_eq_some_iff.1 hr).1
      have:=HN.out
      simp at t2
      omega
    refine bodyPost_ret (results_row_tmp rfl _ _ (w.heap.size + 1) 79 _ (0,0) _ rfl (set3 _ _ _ HZ1.out) Tryz.underlying79 rfl (by kernel_rfl)) rfl ?_
    exact ⟨⟨0,0,0⟩,false,rfl,.inr ⟨rfl,rfl,hnone⟩,(((HK1.out.drewN _).set (by simp) _).set (by simp) _).set (by simp) _⟩
  · have t1:((k:Int) == (n:Int)) = false:=by simp;omega
    have t2:(k == n) = false:=by simp;omega
    have hlt:k < n:=by omega
    have hltL:k < L.length:=by have:=HN.out;omega
    obtain ⟨r,hr⟩:∃ r,L[k]? = some r:=⟨L[k],List.getElem?_eq_getElem hltL⟩
    have hne:L ≠ []:=by intro e;rw [e] at hltL;simp at hltL
    obtain ⟨g,cap',cur,hA,_,hnc,hg,_⟩:=HR.out.form hne
    have hA':A = some ⟨g,0,none⟩:=by injection hA
    subst hA'
    obtain ⟨c0,c1,c2⟩:=row_cells HR.out k r hr
    clear hA hnc hg hne hltL hkn
    have hxe:x < r.e:=by have:=H3.out r hr;simpa using this
    have hltI:(k:Int) < (n:Int):=by omega
    have HXE:=hid hxe;clear hxe
    by_cases hsx:x < r.s
    · have hnone:∀ p,¬ In L x p:=fun p hp=>by
        obtain ⟨r',hr',h5,_⟩:=(HIN.out p).1 hp
        rw [hr] at hr';cases hr';omega
      have HNO:=hid hnone;clear hnone hr
      go_wp2_with fail
      go_quiet (fail)
      go_wp2_with fail
      refine bodyPost_ret (results_row_tmp rfl _ _ (w.heap.size + 1) 79 _ (0,0) _ rfl (set3 _ _ _ HZ1.out) Tryz.underlying79 rfl (by kernel_rfl)) rfl ?_
      exact ⟨⟨0,0,0⟩,false,rfl,.inr ⟨rfl,rfl,HNO.out⟩,(((HK1.out.drewN _).set (by simp) _).set (by simp) _).set (by simp) _⟩
    · have HIR:=hid (List.mem_of_getElem? hr);clear hr
      have hsx2:r.s ≤ x:=by omega
      go_wp2_with fail
      go_quiet (fail)
      go_wp2_with fail
      refine bodyPost_ret (results_row_tmp rfl _ _ (w.heap.size + 1) 79 _ (0,0) _ rfl (set3 _ _ _ HZ1.out) Tryz.underlying79 rfl (by kernel_rfl)) rfl ?_
      exact ⟨r,true,rfl,.inl ⟨rfl,HIR.out,hsx2,HXE.out⟩,(((HK1.out.drewN _).set (by simp) _).set (by simp) _).set (by simp) _⟩
end Go.Proofs.YtbngjbmfkekdnaaGreatDoor

namespace Go.Proofs.YtbngjbmfkekdnaaGreatDoor
open Go.RowKit
set_option maxRecDepth 100000
def Can (L:List Rg) (p x:Int):Prop:=∃ q,In L x q∧bits .and .i64 q p = p
def FirstPost (w:World) (L:List Rg) (s t p:Int) (e:Ending) (w':World):Prop:=∃ x ok,e = .returned (.tuple #[.int .u64 x,.bool ok]) ∧
  ((ok = true∧s ≤ x∧x < t∧¬ Can L p x∧∀ y,s ≤ y → y < x → Can L p y) ∨ (ok = false∧x = 0∧∀ y,s ≤ y → y < t → Can L p y))∧Bl w w'
theorem first_any {X:Ctx} {w:World} {b:Nat} {L:List Rg} (h:ListAt X w b L) (hs:So 0 274877906944 L) (s t p:Int) (hl:L.length ≤ 1000) :
    Calls Tryz.prog 69 #[addr0 b,.int .u64 s,.int .u64 t,.int .i64 p] w (FirstPost w L s t p):=by
  have HH:=hid h;clear h
  have HSO:=hid hs;clear hs
  have HL:=hid hl;clear hl
  unfold addr0
  go_enter Tryz.func69,Tryz.ntmps69
  go_wp2_with fail
  go_loopw [1,10,11] (fun v1 _ _ wr=>∃ a:Int,v1 = .int .u64 a∧s ≤ a∧(∀ y,s ≤ y → y < a → Can L p y)∧Bl w wr) (fun v1 _ _ _=>(t - intOf v1).toNat)
  case atStart=>exact ⟨s,rfl,by omega,fun y h1 h2=>absurd h2 (by omega),Bl.refl _⟩
  case round =>
    obtain ⟨a,rfl,ha,hall,hbl⟩:=hrel
    have HALL:=hid hall;clear hall
    have HBL:=hid hbl;clear hbl
    by_cases hat:a < t
    · go_wp2_with fail
      refine (at_any (HH.out.bl HBL.out) HSO.out a HL.out).mono ?_
      rintro e w1 ⟨r,ok,rfl,hr,k1⟩
      have K1:=hid (HBL.out.trans k1);clear k1
      unfold rgV
      rcases hr with ⟨rfl,h1,h2,h3⟩ | ⟨rfl,rfl,h1⟩
      · have hmem:In L a r.p:=⟨r,h1,h2,h3,rfl⟩
        by_cases hc:bits .and .i64 r.p p = p
        · have t1:(bits .and .i64 r.p p == p) = true:=by simp [hc]
          have t2:(bits .and .i64 r.p p != p) = false:=by simp [hc]
          have hall2:∀ y,s ≤ y → y < r.e → Can L p y:=fun y y1 y2=>by
            by_cases hy:y < a
            · exact HALL.out y y1 hy
            · exact ⟨r.p,⟨r,h1,by omega,y2,rfl⟩,hc⟩
          have HALL2:=hid hall2;clear hall2 hmem h1 hc
          go_wp2_with fail
          refine ⟨⟨r.e,rfl,by omega,HALL2.out,K1.out.alloc _⟩,?_⟩
          simp only [intOf];omega
        · have t1:(bits .and .i64 r.p p == p) = false:=by simp [hc]
          have t2:(bits .and .i64 r.p p != p) = true:=by simp [hc]
          have hno:¬ Can L p a:=fun ⟨q,hq,hb⟩=>hc (by rw [← HSO.out.one hq hmem];exact hb)
          have hp:FirstPost w L s t p (.returned (.tuple #[.int .u64 a,.bool true])) (w1.alloc (.cells #[.int .u64 r.s,.int .u64 r.e,.int .i64 r.p] 79)):=⟨a,true,rfl,.inl ⟨rfl,ha,hat,hno,HALL.out⟩,K1.out.alloc _⟩
          have HP:=hid hp;clear hp hno hmem h1 hc
          go_wp2_with fail
          go_ret2
          exact HP.out
      · have hno:¬ Can L p a:=fun ⟨q,hq,hb⟩=>h1 q hq
        have hp:FirstPost w L s t p (.returned (.tuple #[.int .u64 a,.bool true])) (w1.alloc (.cells #[.int .u64 0,.int .u64 0,.int .i64 0] 79)):=⟨a,true,rfl,.inl ⟨rfl,ha,hat,hno,HALL.out⟩,K1.out.alloc _⟩
        have HP:=hid hp;clear hp hno h1
        go_wp2_with fail
        go_ret2
        exact HP.out
    · have hp:FirstPost w L s t p (.returned (.tuple #[.int .u64 0,.bool false])) wr:=⟨0,false,rfl,.inr ⟨rfl,rfl,fun y y1 y2=>HALL.out y y1 (by omega)⟩,HBL.out⟩
      have HP:=hid hp;clear hp
      go_wp2_with fail
      go_ret2
      exact HP.out
def Mapped (L:List Rg) (s t:Int):Prop:=∀ y,s ≤ y → y < t → ∃ q,In L y q
theorem and_zero (q:Int):bits .and .i64 q 0 = 0:=by
  have h:bits .and .i64 q 0 = IntKind.i64.wrap ((BitVec.ofInt 64 q &&& 0#64).toNat:Int):=rfl
  rw [h,BitVec.and_zero];rfl
theorem can_zero {L:List Rg} {y:Int}:Can L 0 y ↔ ∃ q,In L y q:=by
  constructor
  · rintro ⟨q,h1,h2⟩;exact ⟨q,h1⟩
  · rintro ⟨q,h1⟩;exact ⟨q,h1,and_zero q⟩
theorem protect_ok {X:Ctx} {w:World} {b:Nat} {L:List Rg} (h:ListAt X w b L) (hso:So 0 274877906944 L) (s t p:Int) (h0:0 ≤ s) (hs:Span s t) (hp0:0 ≤ p) (hp1:p ≤ 7) (hl:L.length ≤ 256) (hm:Mapped L s t) (hc:(layL L s t [⟨s,t,p⟩]).length ≤ 256) :
    Calls Tryz.prog 39 #[addr0 b,.int .u64 s,.int .u64 t,.int .i64 p] w (LayPost X w b (layL L s t [⟨s,t,p⟩])):=by
  have c1:=fun W=>isSpan_yes s t W h0 hs
  have c2:=fun W=>isProt_yes p W hp0 hp1
  have cf:=fun W (k:Bl w W)=>first_any (h.bl k) hso s t 0 (by omega)
  have C1:=hid c1;clear c1
  have C2:=hid c2;clear c2
  have CF:=hid cf;clear cf
  have HH:=hid h;clear h
  have HSO:=hid hso;clear hso hs
  have HL:=hid hl;clear hl
  have HM:=hid hm;clear hm
  have HC:=hid hc;clear hc
  unfold addr0 at *
  go_enter Tryz.func39,Tryz.ntmps39
  go_wp2_with fail
  refine (C1.out _).mono ?_
  rintro e w' ⟨rfl,rfl⟩
  go_wp2_with fail
  refine (C2.out _).mono ?_
  rintro e w' ⟨rfl,rfl⟩
  go_wp2_with fail
  refine (CF.out _ (Bl.refl _)).mono ?_
  rintro e w1 ⟨x,ok,rfl,hok,k1⟩
  have K1:=hid k1;clear k1
  rcases hok with ⟨rfl,a1,a2,a3,a4⟩ | ⟨rfl,rfl,a1⟩
  · exact absurd (can_zero.2 (HM.out x a1 a2)) a3
  clear a1
  go_wp2_with fail
  refine (lay_ok ((HH.out.bl K1.out).bl (Bl.new w1 (.cells #[.int .u64 s,.int .u64 t,.int .i64 p] 79))) s t (lit_row w1 ⟨s,t,p⟩) HL.out (by simp) HC.out).mono ?_
  rintro e w' ⟨rfl,h1,h2⟩
  have H1:=hid h1;clear h1
  have H2:=hid h2;clear h2
  go_wp2_with fail
  go_ret
  exact ⟨rfl,H1.out.mono (K1.out.alloc _).size,(Fr.of_bl (K1.out.alloc _)).trans H2.out⟩
theorem protect_hole {X:Ctx} {w:World} {b:Nat} {L:List Rg} (h:ListAt X w b L) (hso:So 0 274877906944 L) (s t p:Int) (h0:0 ≤ s) (hs:Span s t) (hp0:0 ≤ p) (hp1:p ≤ 7) (hl:L.length ≤ 256) (hm:¬ Mapped L s t) :
    Calls Tryz.prog 39 #[addr0 b,.int .u64 s,.int .u64 t,.int .i64 p] w (NoPost w 12):=by
  have c1:=fun W=>isSpan_yes s t W h0 hs
  have c2:=fun W=>isProt_yes p W hp0 hp1
  have cf:=fun W (k:Bl w W)=>first_any (h.bl k) hso s t 0 (by omega)
  have C1:=hid c1;clear c1
  have C2:=hid c2;clear c2
  have CF:=hid cf;clear cf
  have HH:=hid h;clear h
  have HSO:=hid hso;clear hso hs
  have HL:=hid hl;clear hl
  have HM:=hid hm;clear hm
  unfold addr0 at *
  go_enter Tryz.func39,Tryz.ntmps39
  go_wp2_with fail
  refine (C1.out _).mono ?_
  rintro e w' ⟨rfl,rfl⟩
  go_wp2_with fail
  refine (C2.out _).mono ?_
  rintro e w' ⟨rfl,rfl⟩
  go_wp2_with fail
  refine (CF.out _ (Bl.refl _)).mono ?_
  rintro e w1 ⟨x,ok,rfl,hok,k1⟩
  have K1:=hid k1;clear k1
  rcases hok with ⟨rfl,a1,a2,a3,a4⟩ | ⟨rfl,rfl,a1⟩
  · clear a1 a2 a3 a4
    go_wp2_with fail
    go_ret
    exact ⟨rfl,K1.out⟩
  · exact absurd (fun y y1 y2=>can_zero.1 (a1 y y1 y2)) HM.out
theorem protect_no {w:World} (b:Nat) (s e p:Int) (h0:0 ≤ s) (h1:s ≤ 18446744073709551615) (h2:0 ≤ e) (h3:e ≤ 18446744073709551615) (h:¬ (Span s e∧0 ≤ p∧p ≤ 7)) :
    Calls Tryz.prog 39 #[addr0 b,.int .u64 s,.int .u64 e,.int .i64 p] w (NoPost w 22):=by
  unfold addr0 at *
  by_cases hs:Span s e
  · have c1:=fun W=>isSpan_yes s e W h0 hs
    have c2:=fun W=>isProt_no p W (fun hp=>h ⟨hs,hp⟩)
    have C1:=hid c1;clear c1
    have C2:=hid c2;clear c2 h hs
    go_enter Tryz.func39,Tryz.ntmps39
    go_wp2_with fail
    refine (C1.out _).mono ?_
    rintro e w' ⟨rfl,rfl⟩
    go_wp2_with fail
    refine (C2.out _).mono ?_
    rintro e w' ⟨rfl,rfl⟩
    go_wp2_with fail
    go_ret
    exact ⟨rfl,Bl.refl _⟩
  · have c1:=fun W=>isSpan_no s e W h0 h1 h2 h3 hs
    have C1:=hid c1;clear c1 h hs
    go_enter Tryz.func39,Tryz.ntmps39
    go_wp2_with fail
    refine (C1.out _).mono ?_
    rintro e w' ⟨rfl,rfl⟩
    go_wp2_with fail
    go_ret
    exact ⟨rfl,Bl.refl _⟩
end Go.Proofs.YtbngjbmfkekdnaaGreatDoor

namespace Go.Proofs.YtbngjbmfkekdnaaGreatDoor
open Go.RowKit
set_option maxRecDepth 100000
theorem layL_new (s e p:Int):layL [] s e [⟨s,e,p⟩] = [⟨s,e,p⟩]:=by
  simp [layL,within,join,joinOne_nil]
theorem Fr.only_new {w w1 w2:World} {b:Nat} (k:Bl w w1) (f:Fr (only b) w1 w2) (hb:w.heap.size ≤ b):Bl w w2:=
  ((Fr.of_bl (S:=only b) k).trans f).bl fun j hj e=>by have e:j = b:=e;omega
structure Rs (L:List Rg):Prop where
  nm:Nm 0 274877906944 L
  al:Al L
theorem Rs.nil:Rs []:=⟨Nm.nil _ _,Al.nil⟩
theorem Rs.lay {L:List Rg} (h:Rs L) {s e p:Int} (h0:0 ≤ s) (hs:Span s e):Rs (layL L s e [⟨s,e,p⟩]):=by
  obtain ⟨a,b,c,d⟩:=hs
  obtain ⟨h1,h2,h3,h4⟩:=layL_all h.nm.so h0 c d (one_so (p:=p) c)
  exact ⟨h1,h3 h.al a b (one_al a b)⟩
theorem Rs.cut {L:List Rg} (h:Rs L) {s e:Int} (h0:0 ≤ s) (hs:Span s e):Rs (layL L s e []):=by
  obtain ⟨a,b,c,d⟩:=hs
  obtain ⟨h1,h2,h3,h4⟩:=layL_all h.nm.so h0 c d (So.nil s e)
  exact ⟨h1,h3 h.al a b Al.nil⟩
theorem lay_in {L:List Rg} (h:Rs L) {s e p:Int} (h0:0 ≤ s) (hs:Span s e) (a q:Int):In (layL L s e [⟨s,e,p⟩]) a q ↔ (s ≤ a∧a < e∧p = q) ∨ ((a < s ∨ e ≤ a)∧In L a q):=by
  obtain ⟨_,_,c,d⟩:=hs
  rw [(layL_all h.nm.so h0 c d (one_so (p:=p) c)).2.1,In_one]
theorem cut_in {L:List Rg} (h:Rs L) {s e:Int} (h0:0 ≤ s) (hs:Span s e) (a q:Int):In (layL L s e []) a q ↔ (a < s ∨ e ≤ a)∧In L a q:=by
  obtain ⟨_,_,c,d⟩:=hs
  rw [(layL_all h.nm.so h0 c d (So.nil s e)).2.1]
  constructor
  · rintro (h1 | h1)
    · exact absurd h1 (In_nil _ _)
    · exact h1
  · exact .inr
theorem Rs.eq {L M:List Rg} (h:Rs L) (k:Rs M) (e:∀ a p,In L a p ↔ In M a p):L = M:=unique h.nm k.nm e
theorem Rs.few {L:List Rg} (h:Rs L) (n:Nat) (hn:(n:Int) * 4096 ≤ 274877906944) (hb:∀ a p,In L a p → a < n * 4096):L.length ≤ n:=by
  have hso:So 0 ((n:Int) * 4096) L:=by
    refine ⟨h.nm.so.1,fun r hr=>?_⟩
    have h1:=h.nm.2 r hr
    have h2:=hb (r.e - 1) r.p ⟨r,hr,by omega,by omega,rfl⟩
    omega
  have:=len_le hso h.al (by omega)
  omega
end Go.Proofs.YtbngjbmfkekdnaaGreatDoor

namespace Go.Proofs.YtbngjbmfkekdnaaGreatDoor
open Go.RowKit
set_option maxRecDepth 100000
theorem unmap_many {X:Ctx} {w:World} {b:Nat} {L:List Rg} (h:ListAt X w b L) (s e:Int) (h0:0 ≤ s) (hs:Span s e) (hl:L.length ≤ 256) (hc:256 < (layL L s e []).length) :
    Calls Tryz.prog 42 #[addr0 b,.int .u64 s,.int .u64 e] w (NoPost w 12):=by
  have c1:=fun W=>isSpan_yes s e W h0 hs
  have c3:=lay_many h s e (M:=[]) (RowG.nil (base:=0)) hl (by simp) hc
  have C1:=hid c1;clear c1
  have C3:=hid c3;clear c3 h hs hl hc
  unfold addr0 at *
  go_enter Tryz.func42,Tryz.ntmps42
  go_wp2_with fail
  refine (C1.out _).mono ?_
  rintro e w' ⟨rfl,rfl⟩
  go_wp2_with fail
  refine C3.out.mono ?_
  rintro e w' ⟨rfl,h1⟩
  have H1:=hid h1;clear h1
  go_wp2_with fail
  go_ret
  exact ⟨rfl,H1.out⟩
theorem protect_many {X:Ctx} {w:World} {b:Nat} {L:List Rg} (h:ListAt X w b L) (hso:So 0 274877906944 L) (s t p:Int) (h0:0 ≤ s) (hs:Span s t) (hp0:0 ≤ p) (hp1:p ≤ 7) (hl:L.length ≤ 256) (hm:Mapped L s t) (hc:256 < (layL L s t [⟨s,t,p⟩]).length) :
    Calls Tryz.prog 39 #[addr0 b,.int .u64 s,.int .u64 t,.int .i64 p] w (NoPost w 12):=by
  have c1:=fun W=>isSpan_yes s t W h0 hs
  have c2:=fun W=>isProt_yes p W hp0 hp1
  have cf:=fun W (k:Bl w W)=>first_any (h.bl k) hso s t 0 (by omega)
  have C1:=hid c1;clear c1
  have C2:=hid c2;clear c2
  have CF:=hid cf;clear cf
  have HH:=hid h;clear h
  have HSO:=hid hso;clear hso hs
  have HL:=hid hl;clear hl
  have HM:=hid hm;clear hm
  have HC:=hid hc;clear hc
  unfold addr0 at *
  go_enter Tryz.func39,Tryz.ntmps39
  go_wp2_with fail
  refine (C1.out _).mono ?_
  rintro e w' ⟨rfl,rfl⟩
  go_wp2_with fail
  refine (C2.out _).mono ?_
  rintro e w' ⟨rfl,rfl⟩
  go_wp2_with fail
  refine (CF.out _ (Bl.refl _)).mono ?_
  rintro e w1 ⟨x,ok,rfl,hok,k1⟩
  have K1:=hid k1;clear k1
  rcases hok with ⟨rfl,a1,a2,a3,a4⟩ | ⟨rfl,rfl,a1⟩
  · exact absurd (can_zero.2 (HM.out x a1 a2)) a3
  clear a1
  go_wp2_with fail
  refine (lay_many ((HH.out.bl K1.out).bl (Bl.new w1 (.cells #[.int .u64 s,.int .u64 t,.int .i64 p] 79))) s t (lit_row w1 ⟨s,t,p⟩) HL.out (by simp) HC.out).mono ?_
  rintro e w' ⟨rfl,h1⟩
  have H1:=hid h1;clear h1
  go_wp2_with fail
  go_ret
  exact ⟨rfl,(K1.out.alloc _).trans H1.out⟩
end Go.Proofs.YtbngjbmfkekdnaaGreatDoor

namespace Go.Proofs.YtbngjbmfkekdnaaGreatDoor
structure Pg where
  no:Int
  p:Int
  b:Nat
def toR (x:Pg):Rg:=⟨x.no * 4096,x.no * 4096 + 4096,x.p⟩
noncomputable def regs (P:List Pg):List Rg:=join [] (P.map toR)
def Pgs (n:Nat) (P:List Pg):Prop:=P.Pairwise (fun x y=>x.no < y.no)∧∀ x,x ∈ P → 0 ≤ x.no∧x.no < (n:Int)
theorem Pgs.nil (n:Nat):Pgs n []:=⟨List.Pairwise.nil,fun x h=>by cases h⟩
theorem pg_so {n:Nat} {P:List Pg} (h:Pgs n P):So 0 ((n:Int) * 4096) (P.map toR):=by
  refine ⟨?_,fun r hr=>?_⟩
  · rw [List.pairwise_map]
    exact h.1.imp fun h=>by simp only [toR];omega
  · obtain ⟨x,hx,rfl⟩:=List.mem_map.1 hr
    have:=h.2 x hx
    simp only [toR];omega
theorem pg_al (P:List Pg):Al (P.map toR):=fun r hr=>by
  obtain ⟨x,hx,rfl⟩:=List.mem_map.1 hr
  simp only [toR];omega
theorem pg_tot (P:List Pg):tot (P.map toR) = (P.length:Int) * 4096:=by
  induction P with
  | nil=>simp [tot]
  | cons x P ih=>simp only [List.map_cons,tot,ih,List.length_cons,toR];omega
def OnP (P:List Pg) (a q:Int):Prop:=∃ x,x ∈ P∧x.no * 4096 ≤ a∧a < x.no * 4096 + 4096∧x.p = q
theorem onP_in {P:List Pg} {a q:Int}:In (P.map toR) a q ↔ OnP P a q:=by
  constructor
  · rintro ⟨r,hr,h⟩
    obtain ⟨x,hx,rfl⟩:=List.mem_map.1 hr
    exact ⟨x,hx,h⟩
  · rintro ⟨x,hx,h⟩
    exact ⟨toR x,List.mem_map_of_mem hx,h⟩
theorem regs_all {n:Nat} {P:List Pg} (h:Pgs n P) (hn:(n:Int) ≤ 67108864) :
    Rs (regs P)∧(∀ a q,In (regs P) a q ↔ OnP P a q)∧tot (regs P) = (P.length:Int) * 4096∧(regs P).length ≤ P.length:=by
  obtain ⟨h1,h2,h3,h4,h5,_⟩:=join_all (Nm.nil 0 274877906944) ((pg_so h).mono (by omega) (by omega)) (fun q r hq _=>by cases hq)
  refine ⟨⟨h1,h4 Al.nil (pg_al P)⟩,fun a q=>?_,?_,by simpa [regs] using h5⟩
  · show In (join _ _) a q ↔ _
    rw [h2,onP_in]
    exact ⟨fun h=>h.resolve_left (In_nil _ _),.inr⟩
  · show tot (join _ _) = _
    rw [h3,pg_tot];simp [tot]
def outP (P:List Pg) (s e:Int):List Pg:=P.filter fun x=>decide (x.no * 4096 < s) || decide (e ≤ x.no * 4096)
theorem outP_mem {P:List Pg} {s e:Int} {x:Pg}:x ∈ outP P s e ↔ x ∈ P∧(x.no * 4096 < s ∨ e ≤ x.no * 4096):=by
  simp [outP,List.mem_filter]
theorem outP_pgs {n:Nat} {P:List Pg} {s e:Int} (h:Pgs n P):Pgs n (outP P s e):=
  ⟨h.1.sublist List.filter_sublist,fun x hx=>h.2 x (outP_mem.1 hx).1⟩
theorem outP_on {P:List Pg} {s e a q:Int} (hs:s % 4096 = 0) (he:e % 4096 = 0) (hse:s < e):OnP (outP P s e) a q ↔ (a < s ∨ e ≤ a)∧OnP P a q:=by
  constructor
  · rintro ⟨x,hx,h1,h2,h3⟩
    obtain ⟨h4,h5⟩:=outP_mem.1 hx
    exact ⟨by omega,x,h4,h1,h2,h3⟩
  · rintro ⟨h0,x,hx,h1,h2,h3⟩
    exact ⟨x,outP_mem.2 ⟨hx,by omega⟩,h1,h2,h3⟩
def News (p s a:Int) (N:List Pg):Prop:=(N.length:Int) * 4096 = a - s∧∀ (i:Nat) (x:Pg),N[i]? = some x → x.no * 4096 = s + (i:Int) * 4096∧x.p = p
theorem News.nil (p s:Int):News p s s []:=⟨by simp,fun i x h=>by simp at h⟩
theorem News.push {p s a:Int} {N:List Pg} (h:News p s a N) (x:Pg) (hx:x.no * 4096 = a) (hp:x.p = p):News p s (a + 4096) (N ++ [x]):=by
  refine ⟨?_,fun i y hy=>?_⟩
  · have:=h.1
    rw [List.length_append];simp;omega
  · rcases Nat.lt_trichotomy i N.length with hi | hi | hi
    · rw [List.getElem?_append_left hi] at hy
      exact h.2 i y hy
    · subst hi
      rw [List.getElem?_append_right (by omega)] at hy
      simp at hy
      subst hy
      have:=h.1
      exact ⟨by omega,hp⟩
    · rw [List.getElem?_append_right (by omega),List.getElem?_eq_none (by simp;omega)] at hy
      cases hy
theorem News.mem {p s a:Int} {N:List Pg} (h:News p s a N) {x:Pg} (hx:x ∈ N):s ≤ x.no * 4096∧x.no * 4096 + 4096 ≤ a∧x.p = p:=by
  obtain ⟨i,hi,rfl⟩:=List.mem_iff_getElem.1 hx
  have h1:=h.2 i _ (List.getElem?_eq_getElem hi)
  have h2:=h.1
  omega
theorem News.on {p s a:Int} {N:List Pg} (h:News p s a N) (hs:s % 4096 = 0) {y q:Int}:OnP N y q ↔ s ≤ y∧y < a∧p = q:=by
  constructor
  · rintro ⟨x,hx,h1,h2,h3⟩
    have:=h.mem hx
    omega
  · rintro ⟨h1,h2,h3⟩
    have h4:=h.1
    have hi:((y - s) / 4096).toNat < N.length:=by omega
    have h5:=h.2 _ _ (List.getElem?_eq_getElem hi)
    exact ⟨N[((y - s) / 4096).toNat],List.getElem_mem hi,by omega,by omega,by omega⟩
theorem News.pair {p s a:Int} {N:List Pg} (h:News p s a N):N.Pairwise fun x y=>x.no < y.no:=by
  rw [List.pairwise_iff_getElem]
  intro i j hi hj hij
  have h1:=h.2 i _ (List.getElem?_eq_getElem hi)
  have h2:=h.2 j _ (List.getElem?_eq_getElem hj)
  omega
theorem laid_pgs {n:Nat} {P N:List Pg} {s e p:Int} (h:Pgs n P) (hs0:0 ≤ s) (hs:s % 4096 = 0) (he:e % 4096 = 0) (hse:s < e) (hn:e ≤ (n:Int) * 4096) (hN:News p s e N) (k:Nat)
    (h1:∀ x,x ∈ (outP P s e).take k → x.no * 4096 < s) (h2:∀ x,x ∈ (outP P s e).drop k → e ≤ x.no * 4096) :
    Pgs n ((outP P s e).take k ++ N ++ (outP P s e).drop k)∧∀ a q,OnP ((outP P s e).take k ++ N ++ (outP P s e).drop k) a q ↔ (s ≤ a∧a < e∧p = q) ∨ ((a < s ∨ e ≤ a)∧OnP P a q):=by
  have ho:=outP_pgs (s:=s) (e:=e) h
  refine ⟨⟨?_,fun x hx=>?_⟩,fun a q=>?_⟩
  · refine List.pairwise_append.2 ⟨List.pairwise_append.2 ⟨ho.1.sublist (List.take_sublist _ _),hN.pair,fun x hx y hy=>?_⟩,ho.1.sublist (List.drop_sublist _ _),fun x hx y hy=>?_⟩
    · have a1:=h1 x hx
      have a2:=hN.mem hy
      omega
    · have a2:=h2 y hy
      rcases List.mem_append.1 hx with hx | hx
      · have:=h1 x hx;omega
      · have:=hN.mem hx;omega
  · rcases List.mem_append.1 hx with hx | hx
    · rcases List.mem_append.1 hx with hx | hx
      · exact ho.2 x (List.mem_of_mem_take hx)
      · have:=hN.mem hx;omega
    · exact ho.2 x (List.mem_of_mem_drop hx)
  · rw [← outP_on hs he hse,← hN.on hs]
    constructor
    · rintro ⟨x,hx,h⟩
      rcases List.mem_append.1 hx with hx | hx
      · rcases List.mem_append.1 hx with hx | hx
        · exact .inr ⟨x,List.mem_of_mem_take hx,h⟩
        · exact .inl ⟨x,hx,h⟩
      · exact .inr ⟨x,List.mem_of_mem_drop hx,h⟩
    · rintro (⟨x,hx,h⟩ | ⟨x,hx,h⟩)
      · exact ⟨x,by simp [hx],h⟩
      · have hx2:x ∈ (outP P s e).take k ++ (outP P s e).drop k:=by rw [List.take_append_drop];exact hx
        rcases List.mem_append.1 hx2 with hx2 | hx2
        · exact ⟨x,by simp [hx2],h⟩
        · exact ⟨x,by simp [hx2],h⟩
theorem split_at {n:Nat} {P:List Pg} (h:Pgs n P) (s:Int) (k:Nat) (h2:∀ x,P[k]? = some x → s ≤ x.no * 4096):∀ x,x ∈ P.drop k → s ≤ x.no * 4096:=by
  intro x hx
  obtain ⟨i,hi,rfl⟩:=List.mem_iff_getElem.1 hx
  rw [List.length_drop] at hi
  rw [List.getElem_drop]
  have hk:k < P.length:=by omega
  have h3:=h2 P[k] (List.getElem?_eq_getElem hk)
  rcases Nat.eq_zero_or_pos i with h0 | h0
  · subst h0;simpa using h3
  · have:=List.pairwise_iff_getElem.1 h.1 k (k + i) hk (by omega) (by omega)
    omega
def protP (P:List Pg) (s e p:Int):List Pg:=P.map fun x=>if s ≤ x.no * 4096∧x.no * 4096 < e then ⟨x.no,p,x.b⟩ else x
theorem protP_pgs {n:Nat} {P:List Pg} {s e p:Int} (h:Pgs n P):Pgs n (protP P s e p):=by
  refine ⟨?_,fun x hx=>?_⟩
  · rw [protP,List.pairwise_map]
    refine h.1.imp fun h=>?_
    split <;> split <;> exact h
  · obtain ⟨y,hy,rfl⟩:=List.mem_map.1 hx
    have:=h.2 y hy
    split <;> exact this
theorem protP_on {P:List Pg} {s e p a q:Int} (hs:s % 4096 = 0) (he:e % 4096 = 0) (hm:∀ y,s ≤ y → y < e → ∃ q,OnP P y q):OnP (protP P s e p) a q ↔ (s ≤ a∧a < e∧p = q) ∨ ((a < s ∨ e ≤ a)∧OnP P a q):=by
  constructor
  · rintro ⟨x,hx,h1,h2,h3⟩
    obtain ⟨y,hy,rfl⟩:=List.mem_map.1 hx
    by_cases hc:s ≤ y.no * 4096∧y.no * 4096 < e
    · rw [if_pos hc] at h1 h2 h3
      simp only at h1 h2 h3
      exact .inl ⟨by omega,by omega,h3⟩
    · rw [if_neg hc] at h1 h2 h3
      exact .inr ⟨by omega,y,hy,h1,h2,h3⟩
  · rintro (⟨h1,h2,h3⟩ | ⟨h0,x,hx,h1,h2,h3⟩)
    · obtain ⟨q',x,hx,a1,a2,a3⟩:=hm a h1 h2
      refine ⟨_,List.mem_map_of_mem hx,?_⟩
      rw [if_pos (by omega)]
      exact ⟨a1,a2,h3⟩
    · refine ⟨_,List.mem_map_of_mem hx,?_⟩
      rw [if_neg (by omega)]
      exact ⟨h1,h2,h3⟩
theorem filter_both (f:Pg → Bool) (P:List Pg):P.length = (P.filter f).length + (P.filter fun x=>!f x).length:=by
  induction P with
  | nil=>rfl
  | cons x P ih =>
    simp only [List.length_cons,List.filter_cons]
    cases f x <;> simp <;> omega
theorem count_le {P:List Pg} {x y:Int} (h:P.Pairwise fun a b=>a.no < b.no) (hb:∀ a,a ∈ P → x ≤ a.no∧a.no < y) (hxy:x ≤ y):(P.length:Int) ≤ y - x∧((P.length:Int) = y - x → ∀ m,x ≤ m → m < y → ∃ a,a ∈ P∧a.no = m):=by
  induction P generalizing x with
  | nil=>exact ⟨by simp;omega,fun h m h1 h2=>by simp at h;omega⟩
  | cons c P ih =>
    have hc:=hb c (List.mem_cons_self ..)
    rw [List.pairwise_cons] at h
    obtain ⟨h1,h2⟩:=ih (x:=c.no + 1) h.2 (fun a ha=>by
      have:=h.1 a ha
      have:=hb a (List.mem_cons_of_mem _ ha)
      omega) (by omega)
    simp only [List.length_cons]
    refine ⟨by omega,fun he m m1 m2=>?_⟩
    by_cases hm:m = c.no
    · exact ⟨c,List.mem_cons_self ..,hm.symm⟩
    · obtain ⟨a,ha,hn⟩:=h2 (by omega) m (by omega) m2
      exact ⟨a,List.mem_cons_of_mem _ ha,hn⟩
theorem count_ge {P:List Pg} (k:Nat) {x:Int} (h:P.Pairwise fun a b=>a.no < b.no) (hb:∀ a,a ∈ P → x ≤ a.no) (hall:∀ m,x ≤ m → m < x + k → ∃ a,a ∈ P∧a.no = m):k ≤ P.length:=by
  induction P generalizing x k with
  | nil =>
    rcases Nat.eq_zero_or_pos k with h0 | h0
    · omega
    · obtain ⟨a,ha,_⟩:=hall x (by omega) (by omega);cases ha
  | cons c P ih =>
    rcases Nat.eq_zero_or_pos k with h0 | h0
    · omega
    · rw [List.pairwise_cons] at h
      have hc:c.no = x:=by
        obtain ⟨a,ha,hn⟩:=hall x (by omega) (by omega)
        rcases List.mem_cons.1 ha with rfl | ha
        · exact hn
        · have h5:=h.1 a ha
          have h6:=hb c (List.mem_cons_self ..)
          omega
      have:=ih (k - 1) (x:=x + 1) h.2 (fun a ha=>by have:=h.1 a ha;omega) (fun m m1 m2=>by
        obtain ⟨a,ha,hn⟩:=hall m (by omega) (by omega)
        rcases List.mem_cons.1 ha with rfl | ha
        · omega
        · exact ⟨a,ha,hn⟩)
      simp only [List.length_cons];omega
theorem count_span {n:Nat} {P:List Pg} {s e:Int} (h:Pgs n P) (hs:s % 4096 = 0) (he:e % 4096 = 0) (hse:s < e) :
    ((P.length:Int) - ((outP P s e).length:Int) = (e - s) / 4096 ↔ ∀ y,s ≤ y → y < e → ∃ q,OnP P y q)∧(outP P s e).length ≤ P.length:=by
  have hlen:P.length = (outP P s e).length + (P.filter fun x=>!(decide (x.no * 4096 < s) || decide (e ≤ x.no * 4096))).length:=by
    exact filter_both _ P
  have hin:∀ a,a ∈ (P.filter fun x=>!(decide (x.no * 4096 < s) || decide (e ≤ x.no * 4096))) ↔ a ∈ P∧s ≤ a.no * 4096∧a.no * 4096 < e:=fun a=>by
    rw [List.mem_filter];simp
  have hpw:=h.1.sublist (List.filter_sublist (p:=fun x=>!(decide (x.no * 4096 < s) || decide (e ≤ x.no * 4096))))
  generalize (P.filter fun x=>!(decide (x.no * 4096 < s) || decide (e ≤ x.no * 4096))) = Q at *
  obtain ⟨h1,h2⟩:=count_le (x:=s / 4096) (y:=e / 4096) hpw (fun a ha=>by have:=(hin a).1 ha;omega) (by omega)
  refine ⟨⟨fun heq y y1 y2=>?_,fun hall=>?_⟩,by omega⟩
  · obtain ⟨a,ha,hn⟩:=h2 (by omega) (y / 4096) (by omega) (by omega)
    exact ⟨a.p,a,((hin a).1 ha).1,by omega,by omega,rfl⟩
  · have:=count_ge ((e - s) / 4096).toNat (x:=s / 4096) hpw (fun a ha=>by have:=(hin a).1 ha;omega) (fun m m1 m2=>by
      obtain ⟨q,x,hx,a1,a2,a3⟩:=hall (m * 4096) (by omega) (by omega)
      exact ⟨x,(hin x).2 ⟨hx,by omega,by omega⟩,by omega⟩)
    omega
end Go.Proofs.YtbngjbmfkekdnaaGreatDoor

namespace Go.Proofs.YtbngjbmfkekdnaaGreatDoor
open Go.RowKit
set_option maxRecDepth 100000
theorem law27:Maps.Keyed Tryz.prog 29:=Maps.int_keyed Tryz.underlying29
theorem zero44 (w:World):(zeroValue 103).run Tryz.prog w = .ok (.pointer none) w:=by kernel_rfl
def zeros:Array Value:=(asBytes (List.replicate 4096 0)).toArray
theorem info53:(Tryz.prog.info? 138).map (fun i=>(i.zero,i.size)) = some (some (.agg zeros),4096):=by kernel_rfl
theorem infoByte:(Tryz.prog.info? 5).map (fun i=>(i.zero,i.size,i.bytes)) = some (some (.int .u8 0),1,1):=by kernel_rfl
theorem sizeByte:(Tryz.prog.info? 5).map (·.size) = some 1:=by kernel_rfl
end Go.Proofs.YtbngjbmfkekdnaaGreatDoor

namespace Go.Proofs.YtbngjbmfkekdnaaGreatDoor
open Go.RowKit
set_option maxRecDepth 100000
def pgC (x:Pg):List Value:=[.int .u64 x.no,.int .i64 x.p,.slice (some ⟨x.b,0,none⟩) 4096 4096]
abbrev PRow:=RowG (α:=Pg) 75 pgC
theorem infoPg:(Tryz.prog.info? 75).map (fun i=>(i.zero,i.size,i.bytes)) = some (some (.agg #[.int .u64 0,.int .i64 0,.slice none 0 0]),3,40):=by kernel_rfl
theorem pgC_len (r:Pg):(pgC r).length = 3:=rfl
theorem pgC_one (r:Pg) (u:Value) (h:u ∈ pgC r):u.oneCell' = true:=by
  simp only [pgC,List.mem_cons,List.not_mem_nil,or_false] at h
  rcases h with rfl | rfl | rfl <;> rfl
theorem prow_cells {w:World} {base g cap n:Nat} {L:List Pg} (h:PRow w base (.slice (some ⟨g,0,none⟩) n cap) L) (k:Nat) (r:Pg) (hk:L[k]? = some r) :
    w.cell? ⟨g,k * 3,none⟩ = some (.int .u64 r.no)∧w.cell? ⟨g,k * 3 + 1,none⟩ = some (.int .i64 r.p)∧w.cell? ⟨g,k * 3 + 2,none⟩ = some (.slice (some ⟨r.b,0,none⟩) 4096 4096):=
  ⟨by simpa [pgC] using h.cell pgC_len k 0 r hk (by omega),by simpa [pgC] using h.cell pgC_len k 1 r hk (by omega),by simpa [pgC] using h.cell pgC_len k 2 r hk (by omega)⟩
theorem prow_append {W:World} {base:Nat} {v:Value} {L:List Pg} (h:PRow W base v L) (ty:TypeId) (A:Option Addr) (M:List Pg) (m cap:Nat) (hm:m = M.length) (hA:A = none → M = []∧cap = 0) (hcell:∀ ad,A = some ad → ∀ j u,(flat pgC M)[j]? = some u → W.cell? (ad.add j) = some u)
    (hl:L.length + M.length ≤ 1000000) (hbase:base ≤ W.heap.size) :
    ∃ v' W',(Builtin.append_ #[66,66] ty #[v,.slice A m cap]).run Tryz.prog W = .ok v' W'∧PRow W' base v' (L ++ M)∧W.grownBy W' v.ownBlock∧(v'.ownBlock = v.ownBlock ∨ v'.ownBlock = some W.heap.size):=by
  obtain ⟨i0,hi0,hz0,hz1,hz2⟩:=info_parts infoPg
  subst hm
  rcases A with _ | ad
  · obtain ⟨rfl,rfl⟩:=hA rfl
    exact ⟨v,W,run_append_owned_none (P:=Tryz.prog) (w:=W) base 66 ty 75 i0 3 Tryz.underlying66 hi0 v L.length (flat pgC L) h.1,by simpa using h,World.grownBy.refl W _,.inl rfl⟩
  · obtain ⟨v',w',h1,h2,h3,h4,h5⟩:=run_append_own_at (P:=Tryz.prog) W base 66 ty 75 i0 _ 3 40 Tryz.underlying66 hi0 hz0 hz1 hz2 rfl (by omega) v L.length (flat pgC L) h.1 ad M.length cap (flat pgC M) (flat_length pgC_len M) (hcell ad rfl) (fun u hu=>by
        simp only [flat,List.mem_flatMap] at hu
        obtain ⟨x,_,hx⟩:=hu
        exact pgC_one x u hx) (by simp only [maxLen];omega) (by omega) hbase
    refine ⟨v',w',h1,⟨?_,fun e=>?_⟩,h3,h5⟩
    · rw [List.length_append,flat_append];exact h2
    · obtain ⟨e1,e2⟩:=List.append_eq_nil_iff.1 e
      exact h4.2 ⟨h.2 e1,by rw [e2];rfl⟩
theorem prow_push {W:World} {base:Nat} {v:Value} {L:List Pg} (h:PRow W base v L) (q:Pg) (g:Nat) (ty:TypeId) (hg:W.heap[g]? = some (.cells #[.int .u64 q.no,.int .i64 q.p,.slice (some ⟨q.b,0,none⟩) 4096 4096] 75 (0,0))) (hl:L.length ≤ 100000) (hbase:base ≤ W.heap.size) :
    ∃ v' W',(Builtin.append_ #[66,66] ty #[v,.slice (some ⟨g,0,none⟩) 1 1]).run Tryz.prog W = .ok v' W'∧PRow W' base v' (L ++ [q])∧W.grownBy W' v.ownBlock∧(v'.ownBlock = v.ownBlock ∨ v'.ownBlock = some W.heap.size):=by
  refine prow_append h ty (some ⟨g,0,none⟩) [q] 1 1 rfl (fun e=>by cases e) (fun ad had j u hj=>?_) (by simp;omega) hbase
  cases had
  have e1:(⟨g,0,none⟩:Addr).add j = ⟨g,j,none⟩:=by unfold Addr.add;split <;> simp_all
  rw [e1,cell_of_row W g j _ 75 (0,0) hg]
  simpa [flat,pgC] using hj
def SpaceAt (mo e0 e1:Int) (w:World) (b:Nat) (P:List Pg):Prop:=∃ v,w.heap[b]? = some (.cells #[v,.int .i64 mo,.int .u64 e0,.int .u64 e1] 68 (0,0))∧PRow w 0 v P
section
variable {mo e0 e1:Int}
theorem SpaceAt.bl {w w':World} {b:Nat} {L:List Pg} (h:SpaceAt mo e0 e1 w b L) (k:Bl w w'):SpaceAt mo e0 e1 w' b L:=by
  obtain ⟨v,h1,h2⟩:=h
  exact ⟨v,k.at_ h1,h2.bl k⟩
theorem SpaceAt.lt {w:World} {b:Nat} {L:List Pg} (h:SpaceAt mo e0 e1 w b L):b < w.heap.size:=by
  obtain ⟨v,h1,h2⟩:=h;exact lt_at h1
theorem SpaceAt.frozen {w:World} {b:Nat} {L:List Pg} (h:SpaceAt mo e0 e1 w b L) (i:Nat):w.frozen? ⟨b,i,none⟩ = false:=by
  obtain ⟨v,h1,h2⟩:=h;simp [World.frozen?,h1]
theorem SpaceAt.cells {w:World} {b:Nat} {P:List Pg} (h:SpaceAt mo e0 e1 w b P):∃ A cap,w.cell? ⟨b,0,none⟩ = some (.slice A P.length cap)∧w.cell? ⟨b,1,none⟩ = some (.int .i64 mo)∧PRow w 0 (.slice A P.length cap) P:=by
  obtain ⟨v,h1,h2⟩:=h
  obtain ⟨A,cap,rfl⟩:=h2.shape
  exact ⟨A,cap,by rw [cell_of_row w b 0 _ 68 (0,0) h1];rfl,by rw [cell_of_row w b 1 _ 68 (0,0) h1];rfl,h2⟩
end
def PRowPost (w:World) (L:List Pg) (e:Ending) (w':World):Prop:=∃ v,e = .returned v∧PRow w' w.heap.size v L∧Bl w w'
theorem outP_take (P:List Pg) (s e:Int) (k:Nat) (x:Pg) (hk:P[k]? = some x):outP (P.take (k + 1)) s e = outP (P.take k) s e ++ (if x.no * 4096 < s ∨ e ≤ x.no * 4096 then [x] else []):=by
  rw [List.take_add_one,hk]
  simp only [outP,List.filter_append]
  congr 1
  by_cases h:x.no * 4096 < s ∨ e ≤ x.no * 4096
  · rw [if_pos h];simp [h]
  · rw [if_neg h]
    have h1:¬ x.no * 4096 < s:=fun h'=>h (.inl h')
    have h2:¬ e ≤ x.no * 4096:=fun h'=>h (.inr h')
    simp [h1,h2]
theorem outP_len (P:List Pg) (s e:Int):(outP P s e).length ≤ P.length:=List.length_filter_le _ _

theorem without_any {mo e0 e1:Int} {w:World} {b:Nat} {P:List Pg} (h:SpaceAt mo e0 e1 w b P) (hp:Pgs 67108864 P) (hl:P.length ≤ 5000) (s t:Int) :
    Calls Tryz.prog 29 #[addr0 b,.int .u64 s,.int .u64 t] w (PRowPost w (outP P s t)):=by
  have HH:=hid h;clear h
  have HPG:=hid hp;clear hp
  have hlI:(P.length:Int) ≤ 5000:=by omega
  obtain ⟨n,hn⟩:∃ n,n = P.length:=⟨_,rfl⟩
  rw [← hn] at hlI
  have HN:=hid hn;clear hn
  have HL:=hid hl;clear hl
  unfold addr0
  go_enter Tryz.func29,Tryz.ntmps29
  go_wp2_with fail
  go_loopw [7,8,9] (fun v7 i _ wr=>∃ k:Nat,k ≤ n∧i = .int .i64 k∧PRow wr w.heap.size v7 (outP (P.take k) s t)∧Bl w wr) (fun _ i _ _=>n - (intOf i).toNat)
  case atStart=>exact ⟨0,by omega,rfl,RowG.nil,Bl.refl _⟩
  case round =>
    obtain ⟨k,hk,rfl,hrow,hbl⟩:=hrel
    have HROW:=hid hrow;clear hrow
    obtain ⟨A,cap,e0,e1,hpr⟩:=(HH.out.bl hbl).cells
    rw [← HN.out] at e0 hpr
    have HPR:=hid hpr;clear hpr e1
    have HBL:=hid hbl;clear hbl
    by_cases hlt:k < n
    · have hltL:k < P.length:=by have:=HN.out;omega
      obtain ⟨x,hx⟩:∃ x,P[k]? = some x:=⟨P[k],List.getElem?_eq_getElem hltL⟩
      have hne:P ≠ []:=by intro e;rw [e] at hltL;simp at hltL
      obtain ⟨g,cap',cur,hA,_,hnc,hg,_⟩:=HPR.out.form hne
      have hA':A = some ⟨g,0,none⟩:=by injection hA
      subst hA'
      obtain ⟨c0,c1,c2⟩:=prow_cells HPR.out k x hx
      clear hA hnc hg hne hltL
      obtain ⟨x1,x2⟩:=HPG.out.2 x (List.mem_of_getElem? hx)
      have x3:x.no < 67108864:=by omega
      clear x2
      have hstep:=outP_take P s t k x hx
      have hwl:(outP (P.take k) s t).length ≤ 5000:=by
        have h1:=outP_len (P.take k) s t
        have h2:=HL.out
        rw [List.length_take] at h1;omega
      have HS:=hid hstep;clear hstep hx
      have HWL:=hid hwl;clear hwl
      have hkI:(k:Int) < (n:Int):=by omega
      by_cases hc:x.no * 4096 < s ∨ t ≤ x.no * 4096
      · have hrow2:=HROW.out.bl (Bl.new _ (.cells #[.int .u64 x.no,.int .i64 x.p,.slice (some ⟨x.b,0,none⟩) 4096 4096] 75))
        have hb2:Bl w (wr.alloc (.cells #[.int .u64 x.no,.int .i64 x.p,.slice (some ⟨x.b,0,none⟩) 4096 4096] 75)):=HBL.out.alloc _
        obtain ⟨v',W',hrun,hrow3,hgr,_⟩:=prow_push hrow2 x wr.heap.size 66 (heap_alloc_new wr _) (by have:=HWL.out;omega) hb2.size
        have hbl3:Bl w W':=Below.grown hb2 hgr hb2.size (fun q hq=>(hrow2.lt q hq).1)
        have HROW3:=hid hrow3;clear hrow3 hrow2 hb2 hgr
        have HBL3:=hid hbl3;clear hbl3
        have HRUN:=hid hrun;clear hrun
        by_cases hc1:x.no * 4096 < s
        · go_wp2_with (first | (at_builtin;refine wpl_append_run rfl (.tmp 36) (.tmp 44) 66 rfl _ _ _ rfl rfl HRUN.out ?_))
          refine ⟨⟨k + 1,by omega,by go_num,by rw [HS.out,if_pos hc];exact HROW3.out,HBL3.out⟩,?_⟩
          simp only [intOf];omega
        · have hc2:t ≤ x.no * 4096:=by omega
          have hc3:s ≤ x.no * 4096:=by omega
          go_wp2_with (first | (at_builtin;refine wpl_append_run rfl (.tmp 36) (.tmp 44) 66 rfl _ _ _ rfl rfl HRUN.out ?_))
          refine ⟨⟨k + 1,by omega,by go_num,by rw [HS.out,if_pos hc];exact HROW3.out,HBL3.out⟩,?_⟩
          simp only [intOf];omega
      · have hc2:x.no * 4096 < t:=by omega
        have hc3:s ≤ x.no * 4096:=by omega
        go_wp2_with fail
        refine ⟨⟨k + 1,by omega,by go_num,by rw [HS.out,if_neg hc];simpa using HROW.out,HBL.out⟩,?_⟩
        simp only [intOf];omega
    · obtain rfl:k = n:=by omega
      have hfin:=HROW.out
      rw [HN.out,List.take_length] at hfin
      have HF:=hid hfin;clear hfin
      go_wp2_with fail
      go_ret
      exact ⟨_,rfl,HF.out,HBL.out⟩
theorem refSpan_yes (s e:Int) (w:World) (h0:0 ≤ s) (h:Span s e):Calls Tryz.prog 75 #[.int .u64 s,.int .u64 e] w fun x w'=>x = .returned (.bool true)∧w = w':=by
  obtain ⟨h1,h2,h3,h4⟩:=h
  have t1:(s % 4096 == 0) = true:=by simp [h1]
  have t2:(e % 4096 == 0) = true:=by simp [h2]
  have h5:0 ≤ e:=by omega
  have h6:s ≤ 274877906944:=by omega
  clear h1 h2
  go_enter Tryz.func75,Tryz.ntmps75
  go_wp2
  go_ret
  exact ⟨rfl,rfl⟩
end Go.Proofs.YtbngjbmfkekdnaaGreatDoor

namespace Go.Proofs.YtbngjbmfkekdnaaGreatDoor
open Go.RowKit
set_option maxRecDepth 100000
theorem regs_take (P:List Pg) (k:Nat) (x:Pg) (hk:P[k]? = some x):join [] ((P.take (k + 1)).map toR) = joinOne (join [] ((P.take k).map toR)) (toR x):=by
  rw [List.take_add_one,hk]
  simp [join,List.foldl_append]
structure RR (w:World) (P:List Pg) (k:Nat) (v:Value) (wr:World):Prop where
  row:Row wr w.heap.size v (join [] ((P.take k).map toR))
  bl:Bl w wr
theorem regions_any {w:World} {base:Nat} {v:Value} {P:List Pg} (h:PRow w base v P) (hp:Pgs 67108864 P) (hl:P.length ≤ 5000):Calls Tryz.prog 30 #[v] w (RowPost w (regs P)):=by
  obtain ⟨A,cap,rfl⟩:=h.shape
  have hlI:(P.length:Int) ≤ 5000:=by omega
  have HPR:=hid h;clear h
  have HPG:=hid hp;clear hp
  obtain ⟨n,hn⟩:∃ n,n = P.length:=⟨_,rfl⟩
  rw [← hn] at hlI HPR ⊢
  have HN:=hid hn;clear hn
  go_enter Tryz.func30,Tryz.ntmps30
  go_wp2_with fail
  go_loopw [3,4,5,6] (fun v3 i _ _ wr=>∃ k:Nat,k ≤ n∧i = .int .i64 k∧RR w P k v3 wr) (fun _ i _ _ _=>n - (intOf i).toNat)
  case atStart=>exact ⟨0,by omega,rfl,⟨RowG.nil,Bl.refl _⟩⟩
  case round =>
    obtain ⟨k,hk,rfl,hrr⟩:=hrel
    have HRR:=hid hrr;clear hrr
    by_cases hlt:k < n
    · have hltL:k < P.length:=by have:=HN.out;omega
      obtain ⟨x,hx⟩:∃ x,P[k]? = some x:=⟨P[k],List.getElem?_eq_getElem hltL⟩
      have hne:P ≠ []:=by intro e;rw [e] at hltL;simp at hltL
      obtain ⟨g,cap',cur,hA,_,hnc,hg,_⟩:=HPR.out.form hne
      have hA':A = some ⟨g,0,none⟩:=by injection hA
      subst hA'
      obtain ⟨c0,c1,c2⟩:=prow_cells (HPR.out.bl HRR.out.bl) k x hx
      clear hA hnc hg hne hltL
      obtain ⟨x1,x2⟩:=HPG.out.2 x (List.mem_of_getElem? hx)
      have x3:x.no < 67108864:=by omega
      clear x2
      have hstep:=regs_take P k x hx
      have hkI:(k:Int) < (n:Int):=by omega
      clear hx
      obtain ⟨J,hJ⟩:∃ J,J = join [] ((P.take k).map toR):=⟨_,rfl⟩
      have hrow:=HRR.out.row
      rw [← hJ] at hrow hstep
      have hjl:J.length ≤ 5000:=by
        have h1:=join_len [] ((P.take k).map toR)
        rw [← hJ,List.length_map,List.length_take] at h1
        simp only [List.length_nil] at h1;omega
      have HS:=hid hstep;clear hstep hJ
      have HJL:=hid hjl;clear hjl
      have HBL:=hid HRR.out.bl
      clear c2
      obtain ⟨xn,xp,xb⟩:=x
      simp only [toR] at *
      rcases last_cases J with rfl | ⟨B,q,rfl⟩
      · obtain rfl:=hrow.2 rfl
        have HROW2:=hid hrow;clear hrow
        go_wp2_with fail
        go_quiet (fail)
        have hrowD:Row ((wr.drewN nq).alloc (.cells #[.int .u64 (xn * 4096),.int .u64 (xn * 4096 + 4096),.int .i64 xp] 79)) w.heap.size (.slice none 0 0) []:=(HROW2.out.bl ((Bl.refl wr).drewN nq)).bl (Bl.new _ _)
        have hbel:Bl w ((wr.drewN nq).alloc (.cells #[.int .u64 (xn * 4096),.int .u64 (xn * 4096 + 4096),.int .i64 xp] 79)):=(HBL.out.drewN nq).alloc _
        obtain ⟨v',W',hrun,hrow3,hgr,hown⟩:=row_push hrowD ⟨xn * 4096,xn * 4096 + 4096,xp⟩ wr.heap.size 57 (heap_alloc_new (wr.drewN nq) _) (by have:=HJL.out;omega) hbel.size
        have hj2:RR w P (k + 1) v' W':=⟨by rw [HS.out,joinOne_nil];exact hrow3,Below.grown hbel hgr hbel.size (fun q' hq'=>(hrowD.lt q' hq').1)⟩
        have HJ2:=hid hj2;clear hj2 hrow3 hgr hown hrowD hbel
        have HRUN:=hid hrun;clear hrun
        go_wp2_with (first | (at_builtin;refine wpl_append_run rfl (.tmp 54) (.tmp 64) 57 rfl _ _ _ rfl rfl HRUN.out ?_))
        refine ⟨⟨k + 1,by omega,by go_num,HJ2.out⟩,?_⟩
        simp only [intOf];omega
      · have HROW2:=hid hrow;clear hrow
        have hq:(B ++ [q])[B.length]? = some q:=by simp
        obtain ⟨g0,cap0,_,hv0,hbg0,_,_,_⟩:=HROW2.out.form (by simp)
        simp only [List.length_append,List.length_singleton] at hv0
        subst hv0
        obtain ⟨d0,d1,d2⟩:=row_cells HROW2.out B.length q hq
        have hBl:B.length ≤ 20000:=by have:=HJL.out;simp at this;omega
        clear hq
        obtain ⟨j,hj⟩:∃ j,j = B.length:=⟨_,rfl⟩
        rw [← hj] at d0 d1 d2 hBl HROW2 HRR ⊢
        have HJJ:=hid hj;clear hj
        have fz:=HROW2.out.free (j * 3 + 1)
        have hjI:(j:Int) ≤ 20000:=by omega
        have hj0:(0:Int) ≤ (j:Int):=by omega
        by_cases e1:q.e = xn * 4096
        · have t1:(q.e == xn * 4096) = true:=by simp [e1]
          by_cases e2:q.p = xp
          · have t2:(q.p == xp) = true:=by simp [e2]
            have HJY:=hid (joinOne_yes B q ⟨xn * 4096,xn * 4096 + 4096,xp⟩ e1 e2)
            clear e1 e2
            go_wp2_with fail
            go_quiet (fail)
            have hrowE:=row_end (HROW2.out.bl ((Bl.refl wr).drewN nq)) (xn * 4096 + 4096)
            rw [← HJJ.out] at hrowE
            have hj2:RR w P (k + 1) (.slice (some ⟨g0,0,none⟩) (j + 1) cap0) ((wr.drewN nq).setCell ⟨g0,j * 3 + 1,none⟩ (.int .u64 (xn * 4096 + 4096))):=⟨by rw [HS.out,HJY.out];exact hrowE,(HBL.out.drewN nq).set hbg0 _⟩
            have HJ2:=hid hj2;clear hj2 hrowE
            go_wp2_with fail
            refine ⟨⟨k + 1,by omega,by go_num,HJ2.out⟩,?_⟩
            simp only [intOf];omega
          · have t2:(q.p == xp) = false:=by simp [e2]
            have HJN:=hid (joinOne_no B q ⟨xn * 4096,xn * 4096 + 4096,xp⟩ (fun h=>e2 h.2))
            clear e1 e2
            go_wp2_with fail
            go_quiet (fail)
            have hrowD:Row ((wr.drewN nq).alloc (.cells #[.int .u64 (xn * 4096),.int .u64 (xn * 4096 + 4096),.int .i64 xp] 79)) w.heap.size (.slice (some ⟨g0,0,none⟩) (j + 1) cap0) (B ++ [q]):=(HROW2.out.bl ((Bl.refl wr).drewN nq)).bl (Bl.new _ _)
            have hbel:Bl w ((wr.drewN nq).alloc (.cells #[.int .u64 (xn * 4096),.int .u64 (xn * 4096 + 4096),.int .i64 xp] 79)):=(HBL.out.drewN nq).alloc _
            obtain ⟨v',W',hrun,hrow3,hgr,hown⟩:=row_push hrowD ⟨xn * 4096,xn * 4096 + 4096,xp⟩ wr.heap.size 57 (heap_alloc_new (wr.drewN nq) _) (by have:=HJL.out;omega) hbel.size
            have hj2:RR w P (k + 1) v' W':=⟨by rw [HS.out,HJN.out];exact hrow3,Below.grown hbel hgr hbel.size (fun q' hq'=>(hrowD.lt q' hq').1)⟩
            have HJ2:=hid hj2;clear hj2 hrow3 hgr hown hrowD hbel
            have HRUN:=hid hrun;clear hrun
            go_wp2_with (first | (at_builtin;refine wpl_append_run rfl (.tmp 54) (.tmp 64) 57 rfl _ _ _ rfl rfl HRUN.out ?_))
            refine ⟨⟨k + 1,by omega,by go_num,HJ2.out⟩,?_⟩
            simp only [intOf];omega
        · have t1:(q.e == xn * 4096) = false:=by simp [e1]
          have HJN:=hid (joinOne_no B q ⟨xn * 4096,xn * 4096 + 4096,xp⟩ (fun h=>e1 h.1))
          clear e1
          go_wp2_with fail
          go_quiet (fail)
          have hrowD:Row ((wr.drewN nq).alloc (.cells #[.int .u64 (xn * 4096),.int .u64 (xn * 4096 + 4096),.int .i64 xp] 79)) w.heap.size (.slice (some ⟨g0,0,none⟩) (j + 1) cap0) (B ++ [q]):=(HROW2.out.bl ((Bl.refl wr).drewN nq)).bl (Bl.new _ _)
          have hbel:Bl w ((wr.drewN nq).alloc (.cells #[.int .u64 (xn * 4096),.int .u64 (xn * 4096 + 4096),.int .i64 xp] 79)):=(HBL.out.drewN nq).alloc _
          obtain ⟨v',W',hrun,hrow3,hgr,hown⟩:=row_push hrowD ⟨xn * 4096,xn * 4096 + 4096,xp⟩ wr.heap.size 57 (heap_alloc_new (wr.drewN nq) _) (by have:=HJL.out;omega) hbel.size
          have hj2:RR w P (k + 1) v' W':=⟨by rw [HS.out,HJN.out];exact hrow3,Below.grown hbel hgr hbel.size (fun q' hq'=>(hrowD.lt q' hq').1)⟩
          have HJ2:=hid hj2;clear hj2 hrow3 hgr hown hrowD hbel
          have HRUN:=hid hrun;clear hrun
          go_wp2_with (first | (at_builtin;refine wpl_append_run rfl (.tmp 54) (.tmp 64) 57 rfl _ _ _ rfl rfl HRUN.out ?_))
          refine ⟨⟨k + 1,by omega,by go_num,HJ2.out⟩,?_⟩
          simp only [intOf];omega
    · obtain rfl:k = n:=by omega
      have hfin:=HRR.out.row
      rw [HN.out,List.take_length] at hfin
      have HF:=hid hfin;clear hfin
      go_wp2_with fail
      go_ret
      exact ⟨_,rfl,HF.out,HRR.out.bl⟩
end Go.Proofs.YtbngjbmfkekdnaaGreatDoor
