/-
  Read: the bytes from a place on.
  Stamps of a span; a page that is wiped whole.
  Clear: nothing, some pages, all pages; what is asked of a store that is none.
  Clear of whole pages: few of them, one by one.
  A space in memory: its block, its list of regions, its store; what the list's calls and the store's calls leave of it.
-/
import Derived.Test.YtlhpodholnfppaaGreatDoorT5
import Derived.Test.YtlhpodholnfppaaGreatDoorT4
import Derived.Test.YtlhpodholnfppaaGreatDoorT1
import Derived.Lib.Hide
set_option linter.unusedVariables false
set_option linter.unusedSimpArgs false
set_option maxHeartbeats 16000000
open Go.Lib (hid)
namespace Go.Proofs.YtlhpodholnfppaaGreatDoor
open Go.RowKit
set_option maxRecDepth 100000
def bytesAt (M:Nat → Int) (addr m:Nat):List Int:=(List.range m).map fun i=>M (addr + i)
theorem bytesAt_length (M:Nat → Int) (addr m:Nat):(bytesAt M addr m).length = m:=by simp [bytesAt]
theorem bytesAt_get (M:Nat → Int) (addr m i:Nat) (h:i < m):(bytesAt M addr m)[i]? = some (M (addr + i)):=by simp [bytesAt,List.getElem?_range h]
theorem bytesAt_add (M:Nat → Int) (addr t d:Nat):bytesAt M addr (t + d) = bytesAt M addr t ++ bytesAt M (addr + t) d:=by
  simp only [bytesAt,List.range_add,List.map_append,List.map_map]
  congr 1
  apply List.map_congr_left
  intro i _
  simp [Nat.add_assoc]
theorem bytesAt_zero (M:Nat → Int) (addr d:Nat) (h:∀ i,i < d → M (addr + i) = 0):bytesAt M addr d = List.replicate d 0:=by
  apply List.ext_getElem?
  intro i
  by_cases hi:i < d
  · rw [bytesAt_get _ _ _ _ hi,h i hi,List.getElem?_replicate,if_pos hi]
  · rw [List.getElem?_eq_none (by rw [bytesAt_length];omega),List.getElem?_eq_none (by simp;omega)]
theorem made_bytes (n:Nat):madeCells #[.int .u8 0] n = (asBytes (List.replicate n 0)).toArray:=by
  apply Array.ext
  · simp [madeCells,asBytes]
  · intro i h1 h2
    simp [madeCells,asBytes,Nat.mod_one]
theorem made29 (m:Nat) (hm:m ≤ 4194304) (w:World):(Instr.makeSlice 22 (.int .i64 (m:Int)) (.int .i64 (m:Int))).run Tryz.prog w = .ok (.slice (some ⟨w.heap.size,0,none⟩) m m) (w.alloc (.cells (asBytes (List.replicate m 0)).toArray 5)):=by
  obtain ⟨i0,hi0,hz0,hz1,hz2⟩:=info_parts infoByte
  have h:=run_make (P:=Tryz.prog) w 22 5 i0 (.int .u8 0) Tryz.underlying22 hi0 hz0 .i64 .i64 m m (by omega) (by omega) (by rw [hz2];omega) (by omega)
  rw [← made_bytes]
  simpa [hz1,Value.cells] using h
def part (M:Nat → Int) (addr m t:Nat):List Int:=bytesAt M addr t ++ List.replicate (m - t) 0
theorem part_length (M:Nat → Int) (addr m t:Nat) (h:t ≤ m):(part M addr m t).length = m:=by simp [part,bytesAt_length];omega
theorem part_zero (M:Nat → Int) (addr m t d:Nat) (h:t + d ≤ m) (hz:∀ i,i < d → M (addr + t + i) = 0):part M addr m (t + d) = part M addr m t:=by
  unfold part
  rw [bytesAt_add,bytesAt_zero M (addr + t) d hz,List.append_assoc,List.replicate_append_replicate]
  congr 2;omega
theorem part_copy (M:Nat → Int) (addr m t d:Nat) (h:t + d ≤ m):splice (part M addr m t) t (bytesAt M (addr + t) d) = part M addr m (t + d):=by
  have e1:(part M addr m t).take t = bytesAt M addr t:=by
    unfold part;rw [List.take_append_of_le_length (by rw [bytesAt_length];exact Nat.le_refl _)];exact List.take_of_length_le (by rw [bytesAt_length];exact Nat.le_refl _)
  have e2:(part M addr m t).drop (t + d) = List.replicate (m - (t + d)) 0:=by
    unfold part
    rw [List.drop_append,List.drop_of_length_le (by rw [bytesAt_length];omega),List.nil_append,List.drop_replicate,bytesAt_length]
    congr 1;omega
  simp only [splice,bytesAt_length,e1,e2]
  unfold part
  rw [bytesAt_add,List.append_assoc]
theorem StoreAt.beyond {Y:Rest} {S:Nat → Prop} {w:World} {sb n k:Nat} {f:Nat → Option Nat} {M st:Nat → Int} (h:StoreAt Y S w sb n f k M st) (a:Nat) (ha:274877906944 ≤ a):M a = 0:=by
  obtain ⟨pm,sm,c,l,h⟩:=h
  have h1:f (a / 4096) = none:=by
    rcases e:f (a / 4096) with _ | b
    · rfl
    · have:=h.lim _ _ e;omega
  have:=h.zero (a / 4096) (a % 4096) h1 (by omega)
  rwa [show a / 4096 * 4096 + a % 4096 = a by omega] at this
theorem SA.readRun {Y:Rest} {S:Nat → Prop} {w w0:World} {sb n k:Nat} {f:Nat → Option Nat} {M st:Nat → Int} {pm sm:Value} {c l:Int} (h:SA Y S w sb n f k M st pm sm c l) {num b off:Nat} (hb:f num = some b) (g t dn dc m addr:Nat)
    (hg:w.heap[g]? = some (.cells (asBytes (part M addr m t)).toArray 5 (0,0))) (ht:t + dn ≤ m) (hoff:off + dn ≤ 4096) (he:num * 4096 + off = addr + t) (hbl:Bl w0 w) (hg0:w0.heap.size ≤ g) (ty:TypeId) :
    ∃ w',(Builtin.copy_ #[22,22] ty #[.slice (some ⟨g,t,none⟩) dn dc,.slice (some ⟨b,off,none⟩) (4096 - off) (4096 - off)]).run Tryz.prog w = .ok (.int .i64 (dn:Int)) w' ∧
      w'.heap[g]? = some (.cells (asBytes (part M addr m (t + dn))).toArray 5 (0,0))∧Bl w0 w':=by
  have hbb:=(h.at_ num b hb).2
  have hcl:(asBytes (bytesAt M (addr + t) dn)).length = dn:=by rw [asBytes_length,bytesAt_length]
  have hrun:=run_copy_row (P:=Tryz.prog) w 22 22 ty 5 g t dn dc ⟨b,off,none⟩ (4096 - off) (4096 - off) _ 5 (asBytes (bytesAt M (addr + t) dn)) Tryz.underlying22 sizeByte hg (by rw [hcl];exact (Nat.min_eq_right (by omega)).symm) (fun j v hj=>by
    obtain ⟨h1,rfl⟩:=asBytes_get _ _ _ hj
    rw [bytesAt_length] at h1
    have e1:(⟨b,off,none⟩:Addr).add j = ⟨b,off + j,none⟩:=by unfold Addr.add;split <;> simp_all
    rw [e1,cell_of_row w b (off + j) _ 173 (0,0) hbb]
    simp only [List.getElem?_toArray]
    rw [asBytes_at _ _ (by rw [pageOf_length];omega),List.getD_eq_getElem?_getD,pageOf_get _ _ _ (by omega),List.getD_eq_getElem?_getD,bytesAt_get _ _ _ _ h1]
    have e2:num * 4096 + (off + j) = addr + t + j:=by omega
    rw [e2]) (by rw [hcl,List.size_toArray,asBytes_length,part_length _ _ _ _ (by omega)];exact ht) (bytes_one _)
  rw [hcl] at hrun
  refine ⟨_,hrun,?_,below_setRow hbl hg0 _⟩
  rw [setRow_heap w g _ _ 5 _ hg,← part_copy M addr m t dn ht]
  simp only [splice,asBytes,List.map_append,List.map_take,List.map_drop,bytesAt_length,List.append_assoc]
theorem slice29to (A:Option Addr) (len cap k:Nat) (h:k ≤ cap) (w:World):(Instr.sliceAt 22 (.slice A len cap) none (some (.int .i64 (k:Int))) none).run Tryz.prog w = .ok (.slice A k cap) w:=by
  obtain ⟨i0,hi0,hz0,hz1,hz2⟩:=info_parts infoByte
  have hA:A.map (fun a=>a.add 0) = A:=by cases A <;> simp [Addr.add]
  have h1:(0:Int) ≤ (k:Int)∧(k:Int) ≤ (cap:Int):=by omega
  simp [Instr.sliceAt,Instr.slice,run_underlying Tryz.underlying22,Instr.sliceBounds,Instr.sliceBound,asIntOf,sizeOf,typeInfo,hi0,hz1,Result.andThen]
  rw [if_pos h]
  simp [hA]
section
variable {P:Program} (w:World) {ops:Array Oper} {rest:List Oper} {o:Oper} {a:Act} {Q:Exit → Act → World → Prop}
theorem wpl_copy_run {w1:World} (hg:o.guard = none) (d s:Operand) (dT sT:TypeId) (ho:o.op = .call { callee:=.builtin .copy,args:=#[d,s],argTypes:=#[dT,sT] }) (vd vs v1:Value) (hd:a.eval d = vd) (hs:a.eval s = vs)
    (hrun:(Builtin.copy_ #[dT,sT] o.type #[vd,vs]).run P w = .ok v1 w1) (hK:wpList P ops Q rest (a.put o.dst v1) w1):wpList P ops Q (o :: rest) a w:=by
  refine wpList_plain hg fun K hK'=>?_
  unfold Oper.wp
  simp [execOp,ho,resolve,invoke,builtin,hd,hs,hrun,Result.andThen]
  exact hK' _ _ hK
end
def ReadPost (w:World) (M:Nat → Int) (addr m:Nat) (e:Ending) (w':World):Prop:=
  e = .returned (.slice (some ⟨w.heap.size,0,none⟩) m m)∧w'.heap[w.heap.size]? = some (.cells (asBytes (bytesAt M addr m)).toArray 5 (0,0))∧Bl w w'
theorem read_any {Y:Rest} {S:Nat → Prop} {w:World} {sb n k:Nat} {f:Nat → Option Nat} {M st:Nat → Int} (h:StoreAt Y S w sb n f k M st) (addr m:Nat) (ha:addr < 2 ^ 64) (hm1:1 ≤ m) (hm:m ≤ 4194304) :
    Calls Tryz.prog 61 #[.pointer (some ⟨sb,1,none⟩),.int .u64 (addr:Int),.int .i64 (m:Int)] w (ReadPost w M addr m):=by
  have cb:=fun W=>below_any addr m W (by omega)
  have hroom:room addr m ≤ m:=Nat.min_le_left _ _
  have hrin:room addr m ≤ 274877906944 - addr:=Nat.min_le_right _ _
  have hrz:room addr m < m → 274877906944 ≤ addr + room addr m:=by unfold room;omega
  generalize room addr m = R at *
  have hx0:(0:Int) ≤ (addr:Int):=by omega
  have hx1:(addr:Int) ≤ 18446744073709551615:=by omega
  have hlI:(m:Int) ≤ 4194304:=by omega
  have hl1:(1:Int) ≤ (m:Int):=by omega
  have hRl:(R:Int) ≤ (m:Int):=by omega
  have hmk:=fun W=>made29 m hm W
  have HA:=hid ha;clear ha
  have HRI:=hid hrin;clear hrin
  have HRZ:=hid hrz;clear hrz
  have HH:=hid h;clear h
  have CB:=hid cb;clear cb
  (try unfold addr0)
  obtain ⟨x,hx⟩:∃ x:Int,x = (addr:Int):=⟨_,rfl⟩
  rw [← hx] at hx0 hx1 CB ⊢
  have HX:=hid hx;clear hx
  go_enter Tryz.func61,Tryz.ntmps61
  go_wp2_with fail
  refine (CB.out _).mono ?_
  rintro e w' ⟨rfl,rfl⟩
  go_wp2_with fail
  clear hmk CB hx0 hx1
  have h0:Bl w (w.alloc (.cells (asBytes (List.replicate m 0)).toArray 5)):=Bl.new _ _
  have hg0:(w.alloc (.cells (asBytes (List.replicate m 0)).toArray 5)).heap[w.heap.size]? = some (.cells (asBytes (part M addr m 0)).toArray 5 (0,0)):=by
    rw [heap_alloc_new];simp [part,bytesAt]
  have H0:=hid h0;clear h0
  have HG0:=hid hg0;clear hg0
  generalize w.alloc (.cells (asBytes (List.replicate m 0)).toArray 5) = W at *
  go_loopw [1,8,9,10] (fun v1 v8 _ _ wr=>∃ (t:Nat) (B:Option Addr),v1 = .int .u64 ((addr + t:Nat):Int)∧v8 = .slice B (R - t) (m - t)∧(t < R → B = some ⟨w.heap.size,t,none⟩)∧t ≤ R∧wr.heap[w.heap.size]? = some (.cells (asBytes (part M addr m t)).toArray 5 (0,0))∧Bl w wr) (fun _ v8 _ _ _=>lenV v8)
  case atStart=>exact ⟨0,_,by rw [HX.out];rfl,rfl,fun _=>rfl,Nat.zero_le _,HG0.out,H0.out⟩
  case round =>
    obtain ⟨t,B,rfl,rfl,hB,htR,hg,hbl⟩:=hrel
    clear HX
    have HG:=hid hg;clear hg
    have HBL:=hid hbl;clear hbl
    by_cases hlt:t < R
    · obtain rfl:=hB hlt
      clear hB
      have hrlI:(0:Int) < ((R - t:Nat):Int):=by omega
      obtain ⟨num,hnum⟩:∃ num,num = (addr + t) / 4096:=⟨_,rfl⟩
      obtain ⟨off,hoff⟩:∃ off,off = (addr + t) % 4096:=⟨_,rfl⟩
      obtain ⟨x,hx⟩:∃ x:Int,x = ((addr + t:Nat):Int):=⟨_,rfl⟩
      obtain ⟨dn,hdn⟩:∃ dn,dn = min (R - t) (4096 - off):=⟨_,rfl⟩
      have hxn:x / 4096 = (num:Int):=by omega
      have hxo:x % 4096 = (off:Int):=by omega
      have hx0:0 ≤ x:=by omega
      have hx1:x ≤ 274877906944:=by have:=HRI.out;omega
      have ho:(off:Int) < 4096:=by omega
      have hd0:(0:Int) ≤ (dn:Int):=by omega
      have hdx:x + (dn:Int) ≤ 274877906944:=by have:=HRI.out;omega
      have hdR:(dn:Int) ≤ ((R - t:Nat):Int):=by omega
      have hdm:(dn:Int) ≤ ((m - t:Nat):Int):=by omega
      have hmn:∀ W',(Builtin.min_ #[3,3] 3 #[.int .i64 ((R - t:Nat):Int),.int .i64 (4096 - (off:Int))]).run Tryz.prog W' = .ok (.int .i64 (dn:Int)) W':=by
        intro W'
        rw [min_run]
        congr 2
        split <;> omega
      have hSA:=HH.out.bl HBL.out
      obtain ⟨pm,sm,c,l,hSA⟩:=hSA
      obtain ⟨c0,c1,c2,c3⟩:=hSA.cell
      have hlook:=hSA.pages.look (show num < 2 ^ 64 by have:=HRI.out;omega)
      rw [← hx]
      have HX:=hid hx;clear hx
      have HNUM:=hid hnum;clear hnum
      have HOFF:=hid hoff;clear hoff
      have HDN:=hid hdn;clear hdn
      have HSA:=hid hSA;clear hSA
      rcases hb:f num with _ | b
      · rw [hb] at hlook
        simp only [ptrOf,Option.map_none] at hlook
        have HB:=hid hb;clear hb
        go_wp2_with fail
        have hd2:dn ≤ R - t:=by omega
        have hd3:0 < dn:=by have:=HDN.out;have:=HOFF.out;omega
        refine ⟨⟨t + dn,(if m - t = dn then some ⟨w.heap.size,t,none⟩ else some ⟨w.heap.size,t + dn,none⟩),?_,?_,fun hlt2=>?_,by omega,?_,HBL.out⟩,?_⟩
        · rw [HX.out];congr 1;omega
        · congr 1 <;> omega
        · rw [if_neg (by omega)]
        · rw [part_zero M addr m t dn (by omega) (fun i hi=>?_)]
          · exact HG.out
          · have h1:=HSA.out.zero num (off + i) HB.out (by have:=HDN.out;omega)
            have h2:num * 4096 + (off + i) = addr + t + i:=by have:=HNUM.out;have:=HOFF.out;omega
            rwa [h2] at h1
        · simp only [lenV];omega
      · rw [hb] at hlook
        simp only [ptrOf,Option.map_some] at hlook
        have HB:=hid hb;clear hb
        have hoffN:off < 4096:=by omega
        have hsl:=slice53 b off hoffN
        have hs2:=slice29to (some ⟨w.heap.size,t,none⟩) (R - t) (m - t) dn (by omega)
        go_wp2_with fail
        have hxt:x.tmod 4096 = (off:Int):=by rw [Int.tmod_eq_emod_of_nonneg hx0];exact hxo
        go_still_tail 8,(by kernel_rfl)
        change wpList _ _ _ _ _ wr.drew
        have hd2:dn ≤ R - t:=by omega
        have hd3:0 < dn:=by have:=HDN.out;have:=HOFF.out;omega
        obtain ⟨w2,hcp,hg2,hbl2⟩:=(HSA.out.bl (Bl.refl wr).drew).readRun (off:=off) HB.out w.heap.size t dn (m - t) m addr HG.out (by omega) (by have:=HDN.out;omega) (by have:=HNUM.out;have:=HOFF.out;omega) HBL.out.drew (Nat.le_refl _) 3
        have HG2:=hid hg2;clear hg2
        have HBL2:=hid hbl2;clear hbl2
        refine wpl_copy_run _ rfl (.tmp 49) (.tmp 54) 22 22 rfl _ _ _ rfl rfl hcp ?_
        clear hcp hxt hs2 hsl hlook c0 c1 c2 c3 hmn
        go_wp2_with fail
        refine ⟨⟨t + dn,(if m - t = dn then some ⟨w.heap.size,t,none⟩ else some ⟨w.heap.size,t + dn,none⟩),?_,?_,fun hlt2=>?_,by omega,HG2.out,HBL2.out⟩,?_⟩
        · rw [HX.out];congr 1;omega
        · congr 1 <;> omega
        · rw [if_neg (by omega)]
        · simp only [lenV];omega
    · have ht:t = R:=by omega
      have HT:=hid ht
      have h0:R - t = 0:=by omega
      rw [h0]
      clear ht hlt h0 hB
      go_wp2_with fail
      go_ret
      refine ⟨rfl,?_,HBL.out⟩
      have e:part M addr m t = bytesAt M addr m:=by
        have e1:=HRZ.out
        rw [HT.out]
        obtain ⟨d,hd⟩:∃ d,m = R + d:=⟨m - R,by omega⟩
        have e2:part M addr m (R + d) = part M addr m R:=part_zero M addr m R d (by omega) (fun i hi=>HH.out.beyond _ (by omega))
        rw [← e2,← hd]
        simp [part]
      rw [← e]
      exact HG.out
end Go.Proofs.YtlhpodholnfppaaGreatDoor

namespace Go.Proofs.YtlhpodholnfppaaGreatDoor
open Go.RowKit
set_option maxRecDepth 100000
def box48 (a b:Int):Obj:=.cells #[.int .u64 a,.int .u64 b] 167
def less (S:Nat → Prop) (x:Nat):Nat → Prop:=fun b=>S b∧b ≠ x
theorem StoreAt.less {Y:Rest} {S:Nat → Prop} {w:World} {sb n k:Nat} {f:Nat → Option Nat} {M st:Nat → Int} (h:StoreAt Y S w sb n f k M st) (o:Obj):StoreAt Y (less S w.heap.size) (w.alloc o) sb n f k M st:=by
  have h1:StoreAt Y (YtlhpodholnfppaaGreatDoor.less S w.heap.size) w sb n f k M st:=h.among fun b hb hS=>⟨hS,by omega⟩
  exact h1.bl (Bl.new w o)
theorem Fr.unless {S:Nat → Prop} {w:World} {x:Nat} {o:Obj} {w':World} (h:Fr (less S x) (w.alloc o) w'):Fr S w w':=(Fr.of_bl (Bl.new w o)).trans (h.mono fun _ _ e=>e.1)
theorem box_at {S:Nat → Prop} {w w':World} {a b:Int} (h:Fr (less S w.heap.size) (w.alloc (box48 a b)) w'):w'.heap[w.heap.size]? = some (.cells #[.int .u64 a,.int .u64 b] 167 (0,0)):=
  h.at_ (heap_alloc_new w _) (fun e=>e.2 rfl)
theorem two_cells {w:World} {g:Nat} {x y:Value} {t:TypeId} (h:w.heap[g]? = some (.cells #[x,y] t (0,0))):w.cell? ⟨g,0,none⟩ = some x∧w.cell? ⟨g,1,none⟩ = some y:=by
  refine ⟨?_,?_⟩ <;> simp [World.cell?,h]
theorem less_new {S:Nat → Prop} {w w':World} (hS:∀ b,w.heap.size ≤ b → S b) {o:Obj} (h:(w.alloc o).heap.size ≤ w'.heap.size):∀ b,w'.heap.size ≤ b → less S w.heap.size b:=fun b hb=>by
  have:(w.alloc o).heap.size = w.heap.size + 1:=by simp
  exact ⟨hS b (by omega),by omega⟩
theorem stampAll_narrow {Y:Rest} {S:Nat → Prop} {w:World} {sb n k:Nat} {f:Nat → Option Nat} {M st:Nat → Int} (h:StoreAt Y S w sb n f k M st) (a b:Nat) (hab:a < b) (hc:b ≤ 274877906944) (hw:(b - 1) / 4096 - a / 4096 < 4096) (hn:n < 90000000) (hS:∀ b,w.heap.size ≤ b → S b) :
    Calls Tryz.prog 114 #[.pointer (some ⟨sb,1,none⟩),span (a:Int) (b:Int)] w fun e w'=>e = .returned (.tuple #[])∧(∃ st',StoreAt Y S w' sb (n + 8192) f k M st'∧Rise st st' (fun p=>a / 4096 ≤ p∧p ≤ (b - 1) / 4096))∧Fr S w w':=by
  have cw:=fun W=>wide_i (a:Int) (b:Int) W (by omega) (by omega) (by omega)
  rw [decide_eq_false (by omega)] at cw
  have cf:=fun W=>first_i (a:Int) (b:Int) W (by omega) (by omega)
  have cl:=fun W=>last_i (a:Int) (b:Int) W (by omega) (by omega)
  obtain ⟨q0,hq0⟩:∃ q0,q0 = a / 4096:=⟨_,rfl⟩
  obtain ⟨q1,hq1⟩:∃ q1,q1 = (b - 1) / 4096:=⟨_,rfl⟩
  have e0:(a:Int) / 4096 = (q0:Int):=by omega
  have e1:((b:Int) - 1) / 4096 = (q1:Int):=by omega
  rw [e0] at cf
  rw [e1] at cl
  have hq01:q0 ≤ q1:=by omega
  have hq2:q1 < 67108864:=by omega
  have hq3:q1 < q0 + 4096:=by omega
  rw [← hq0,← hq1]
  clear e0 e1 hq0 hq1 hw
  have h1:=h.less (box48 a b)
  have HH1:=hid h1;clear h1 h
  have CW:=hid cw;clear cw
  have CF:=hid cf;clear cf
  have CL:=hid cl;clear cl
  have HS:=hid hS;clear hS
  generalize (a:Int) = A at *
  generalize (b:Int) = B at *
  have fr1:Fr (less S w.heap.size) (w.alloc (box48 A B)) (w.alloc (box48 A B)):=Fr.refl _ _
  have FR1:=hid fr1;clear fr1
  clear hab hc
  (try unfold addr0 at *);(try unfold span at *)
  go_enter Tryz.func114,Tryz.ntmps114
  go_wp2_with fail
  refine (CW.out _).mono ?_
  rintro e w1 ⟨rfl,bl1⟩
  have fr2:=FR1.out.trans (Fr.of_bl bl1)
  have h2:=HH1.out.bl bl1
  obtain ⟨c0,c1⟩:=two_cells (box_at fr2)
  have FR2:=hid fr2;clear fr2 FR1 bl1
  have H2:=hid h2;clear h2 HH1
  go_wp2_with fail
  refine (CF.out _).mono ?_
  rintro e w2 ⟨rfl,bl2⟩
  have fr3:=FR2.out.trans (Fr.of_bl bl2)
  have h3:=H2.out.bl bl2
  clear c0 c1
  have FR3:=hid fr3;clear fr3 FR2 bl2
  have H3:=hid h3;clear h3 H2
  go_wp2_with fail
  go_loopw [4] (fun v wr=>∃ j:Nat,v = .int .u64 ((q0 + j:Nat):Int)∧q0 + j ≤ q1 + 1∧(∃ st',StoreAt Y (less S w.heap.size) wr sb (n + 2 * j) f k M st'∧Rise st st' (fun p=>q0 ≤ p∧p < q0 + j))∧Fr (less S w.heap.size) (w.alloc (box48 A B)) wr) (fun v _=>q1 + 1 - (intOf v).toNat)
  case atStart=>exact ⟨0,rfl,by omega,⟨st,H3.out,(Rise.refl st).mono fun p hp=>by omega⟩,FR3.out⟩
  case round =>
    obtain ⟨j,rfl,hj,⟨st1,hst,hris⟩,hfr⟩:=hrel
    have HRIS:=hid hris;clear hris
    clear H3 FR3
    obtain ⟨c0,c1⟩:=two_cells (box_at hfr)
    have HST:=hid hst;clear hst
    have HFR:=hid hfr;clear hfr
    go_wp2_with fail
    refine (CL.out _).mono ?_
    rintro e w4 ⟨rfl,bl4⟩
    have fr4:=HFR.out.trans (Fr.of_bl bl4)
    have h4:=HST.out.bl bl4
    have FR4:=hid fr4;clear fr4
    have H4:=hid h4;clear h4 bl4 c0 c1
    by_cases hlt:q0 + j ≤ q1
    · have hltI:((q0 + j:Nat):Int) ≤ (q1:Int):=by omega
      obtain ⟨x,hx⟩:∃ x,x = q0 + j:=⟨_,rfl⟩
      rw [← hx] at hltI ⊢
      have hxb:(x:Int) ≤ 67108864:=by omega
      have HX:=hid hx;clear hx
      go_wp2_with fail
      refine (stamp_any H4.out x (by omega) (by omega) (less_new HS.out FR4.out.size _ (Nat.le_refl _))).mono ?_
      rintro e w5 ⟨rfl,⟨st5,h5,hris5⟩,fr5⟩
      have HRIS5:=hid hris5;clear hris5
      have H5:=hid h5;clear h5
      have FR5:=hid fr5;clear fr5
      go_wp2_with fail
      refine ⟨⟨j + 1,by congr 1;have:=HX.out;omega,by have:=HX.out;omega,⟨st5,H5.out,(HRIS.out.trans HRIS5.out).mono fun p hp=>by
        have:=HX.out
        by_cases e:p = x
        · exact .inr e
        · exact .inl (by omega)⟩,FR4.out.trans FR5.out⟩,?_⟩
      simp only [intOf]
      have:=HX.out
      omega
    · have hgt:(q1:Int) < ((q0 + j:Nat):Int):=by omega
      have hjj:j ≤ 4096:=by omega
      clear hlt
      go_wp2_with fail
      go_end0
      exact ⟨rfl,⟨st1,(H4.out.among fun _ _ e=>e.1).mono (by omega),HRIS.out.mono fun p hp=>by omega⟩,FR4.out.unless⟩

def wiped (M:Nat → Int) (a b:Nat):Nat → Int:=fun x=>if a ≤ x∧x < b then 0 else M x
theorem SA.del {Y:Rest} {S:Nat → Prop} {w w':World} {sb n k:Nat} {f:Nat → Option Nat} {M st:Nat → Int} {sm:Value} {B:Nat} {c l:Int} (h:SA Y S w sb n f k M st (.map (some B)) sm c l) {num:Nat} (hnum:num < 2 ^ 64) {ty:TypeId}
    (hd:(Builtin.delete_ #[98,29] ty #[.map (some B),.int .u64 (num:Int)]).run Tryz.prog w = .ok (.tuple #[]) w') :
    ∃ k',SA Y S w' sb n (put1 f num none) k' (wiped M (num * 4096) (num * 4096 + 4096)) st (.map (some B)) sm c l∧k' + (if (f num).isSome then 1 else 0) = k∧Fr S w w':=by
  rcases h.pages with ⟨h0,_⟩ | ⟨B',h0,hSB,hpm⟩
  · cases h0
  cases h0
  obtain ⟨⟨k',hp,hk⟩,ht⟩:=hpm.del_of hnum hd
  have hg:=ht.grown
  obtain ⟨_,es,q,hmap⟩:=h.pages.isMap rfl
  have other:∀ x o,w.heap[x]? = some o → x ≠ B → w'.heap[x]? = some o:=fun x o hx hne=>by
    rw [hg.block x (lt_at hx) (fun e=>hne (by injection e))];exact hx
  have hcell:∀ (x:Nat) (cs:Array Value) (t:TypeId) (fr:Nat × Nat),w.heap[x]? = some (.cells cs t fr) → w'.heap[x]? = some (.cells cs t fr):=fun x cs t fr hx =>
    other x _ hx (fun e=>by rw [e,hmap] at hx;cases hx)
  refine ⟨k',⟨hcell _ _ _ _ h.blk,h.own,h.lw,h.top,.inr ⟨B,rfl,hSB,hp⟩,?_,h.apart,fun p b hb=>?_,fun p q b hp hq=>?_,fun p o hp ho=>?_,fun p b hb=>?_⟩,hk,Fr.grown hg (fun x hx=>by cases hx;exact hSB)⟩
  · exact h.stamps.kept fun B1 hB1=>by
      obtain ⟨_,es1,q1,h2⟩:=h.stamps.isMap hB1
      rw [other _ _ h2 (fun e=>by subst e;exact h.apart _ rfl hB1),h2]
  · by_cases e:p = num
    · subst e;rw [put1_same] at hb;cases hb
    · rw [put1_other _ _ _ e] at hb
      refine ⟨(h.at_ p b hb).1,?_⟩
      rw [pageOf_other M _ p (fun o ho=>by simp only [wiped];rw [if_neg (by omega)])]
      exact hcell _ _ _ _ (h.at_ p b hb).2
  · by_cases e1:p = num
    · subst e1;rw [put1_same] at hp;cases hp
    · by_cases e2:q = num
      · subst e2;rw [put1_same] at hq;cases hq
      · rw [put1_other _ _ _ e1] at hp;rw [put1_other _ _ _ e2] at hq
        exact h.inj p q b hp hq
  · simp only [wiped]
    by_cases e:p = num
    · subst e;rw [if_pos (by omega)]
    · rw [if_neg (by omega)]
      rw [put1_other _ _ _ e] at hp;exact h.zero p o hp ho
  · by_cases e:p = num
    · subst e;rw [put1_same] at hb;cases hb
    · rw [put1_other _ _ _ e] at hb;exact h.lim p b hb
theorem wipe_none {Y:Rest} {S:Nat → Prop} {w:World} {sb n k:Nat} {f:Nat → Option Nat} {M st:Nat → Int} {pm sm:Value} {c l:Int} (h:SA Y S w sb n f k M st pm sm c l) (num:Nat) (hnum:num < 67108864) (A B:Int) (hA:0 ≤ A) (hA1:A ≤ (num:Int) * 4096) (hB1:(num:Int) * 4096 + 4096 ≤ B) (hB:B ≤ 274877906944) (hf:f num = none) :
    Calls Tryz.prog 116 #[.pointer (some ⟨sb,1,none⟩),.int .u64 (num:Int),span A B] w fun e w'=>e = .returned (.tuple #[])∧Bl w w':=by
  have h1:=h.bl (Bl.new w (box48 A B))
  have hlook:=h1.pages.look (show num < 2 ^ 64 by omega)
  rw [hf] at hlook
  simp only [ptrOf,Option.map_none] at hlook
  obtain ⟨c0,c1,c2,c3⟩:=h1.cell
  obtain ⟨d0,d1⟩:=two_cells (heap_alloc_new w (box48 A B))
  have hz:(0:Int) ≤ (num:Int):=by omega
  have hz1:(num:Int) ≤ 67108864:=by omega
  generalize (num:Int) = x at *
  have hmx:∀ W,(Builtin.max_ #[29,29] 29 #[.int .u64 A,.int .u64 (x * 4096)]).run Tryz.prog W = .ok (.int .u64 (x * 4096)) W:=fun W=>by
    rw [max_run];congr 2;split <;> omega
  have hmi:∀ W,(Builtin.min_ #[29,29] 29 #[.int .u64 B,.int .u64 (x * 4096 + 4096)]).run Tryz.prog W = .ok (.int .u64 (x * 4096 + 4096)) W:=fun W=>by
    rw [min_run];congr 2;split <;> omega
  clear h1 h
  (try unfold addr0 at *);(try unfold span at *);(try unfold box48 at *)
  go_enter Tryz.func116,Tryz.ntmps116
  go_wp2_with fail
  (try simp only [Exit.inBlock,Exit.then]);refine bodyPost_ret (results_none rfl _ _ _) rfl ?_
  exact ⟨rfl,(Bl.new _ _).alloc _⟩
theorem wipe_some {Y:Rest} {S:Nat → Prop} {w:World} {sb n k:Nat} {f:Nat → Option Nat} {M st:Nat → Int} {pb:Nat} {sm:Value} {c l:Int} (h:SA Y S w sb n f k M st (.map (some pb)) sm c l) (num b:Nat) (hnum:num < 67108864) (A B:Int) (hA:0 ≤ A) (hA1:A ≤ (num:Int) * 4096) (hB1:(num:Int) * 4096 + 4096 ≤ B) (hB:B ≤ 274877906944) (hf:f num = some b) :
    Calls Tryz.prog 116 #[.pointer (some ⟨sb,1,none⟩),.int .u64 (num:Int),span A B] w fun e w'=>e = .returned (.tuple #[])∧∃ w1,Bl w w1∧(Builtin.delete_ #[98,29] 0 #[.map (some pb),.int .u64 (num:Int)]).run Tryz.prog w1 = .ok (.tuple #[]) w':=by
  have h1:=h.bl (Bl.new w (box48 A B))
  have hlook:=h1.pages.look (show num < 2 ^ 64 by omega)
  rw [hf] at hlook
  simp only [ptrOf,Option.map_some] at hlook
  obtain ⟨c0,c1,c2,c3⟩:=h1.cell
  obtain ⟨d0,d1⟩:=two_cells (heap_alloc_new w (box48 A B))
  have hz:(0:Int) ≤ (num:Int):=by omega
  have hz1:(num:Int) ≤ 67108864:=by omega
  have H:=hid h;clear h1 h
  obtain ⟨x,hx⟩:∃ x:Int,x = (num:Int):=⟨_,rfl⟩
  rw [← hx] at hA1 hB1 hlook hz hz1 ⊢
  have HX:=hid hx;clear hx
  have hmx:∀ W,(Builtin.max_ #[29,29] 29 #[.int .u64 A,.int .u64 (x * 4096)]).run Tryz.prog W = .ok (.int .u64 (x * 4096)) W:=fun W=>by
    rw [max_run];congr 2;split <;> omega
  have hmi:∀ W,(Builtin.min_ #[29,29] 29 #[.int .u64 B,.int .u64 (x * 4096 + 4096)]).run Tryz.prog W = .ok (.int .u64 (x * 4096 + 4096)) W:=fun W=>by
    rw [min_run];congr 2;split <;> omega
  have ce:=fun W=>empty_any (x * 4096) (x * 4096 + 4096) W
  rw [decide_eq_false (by omega)] at ce
  have CE:=hid ce;clear ce
  (try unfold addr0 at *);(try unfold span at *);(try unfold box48 at *)
  go_enter Tryz.func116,Tryz.ntmps116
  go_wp2_with fail
  refine (CE.out _).mono ?_
  rintro e w3 ⟨rfl,bl3⟩
  have blw:=((Bl.new w (.cells #[.int .u64 A,.int .u64 B] 167)).alloc (.cells #[.int .u64 (x * 4096),.int .u64 (x * 4096 + 4096)] 167)).trans bl3
  have hp:=bl3.at_ (heap_alloc_new (w.alloc (.cells #[.int .u64 A,.int .u64 B] 167)) (.cells #[.int .u64 (x * 4096),.int .u64 (x * 4096 + 4096)] 167))
  rw [show (w.alloc (.cells #[.int .u64 A,.int .u64 B] 167)).heap.size = w.heap.size + 1 by simp] at hp
  have h3:=H.out.bl blw
  clear c0 c1 c2 c3 d0 d1 hlook hmx hmi bl3
  obtain ⟨d0,d1⟩:=two_cells hp
  obtain ⟨c0,c1,c2,c3⟩:=h3.cell
  obtain ⟨B',hB',_,hpm⟩:∃ B',Value.map (some pb) = .map (some B')∧S B'∧PM w3 B' n f k:=by
    rcases h3.pages with ⟨h0,_⟩ | h0
    · cases h0
    · exact h0
  cases hB'
  obtain ⟨w4,hdel⟩:=hpm.del_run (show num < 2 ^ 64 by omega) 0
  have HDEL:=hid hdel
  rw [← HX.out] at hdel
  have BLW:=hid blw
  clear blw hp h3 hpm
  go_wp2_with fail
  (try simp only [Exit.inBlock,Exit.then]);refine bodyPost_ret (results_none rfl _ _ _) rfl ?_
  refine ⟨rfl,w3,BLW.out,?_⟩
  rw [HX.out]
  exact HDEL.out
end Go.Proofs.YtlhpodholnfppaaGreatDoor

namespace Go.Proofs.YtlhpodholnfppaaGreatDoor
open Go.RowKit
set_option maxRecDepth 100000
theorem wipe_any {Y:Rest} {S:Nat → Prop} {w:World} {sb n k:Nat} {f:Nat → Option Nat} {M st:Nat → Int} (h:StoreAt Y S w sb n f k M st) (num:Nat) (hnum:num < 67108864) (A B:Int) (hA:0 ≤ A) (hA1:A ≤ (num:Int) * 4096) (hB1:(num:Int) * 4096 + 4096 ≤ B) (hB:B ≤ 274877906944) :
    Calls Tryz.prog 116 #[.pointer (some ⟨sb,1,none⟩),.int .u64 (num:Int),span A B] w fun e w'=>e = .returned (.tuple #[])∧(∃ k',StoreAt Y S w' sb n (put1 f num none) k' (wiped M (num * 4096) (num * 4096 + 4096)) st∧k' + (if (f num).isSome then 1 else 0) = k)∧Fr S w w':=by
  obtain ⟨pm,sm,c,l,h⟩:=h
  rcases hf:f num with _ | b
  · refine (wipe_none h num hnum A B hA hA1 hB1 hB hf).mono ?_
    rintro e w' ⟨rfl,bl⟩
    have e1:put1 f num none = f:=by
      funext p;by_cases e:p = num
      · subst e;rw [put1_same,hf]
      · rw [put1_other _ _ _ e]
    have e2:wiped M (num * 4096) (num * 4096 + 4096) = M:=by
      funext x;simp only [wiped]
      split
      · have:=h.zero num (x - num * 4096) hf (by omega)
        rw [show num * 4096 + (x - num * 4096) = x by omega] at this
        exact this.symm
      · rfl
    rw [e1,e2]
    exact ⟨rfl,⟨k,⟨_,_,_,_,h.bl bl⟩,by simp⟩,Fr.of_bl bl⟩
  · obtain ⟨pb,rfl⟩:∃ B,pm = .map (some B):=by
      rcases h.pages with ⟨_,h1,_⟩ | ⟨B,h0,_⟩
      · rw [h1 num] at hf;cases hf
      · exact ⟨B,h0⟩
    refine (wipe_some h num b hnum A B hA hA1 hB1 hB hf).mono ?_
    rintro e w' ⟨rfl,w1,bl,hd⟩
    obtain ⟨k',h1,h2,h3⟩:=(h.bl bl).del (show num < 2 ^ 64 by omega) hd
    rw [hf] at h2
    exact ⟨rfl,⟨k',⟨_,_,_,_,h1⟩,h2⟩,(Fr.of_bl bl).trans h3⟩
def hcnt (f:Nat → Option Nat) (a:Nat):Nat → Nat
  | 0=>0
  | m + 1=>hcnt f a m + (if (f (a + m)).isSome then 1 else 0)
def cut (f:Nat → Option Nat) (a m:Nat):Nat → Option Nat:=fun p=>if a ≤ p∧p < a + m then none else f p
theorem cut_step (f:Nat → Option Nat) (a m:Nat):put1 (cut f a m) (a + m) none = cut f a (m + 1):=by
  funext p
  by_cases e:p = a + m
  · subst e;rw [put1_same];simp only [cut];rw [if_pos (by omega)]
  · rw [put1_other _ _ _ e];simp only [cut]
    by_cases h:a ≤ p∧p < a + m
    · rw [if_pos h,if_pos (by omega)]
    · rw [if_neg h,if_neg (by omega)]
theorem wiped_step (M:Nat → Int) (a m:Nat):wiped (wiped M (a * 4096) ((a + m) * 4096)) ((a + m) * 4096) ((a + m) * 4096 + 4096) = wiped M (a * 4096) ((a + (m + 1)) * 4096):=by
  funext x
  simp only [wiped]
  by_cases h1:(a + m) * 4096 ≤ x∧x < (a + m) * 4096 + 4096
  · rw [if_pos h1,if_pos (by omega)]
  · rw [if_neg h1]
    by_cases h2:a * 4096 ≤ x∧x < (a + m) * 4096
    · rw [if_pos h2,if_pos (by omega)]
    · rw [if_neg h2,if_neg (by omega)]
end Go.Proofs.YtlhpodholnfppaaGreatDoor

namespace Go.Proofs.YtlhpodholnfppaaGreatDoor
open Go.RowKit
set_option maxRecDepth 100000
theorem clear_narrow {Y:Rest} {S:Nat → Prop} {w:World} {sb n k:Nat} {f:Nat → Option Nat} {M st:Nat → Int} (h:StoreAt Y S w sb n f k M st) (q0 q1:Nat) (h01:q0 ≤ q1) (hq1:q1 < 67108864) (hq:q1 < q0 + 4096) (hn:n < 80000000) (hS:∀ b,w.heap.size ≤ b → S b) :
    Calls Tryz.prog 67 #[.pointer (some ⟨sb,1,none⟩),.int .u64 ((q0 * 4096:Nat):Int),.int .u64 (((q1 + 1) * 4096:Nat):Int)] w fun e w'=>e = .returned (.tuple #[])∧(∃ k' st',StoreAt Y S w' sb (n + 8192) (cut f q0 (q1 + 1 - q0)) k' (wiped M (q0 * 4096) ((q1 + 1) * 4096)) st'∧k' + hcnt f q0 (q1 + 1 - q0) = k∧Rise st st' (fun p=>q0 ≤ p∧p ≤ q1))∧Fr S w w':=by
  obtain ⟨a,ha⟩:∃ a,a = q0 * 4096:=⟨_,rfl⟩
  obtain ⟨b,hb⟩:∃ b,b = (q1 + 1) * 4096:=⟨_,rfl⟩
  have cw:=fun W=>pwithin_in (a:Int) (b:Int) W (by omega)
  have ce:=fun W=>empty_any (a:Int) (b:Int) W
  rw [decide_eq_false (by omega)] at ce
  have cs:=fun (W:World) (hW:StoreAt Y (less S W.heap.size) (W.alloc (box48 a b)) sb n f k M st)=>hW
  have cwi:=fun W=>wide_i (a:Int) (b:Int) W (by omega) (by omega) (by omega)
  rw [decide_eq_false (by omega)] at cwi
  have cf:=fun W=>first_i (a:Int) (b:Int) W (by omega) (by omega)
  have cl:=fun W=>last_i (a:Int) (b:Int) W (by omega) (by omega)
  have e0:(a:Int) / 4096 = (q0:Int):=by omega
  have e1:((b:Int) - 1) / 4096 = (q1:Int):=by omega
  rw [e0] at cf
  rw [e1] at cl
  clear cs e0 e1
  have cst:=fun (W:World) (S':Nat → Prop) (hW:StoreAt Y S' W sb n f k M st) (hS':∀ b,W.heap.size ≤ b → S' b)=>stampAll_narrow hW a b (by omega) (by omega) (by omega) (by omega) hS'
  have cwp:=fun (W:World) (S':Nat → Prop) (k':Nat) (f':Nat → Option Nat) (M' st':Nat → Int) (hW:StoreAt Y S' W sb (n + 8192) f' k' M' st') (num:Nat) (h0:q0 ≤ num) (h1:num ≤ q1)=>wipe_any hW num (by omega) (a:Int) (b:Int) (by omega) (by omega) (by omega) (by omega)
  rw [← ha,← hb]
  have HA:=hid ha;clear ha
  have HB:=hid hb;clear hb
  have HH:=hid h;clear h
  have HS:=hid hS;clear hS
  have CW:=hid cw;clear cw
  have CE:=hid ce;clear ce
  have CWI:=hid cwi;clear cwi
  have CF:=hid cf;clear cf
  have CL:=hid cl;clear cl
  have CST:=hid cst;clear cst
  have CWP:=hid cwp;clear cwp
  generalize (a:Int) = A at *
  generalize (b:Int) = B at *
  (try unfold addr0 at *);(try unfold span at *)
  go_enter Tryz.func67,Tryz.ntmps67
  go_wp2_with fail
  refine (CW.out _).mono ?_
  rintro e w1 ⟨rfl,bl1⟩
  have h1:StoreAt Y (less S w1.heap.size) (w1.alloc (box48 A B)) sb n f k M st:=(HH.out.bl bl1).less _
  have hS1:∀ b,w1.heap.size ≤ b → S b:=fun b hb=>HS.out b (Nat.le_trans bl1.size hb)
  have fr1:Fr (less S w1.heap.size) (w1.alloc (box48 A B)) (w1.alloc (box48 A B)):=Fr.refl _ _
  have FR1:=hid fr1;clear fr1
  have H1:=hid h1;clear h1
  have HS1:=hid hS1;clear hS1
  have BL1:=hid bl1;clear bl1
  go_wp2_with fail
  refine (CE.out _).mono ?_
  rintro e w2 ⟨rfl,bl2⟩
  have fr2:=FR1.out.trans (Fr.of_bl bl2)
  have h2:=H1.out.bl bl2
  obtain ⟨c0,c1⟩:=two_cells (box_at fr2)
  have FR2:=hid fr2;clear fr2 FR1 bl2
  have H2:=hid h2;clear h2 H1
  go_wp2_with fail
  refine (CST.out _ _ H2.out (less_new HS1.out FR2.out.size)).mono ?_
  rintro e w3 ⟨rfl,⟨st',h3,hris⟩,fr3⟩
  have HRIS:=hid hris;clear hris
  have fr3':=FR2.out.trans fr3
  clear c0 c1
  obtain ⟨c0,c1⟩:=two_cells (box_at fr3')
  have FR3:=hid fr3';clear fr3' fr3 FR2
  have H3:=hid h3;clear h3 H2
  go_wp2_with fail
  refine (CWI.out _).mono ?_
  rintro e w4 ⟨rfl,bl4⟩
  have fr4:=FR3.out.trans (Fr.of_bl bl4)
  have h4:=H3.out.bl bl4
  clear c0 c1
  obtain ⟨c0,c1⟩:=two_cells (box_at fr4)
  have FR4:=hid fr4;clear fr4 FR3 bl4
  have H4:=hid h4;clear h4 H3
  go_wp2_with fail
  refine (CF.out _).mono ?_
  rintro e w5 ⟨rfl,bl5⟩
  have fr5:=FR4.out.trans (Fr.of_bl bl5)
  have h5:=H4.out.bl bl5
  clear c0 c1
  have FR5:=hid fr5;clear fr5 FR4 bl5
  have H5:=hid h5;clear h5 H4
  go_wp2_with fail
  go_loopw [8] (fun v wr=>∃ j k':Nat,v = .int .u64 ((q0 + j:Nat):Int)∧q0 + j ≤ q1 + 1∧StoreAt Y (less S w1.heap.size) wr sb (n + 8192) (cut f q0 j) k' (wiped M (q0 * 4096) ((q0 + j) * 4096)) st'∧k' + hcnt f q0 j = k∧Fr (less S w1.heap.size) (w1.alloc (box48 A B)) wr) (fun v _=>q1 + 1 - (intOf v).toNat)
  case atStart =>
    refine ⟨0,k,rfl,by omega,?_,rfl,FR5.out⟩
    have e1:cut f q0 0 = f:=by funext p;simp only [cut];rw [if_neg (by omega)]
    have e2:wiped M (q0 * 4096) ((q0 + 0) * 4096) = M:=by funext x;simp only [wiped];rw [if_neg (by omega)]
    rw [e1,e2];exact H5.out
  case round =>
    obtain ⟨j,k',rfl,hj,hst,hk,hfr⟩:=hrel
    clear H5 FR5
    obtain ⟨c0,c1⟩:=two_cells (box_at hfr)
    have HST:=hid hst;clear hst
    have HFR:=hid hfr;clear hfr
    have HK:=hid hk;clear hk
    go_wp2_with fail
    refine (CL.out _).mono ?_
    rintro e w6 ⟨rfl,bl6⟩
    have fr6:=HFR.out.trans (Fr.of_bl bl6)
    have h6:=HST.out.bl bl6
    clear c0 c1
    obtain ⟨c0,c1⟩:=two_cells (box_at fr6)
    have FR6:=hid fr6;clear fr6
    have H6:=hid h6;clear h6 bl6
    by_cases hlt:q0 + j ≤ q1
    · have hltI:((q0 + j:Nat):Int) ≤ (q1:Int):=by omega
      obtain ⟨x,hx⟩:∃ x,x = q0 + j:=⟨_,rfl⟩
      rw [← hx] at hltI ⊢
      have hxb:(x:Int) ≤ 67108864:=by omega
      have HX:=hid hx;clear hx
      go_wp2_with fail
      refine (CWP.out _ _ _ _ _ _ H6.out x (by have:=HX.out;omega) (by have:=HX.out;omega)).mono ?_
      rintro e w7 ⟨rfl,⟨k7,h7,hk7⟩,fr7⟩
      have H7:=hid h7;clear h7
      have FR7:=hid fr7;clear fr7
      have HK7:=hid hk7;clear hk7
      clear c0 c1
      go_wp2_with fail
      have hx:=HX.out
      refine ⟨⟨j + 1,k7,by congr 1;omega,by omega,?_,?_,FR6.out.trans FR7.out⟩,?_⟩
      · have h7:=H7.out
        rw [hx,cut_step,wiped_step] at h7
        exact h7
      · have h8:=HK7.out
        have h9:=HK.out
        rw [hx] at h8
        have e1:cut f q0 j (q0 + j) = f (q0 + j):=by simp only [cut];rw [if_neg (by omega)]
        rw [e1] at h8
        simp only [hcnt]
        omega
      · simp only [intOf]
        omega
    · have hgt:(q1:Int) < ((q0 + j:Nat):Int):=by omega
      have hjj:j = q1 + 1 - q0:=by omega
      have HJ:=hid hjj
      clear hlt hjj c0 c1
      go_wp2_with fail
      go_end0
      have hjj:=HJ.out
      refine ⟨rfl,⟨k',st',?_,by rw [← hjj];exact HK.out,HRIS.out.mono fun p hp=>by have:=HA.out;have:=HB.out;omega⟩,(Fr.of_bl BL1.out).trans FR6.out.unless⟩
      have h6:=H6.out.among (T:=S) (fun _ _ e=>e.1)
      rw [hjj] at h6
      rw [show q0 + (q1 + 1 - q0) = q1 + 1 by omega] at h6
      rw [HA.out,HB.out]
      exact h6
end Go.Proofs.YtlhpodholnfppaaGreatDoor

namespace Go.Proofs.YtlhpodholnfppaaGreatDoor
open Go.RowKit
set_option maxRecDepth 100000
def off (T:Nat → Prop) (v:Value):Nat → Prop:=fun b=>T b∧v.ownBlock ≠ some b
def spX (pm sm:Value) (c l mo ba en:Int):Ctx:=⟨[pm,sm,.int .u64 c,.int .u64 l,.int .i64 mo,.int .u64 ba,.int .u64 en],103,by decide⟩
structure MS (T:Nat → Prop) (w:World) (sb n:Nat) (L:List Rg) (M st:Nat → Int) (mo ba en:Int):Prop where
  ex:∃ rg f k,StoreAt ⟨rg,mo,ba,en⟩ (off T rg) w sb n f k M st∧Row w 0 rg L∧∀ g,rg.ownBlock = some g → T g
  rs:Rs L
  few:L.length ≤ 256
  by_:∀ x,0 ≤ M x∧M x ≤ 255
  mo_:0 ≤ mo∧mo ≤ 4096
  heap:0 ≤ ba∧ba ≤ 274877906944∧0 ≤ en∧en ≤ 274877906944
section
variable {T:Nat → Prop} {w w':World} {sb n:Nat} {L:List Rg} {M st:Nat → Int} {mo ba en:Int}
theorem MS.bl (h:MS T w sb n L M st mo ba en) (k:Bl w w'):MS T w' sb n L M st mo ba en:=by
  obtain ⟨rg,f,k0,h1,h2,h3⟩:=h.ex
  exact ⟨⟨rg,f,k0,h1.bl k,h2.bl k,h3⟩,h.rs,h.few,h.by_,h.mo_,h.heap⟩
theorem MS.so (h:MS T w sb n L M st mo ba en):So 0 274877906944 L:=h.rs.nm.so
theorem MS.own (h:MS T w sb n L M st mo ba en):T sb:=by
  obtain ⟨rg,f,k0,⟨pm,sm,c,l,h1⟩,h2,h3⟩:=h.ex
  exact h1.own.1
theorem MS.lt (h:MS T w sb n L M st mo ba en):sb < w.heap.size:=by
  obtain ⟨rg,f,k0,⟨pm,sm,c,l,h1⟩,h2,h3⟩:=h.ex
  exact h1.lt
theorem MS.mono (h:MS T w sb n L M st mo ba en) {m:Nat} (hn:n ≤ m):MS T w sb m L M st mo ba en:=by
  obtain ⟨rg,f,k0,h1,h2,h3⟩:=h.ex
  exact ⟨⟨rg,f,k0,h1.mono hn,h2,h3⟩,h.rs,h.few,h.by_,h.mo_,h.heap⟩
theorem MS.kept (h:MS T w sb n L M st mo ba en) {U:Nat → Prop} (hf:Fr U w w') (hd:∀ b,T b → ¬ U b):MS T w' sb n L M st mo ba en:=by
  obtain ⟨rg,f,k0,h1,h2,h3⟩:=h.ex
  exact ⟨⟨rg,f,k0,h1.kept hf (fun b e=>hd b e.1),h2.kept (fun g hg=>hf.block g (h2.lt g hg).2 (hd g (h3 g hg))),h3⟩,h.rs,h.few,h.by_,h.mo_,h.heap⟩
theorem MS.among (h:MS T w sb n L M st mo ba en) {U:Nat → Prop} (hs:∀ b,b < w.heap.size → T b → U b):MS U w sb n L M st mo ba en:=by
  obtain ⟨rg,f,k0,h1,h2,h3⟩:=h.ex
  exact ⟨⟨rg,f,k0,h1.among fun b hb e=>⟨hs b hb e.1,e.2⟩,h2,fun g hg=>hs g (h2.lt g hg).2 (h3 g hg)⟩,h.rs,h.few,h.by_,h.mo_,h.heap⟩
theorem MS.list (h:MS T w sb n L M st mo ba en):∃ X,ListAt X w sb L:=by
  obtain ⟨rg,f,k0,⟨pm,sm,c,l,h1⟩,h2,h3⟩:=h.ex
  exact ⟨spX pm sm c l mo ba en,rg,h1.blk,h2⟩
theorem MS.cells (h:MS T w sb n L M st mo ba en):w.cell? ⟨sb,5,none⟩ = some (.int .i64 mo)∧w.cell? ⟨sb,6,none⟩ = some (.int .u64 ba)∧w.cell? ⟨sb,7,none⟩ = some (.int .u64 en):=by
  obtain ⟨rg,f,k0,⟨pm,sm,c,l,h1⟩,h2,h3⟩:=h.ex
  have:=h1.blk
  refine ⟨?_,?_,?_⟩ <;> simp [World.cell?,this]
theorem MS.cell0 (h:MS T w sb n L M st mo ba en):∃ v,w.cell? ⟨sb,0,none⟩ = some v:=by
  obtain ⟨rg,f,k0,⟨pm,sm,c,l,h1⟩,h2,h3⟩:=h.ex
  have:=h1.blk
  exact ⟨rg,by simp [World.cell?,this]⟩
theorem MS.free (h:MS T w sb n L M st mo ba en) (i:Nat):w.frozen? ⟨sb,i,none⟩ = false:=by
  obtain ⟨rg,f,k0,⟨pm,sm,c,l,h1⟩,h2,h3⟩:=h.ex
  exact h1.free i
theorem off_new {T:Nat → Prop} {w:World} {rg:Value} {L:List Rg} {base:Nat} (hr:Row w base rg L) (hT:∀ b,w.heap.size ≤ b → T b):∀ b,w.heap.size ≤ b → off T rg b:=fun b hb=>⟨hT b hb,fun e=>by have:=(hr.lt b e).2;omega⟩
theorem SA.list {T:Nat → Prop} {w w':World} {sb n k:Nat} {f:Nat → Option Nat} {M st:Nat → Int} {pm sm:Value} {c l:Int} {rg v:Value} {mo ba en:Int} {L':List Rg} (h:SA ⟨rg,mo,ba,en⟩ (off T rg) w sb n f k M st pm sm c l) (hr:Row w' w.heap.size v L')
    (hb:w'.heap[sb]? = some (.cells #[v,pm,sm,.int .u64 c,.int .u64 l,.int .i64 mo,.int .u64 ba,.int .u64 en] 103 (0,0))) (hf:Fr (only sb) w w'):SA ⟨v,mo,ba,en⟩ (off T v) w' sb n f k M st pm sm c l:=by
  have h1:SA ⟨rg,mo,ba,en⟩ (off T v) w sb n f k M st pm sm c l:=h.among fun b hb hS=>⟨hS.1,fun e=>by have:=(hr.lt b e).1;omega⟩
  refine SA.cells (Y':=⟨v,mo,ba,en⟩) h1 (fun x hx hne=>hf.block x hx (fun e=>hne e)) hb h.lw h.top (h1.pages.kept fun B hB=>?_) (h1.stamps.kept fun B hB=>?_) h.apart
  · obtain ⟨_,es,q,h2⟩:=h1.pages.isMap hB
    rw [hf.at_ h2 (fun e=>by have:=h.blk;rw [← show B = sb from e,h2] at this;cases this),h2]
  · obtain ⟨_,es,q,h2⟩:=h1.stamps.isMap hB
    rw [hf.at_ h2 (fun e=>by have:=h.blk;rw [← show B = sb from e,h2] at this;cases this),h2]
theorem MS.laid (h:MS T w sb n L M st mo ba en) {X:Ctx} (hX:ListAt X w sb L) {L':List Rg} (hl:ListFrom X w.heap.size w' sb L') (hf:Fr (only sb) w w') (hrs:Rs L') (hfew:L'.length ≤ 256) (hT:∀ b,w.heap.size ≤ b → T b):MS T w' sb n L' M st mo ba en:=by
  obtain ⟨rg,f,k0,⟨pm,sm,c,l,h1⟩,h2,h3⟩:=h.ex
  obtain ⟨v0,b0,_⟩:=hX
  obtain ⟨v,b1,r1⟩:=hl
  rw [h1.blk] at b0
  injection b0 with b0
  injection b0 with b0 bt
  have e0:[rg,pm,sm,.int .u64 c,.int .u64 l,.int .i64 mo,.int .u64 ba,.int .u64 en] = v0 :: X.rest:=by simpa using congrArg Array.toList b0
  injection e0 with _ e0
  rw [← e0,← bt] at b1
  refine ⟨⟨v,f,k0,⟨pm,sm,c,l,h1.list r1 b1 hf⟩,r1.base_ (b2:=0) (fun g _=>Nat.zero_le g),fun g hg=>hT g (r1.lt g hg).1⟩,hrs,hfew,h.by_,h.mo_,h.heap⟩
theorem MS.stored (h:MS T w sb n L M st mo ba en) {rg:Value} (hr:Row w 0 rg L) (hg:∀ g,rg.ownBlock = some g → T g) {f:Nat → Option Nat} {k m:Nat} {M' st':Nat → Int} (hs:StoreAt ⟨rg,mo,ba,en⟩ (off T rg) w' sb m f k M' st') (hf:Fr (off T rg) w w') (hb:∀ x,0 ≤ M' x∧M' x ≤ 255):MS T w' sb m L M' st' mo ba en:=
  ⟨⟨rg,f,k,hs,hr.kept (fun g hg=>hf.block g (hr.lt g hg).2 (fun e=>e.2 hg)),hg⟩,h.rs,h.few,hb,h.mo_,h.heap⟩
theorem Fr.off_of {T:Nat → Prop} {v:Value} {w w':World} (h:Fr (off T v) w w'):Fr T w w':=h.mono fun _ _ e=>e.1
end
def gap (T:Nat → Prop) (lo hi:Nat):Nat → Prop:=fun b=>T b∧¬ (lo ≤ b∧b < hi)
theorem MS.gap {T:Nat → Prop} {w w':World} {sb n:Nat} {L:List Rg} {M st:Nat → Int} {mo ba en:Int} (h:MS T w sb n L M st mo ba en) (k:Bl w w') (lo hi:Nat) (hlo:w.heap.size ≤ lo):MS (gap T lo hi) w' sb n L M st mo ba en:=
  (h.among (U:=YtlhpodholnfppaaGreatDoor.gap T lo hi) fun b hb e=>⟨e,fun e2=>by omega⟩).bl k
theorem MS.ungap {T:Nat → Prop} {w:World} {sb n:Nat} {L:List Rg} {M st:Nat → Int} {mo ba en:Int} {lo hi:Nat} (h:MS (YtlhpodholnfppaaGreatDoor.gap T lo hi) w sb n L M st mo ba en):MS T w sb n L M st mo ba en:=h.among fun b _ e=>e.1
theorem gap_new {T:Nat → Prop} {w w':World} (hT:∀ b,w.heap.size ≤ b → T b) (lo:Nat) (k:w.heap.size ≤ w'.heap.size):∀ b,w'.heap.size ≤ b → gap T lo w'.heap.size b:=fun b hb=>⟨hT b (by omega),fun e=>by omega⟩
theorem Fr.ungap {T:Nat → Prop} {w w':World} {lo hi:Nat} (h:Fr (gap T lo hi) w w'):Fr T w w':=h.mono fun _ _ e=>e.1
theorem mnew_any (T:Nat → Prop) (m:Int) (w:World) (hT:T w.heap.size) (h0:0 ≤ m) (h1:m ≤ 4096):Calls Tryz.prog 22 #[.int .i64 m] w fun e w'=>e = .returned (addr0 w.heap.size)∧MS T w' w.heap.size 0 [] (fun _=>0) (fun _=>0) m 0 0∧Bl w w'∧w'.heap.size = w.heap.size + 1:=by
  have mx:∀ ts t W,(Builtin.max_ ts t #[.int .i64 m,.int .i64 0]).run Tryz.prog W = .ok (.int .i64 m) W:=fun ts t W=>by
    rw [max_run];congr 2;split <;> omega
  unfold addr0
  go_enter Tryz.func22,Tryz.ntmps22
  go_wp2
  go_ret
  refine ⟨rfl,⟨⟨.slice none 0 0,fun _=>none,0,⟨.map none,.map none,0,0,?_⟩,RowG.nil,fun g hg=>by cases hg⟩,Rs.nil,by simp,fun _=>by omega,⟨h0,h1⟩,by omega⟩,Bl.new _ _,by simp⟩
  exact ⟨heap_alloc_new w _,⟨hT,fun e=>by cases e⟩,by omega,fun _ _=>Int.le_refl _,.inl ⟨rfl,fun _=>rfl,rfl⟩,.inl ⟨rfl,fun _ _=>rfl⟩,fun B h=>(by cases h),fun p b h=>(by cases h),fun p q b h=>(by cases h),fun _ _ _ _=>rfl,fun p b h=>(by cases h)⟩
theorem misProt_yes (p:Int) (w:World) (h0:0 ≤ p) (h1:p ≤ 7):Calls Tryz.prog 40 #[.int .i64 p] w fun x w'=>x = .returned (.bool true)∧w = w':=by
  go_enter Tryz.func40,Tryz.ntmps40
  go_wp2
  go_ret
  exact ⟨rfl,rfl⟩
def upW (n:Int):Int:=IntKind.u64.wrap (n + 4095) / 4096 * 4096
theorem upW_in {n:Int} (h0:0 ≤ n) (h1:n ≤ 274877906944):upW n = (n + 4095) / 4096 * 4096:=by unfold upW;rw [IntWalk.u64_in _ (by omega)]
theorem mup_any (n:Int) (w:World):Calls Tryz.prog 41 #[.int .u64 n] w fun e w'=>e = .returned (.int .u64 (upW n))∧w = w':=by
  go_enter Tryz.func41,Tryz.ntmps41
  go_wp2
  go_ret
  have hw:=wrap_in (n + 4095)
  refine ⟨?_,rfl⟩
  show Ending.returned (.int .u64 (IntKind.u64.wrap (IntKind.u64.wrap (n + 4095) - (IntKind.u64.wrap (n + 4095)).tmod 4096))) = _
  unfold upW
  congr 2
  rw [Int.tmod_eq_emod_of_nonneg hw.1,IntWalk.u64_in _ (by omega)]
  omega
end Go.Proofs.YtlhpodholnfppaaGreatDoor
