/-
  Contract of the reference's pieces: an immediate by pairs of bits.
  Contracts of the reference: pieces by lists of its own, what is reckoned of registers of eight, moves.
  Plain facts: what the reference's lists of pieces give.
-/
import Derived.Test.YtbngjbmfkekdnaaGreatDoorT12
import Derived.Test.YtbngjbmfkekdnaaGreatDoorT15
import Derived.Deep.Cut
import Derived.Lib.Hide
set_option linter.unusedVariables false
set_option linter.unusedSimpArgs false
set_option maxHeartbeats 16000000
open Go.Lib (hid)
namespace Go.Proofs.YtbngjbmfkekdnaaGreatDoor.Td
open Go.RowKit
def acc (s:Nat) (ps:List (Nat × Nat)):Nat → Nat
  | 0=>0
  | j + 1=>acc s ps j * 2 ^ ((ps.getD j (0,0)).1 + 1 - (ps.getD j (0,0)).2) + pc s (ps.getD j (0,0)).2 ((ps.getD j (0,0)).1 + 1 - (ps.getD j (0,0)).2)
def bl (ps:List (Nat × Nat)):Nat → Nat
  | 0=>0
  | j + 1=>bl ps j + ((ps.getD j (0,0)).1 + 1 - (ps.getD j (0,0)).2)
theorem grow_lt {n m q a:Nat} (h:n < 2 ^ m) (ha:a < 2 ^ q):n * 2 ^ q + a < 2 ^ (m + q):=by
  have h1:(n + 1) * 2 ^ q ≤ 2 ^ m * 2 ^ q:=Nat.mul_le_mul_right _ h
  rw [Nat.pow_add]
  rw [Nat.add_mul] at h1
  omega
theorem acc_lt (s:Nat) (ps:List (Nat × Nat)):∀ j,acc s ps j < 2 ^ bl ps j
  | 0=>by simp [acc,bl]
  | j + 1=>grow_lt (acc_lt s ps j) (pc_lt _ _ _)
theorem bl_le (ps:List (Nat × Nat)):∀ j k,bl ps j ≤ bl ps (j + k)
  | j,0=>Nat.le_refl _
  | j,k + 1=>Nat.le_trans (bl_le ps j k) (Nat.le_add_right _ _)
theorem small16 {n m:Nat} (h:n < 2 ^ m) (hm:m ≤ 16):n < 65536:=Nat.lt_of_lt_of_le h (Nat.pow_le_pow_right (n:=2) (by decide) hm)
theorem pc_one (s a:Nat):pc s a 1 = s / 2 ^ a % 2:=by unfold pc;simp

def Pairs (w:World) (b:Nat) (ps:List (Nat × Nat)):Prop:=∀ j,j < ps.length → w.cell? ⟨b,2 * j,none⟩ = some (.int .i64 ((ps.getD j (0,0)).1:Nat))∧w.cell? ⟨b,2 * j + 1,none⟩ = some (.int .i64 ((ps.getD j (0,0)).2:Nat))
def Ranged (ps:List (Nat × Nat)):Prop:=∀ j,j < ps.length → (ps.getD j (0,0)).2 ≤ (ps.getD j (0,0)).1∧(ps.getD j (0,0)).1 ≤ 15

theorem pieces_any (s:Nat) (ps:List (Nat × Nat)) (z b len cap:Nat) (w:World) (hs:s < 65536) (hlen:2 * ps.length = len) (hz:z ≤ 12) (hl:len ≤ 100) (hbl:bl ps ps.length ≤ 16) (hP:Pairs w b ps) (hR:Ranged ps) :
    Calls Tryz.prog 90 #[.int .u16 s,.slice (some ⟨b,0,none⟩) len cap,.int .i64 z] w fun e w'=>e = .returned (.int .i64 ((acc s ps ps.length * 2 ^ z:Nat):Int))∧w = w':=by
  have HP:=hid hP;have HR:=hid hR;clear hP hR
  have HB:Hid (∀ j,j ≤ ps.length → bl ps j ≤ 16):=hid (fun j hj=>by
    have:=bl_le ps j (ps.length - j)
    rw [show j + (ps.length - j) = ps.length by omega] at this
    omega)
  have HF:=hid (fun (j:Nat) (w:World) (hj:j ≤ 31)=>F_any s j j w (by omega) (Nat.le_refl _) hj)
  clear hbl
  have HL:=hid hlen;clear hlen
  go_enter Tryz.func90,Tryz.ntmps90
  go_wp2
  go_loop [7,8] (fun n k=>∃ j:Nat,j ≤ ps.length∧k = .int .i64 ((2 * j:Nat):Int)∧n = .int .i64 ((acc s ps j:Nat):Int)) (fun n k=>200 - (intOf k).toNat)
  case atStart=>exact ⟨0,by omega,rfl,rfl⟩
  case round =>
    obtain ⟨j,hj,rfl,rfl⟩:=hrel
    by_cases hlt:j < ps.length
    · obtain ⟨c1,c2⟩:=HP.out j hlt
      obtain ⟨r1,r2⟩:=HR.out j hlt
      have HN:=hid (show acc s ps (j + 1) = acc s ps j * 2 ^ ((ps.getD j (0,0)).1 + 1 - (ps.getD j (0,0)).2) + pc s (ps.getD j (0,0)).2 ((ps.getD j (0,0)).1 + 1 - (ps.getD j (0,0)).2) from rfl)
      have hA:=acc_lt s ps j
      have hm:bl ps j + ((ps.getD j (0,0)).1 + 1 - (ps.getD j (0,0)).2) ≤ 16:=HB.out (j + 1) (by omega)
      generalize (ps.getD j (0,0)).1 = hi at *
      generalize (ps.getD j (0,0)).2 = lo at *
      generalize acc s ps j = A at *
      generalize bl ps j = m at *
      have HA:=hid hA;clear hA
      obtain ⟨K,hK⟩:∃ K:Nat,2 * j = K:=⟨_,rfl⟩
      rw [hK] at c1 c2 ⊢
      have hK1:(K:Int) + 1 < (len:Int):=by have:=HL.out;omega
      have HKK:=hid hK;clear hK
      go_wp2
      go_loop [7,9] (fun n c=>∃ i:Nat,i ≤ hi + 1 - lo∧c = .int .i64 ((hi:Int) - i)∧n = .int .i64 ((A * 2 ^ i + pc s (hi + 1 - i) i:Nat):Int)) (fun n c=>(intOf c + 1).toNat)
      case atStart=>exact ⟨0,by omega,by simp,by rw [pc_zero];simp⟩
      case round =>
        obtain ⟨i,hi',rfl,rfl⟩:=hrel
        by_cases hl2:i < hi + 1 - lo
        · obtain ⟨d,hd⟩:∃ d:Nat,d + i = hi:=⟨hi - i,by omega⟩
          have ed:(hi:Int) - (i:Int) = (d:Int):=by omega
          have ee:hi + 1 - i = d + 1:=by omega
          rw [ed,ee]
          have hb:A * 2 ^ i + pc s (d + 1) i < 65536:=small16 (grow_lt HA.out (pc_lt _ _ _)) (by omega)
          have hst:=hid (show (A * 2 ^ i + pc s (d + 1) i) * 2 + pc s d 1 = A * 2 ^ (i + 1) + pc s d (i + 1) by
            rw [← pc_step s d i,pc_one,Nat.pow_succ,← Nat.mul_assoc]
            generalize A * 2 ^ i = q
            generalize s / 2 ^ d % 2 = y
            generalize pc s (d + 1) i = x
            omega)
          have hF:=hid (fun w=>HF.out d w (by omega))
          rw [show d + 1 - d = 1 by omega] at hF
          have hp1:pc s d 1 < 2:=pc_lt s d 1
          have hlo:(lo:Int) ≤ (d:Int):=by omega
          have hd15:(d:Int) ≤ 15:=by omega
          have HD:=hid hd
          have HEE:=hid (show hi + 1 - (i + 1) = d by omega)
          clear ed ee hd
          generalize A * 2 ^ i + pc s (d + 1) i = p at *
          generalize pc s d 1 = g at *
          go_wp2_with fail
          refine (hF.out _).mono ?_
          rintro e w' ⟨rfl,rfl⟩
          go_wp2
          go_round
          case rel =>
            refine ⟨i + 1,by omega,?_,?_⟩
            · have:=HD.out;first | (congr 1;omega) | omega | (congr 1)
            · rw [HEE.out,← hst.out];go_num
          case measure=>simp [intOf] <;> omega
        · obtain rfl:i = hi + 1 - lo:=by omega
          have e1:(hi:Int) - ((hi + 1 - lo:Nat):Int) = (lo:Int) - 1:=by omega
          have e2:hi + 1 - (hi + 1 - lo) = lo:=by omega
          rw [e1,e2]
          clear e1 e2
          have hb:A * 2 ^ (hi + 1 - lo) + pc s lo (hi + 1 - lo) < 65536:=small16 (grow_lt HA.out (pc_lt _ _ _)) hm
          rw [← HN.out] at hb ⊢
          go_wp2
          go_round
          case rel=>exact ⟨j + 1,by omega,by have:=HKK.out;first | (congr 1;omega) | go_num,rfl⟩
          case measure=>have:=HL.out;have:=HKK.out;simp [intOf];omega
    · obtain rfl:j = ps.length:=by omega
      have hA:acc s ps ps.length < 65536:=small16 (acc_lt s ps _) (HB.out _ (Nat.le_refl _))
      obtain ⟨A,eA⟩:∃ A,acc s ps ps.length = A:=⟨_,rfl⟩
      rw [eA] at hA ⊢
      have EA:=hid eA;clear eA
      have e:=HL.out
      rw [e]
      have hlen1:(len:Int) ≤ (len:Int) + 1:=by omega
      clear e
      go_wp2
      go_loop [7,2] (fun n c=>∃ i:Nat,i ≤ z∧c = .int .i64 ((z - i:Nat):Int)∧n = .int .i64 ((A * 2 ^ i:Nat):Int)) (fun n c=>(intOf c).toNat)
      case atStart=>exact ⟨0,by omega,by simp,by simp⟩
      case round =>
        obtain ⟨i,hi',rfl,rfl⟩:=hrel
        have hp:A * 2 ^ i < 65536 * 4096:=Nat.mul_lt_mul_of_lt_of_le hA (Nat.pow_le_pow_right (n:=2) (by decide) (show i ≤ 12 by omega)) (by decide)
        by_cases hl2:i < z
        · obtain ⟨d,hd⟩:∃ d:Nat,z - i = d + 1:=⟨z - i - 1,by omega⟩
          rw [hd]
          have HD:=hid (show z - (i + 1) = d by omega)
          have hd12:(d:Int) ≤ 12:=by omega
          have hst:=hid (show A * 2 ^ i * 2 = A * 2 ^ (i + 1) by rw [Nat.pow_succ,Nat.mul_assoc])
          clear hd
          generalize A * 2 ^ i = p at *
          go_wp2
          go_round
          case rel =>
            refine ⟨i + 1,by omega,?_,?_⟩
            · rw [HD.out];try go_num
            · rw [← hst.out];go_num
          case measure=>simp [intOf] <;> omega
        · obtain rfl:i = z:=by omega
          rw [Nat.sub_self]
          go_wp2
          go_ret
          exact ⟨ret_int (by rw [EA.out]),rfl⟩
end Go.Proofs.YtbngjbmfkekdnaaGreatDoor.Td

namespace Go.Proofs.YtbngjbmfkekdnaaGreatDoor.Td
open Go.RowKit
def flat:List (Nat × Nat) → List Int
  | []=>[]
  | p :: r=>(p.1:Int) :: (p.2:Int) :: flat r
theorem flat_at:∀ (ps:List (Nat × Nat)) (j:Nat),j < ps.length → (flat ps)[2 * j]? = some ((ps.getD j (0,0)).1:Int)∧(flat ps)[2 * j + 1]? = some ((ps.getD j (0,0)).2:Int)
  | [],j,h=>by simp at h
  | p :: r,0,h=>by simp [flat]
  | p :: r,j + 1,h=>by
    have:=flat_at r j (by simpa using h)
    simpa [flat,Nat.mul_add] using this
theorem pieces_new (s:Nat) (ps:List (Nat × Nat)) (z v len:Nat) (w0 w1:World) (hw:w1 = w0.alloc (.cells ((flat ps).map (Value.int .i64)).toArray 3)) (hs:s < 65536) (hlen:2 * ps.length = len) (hz:z ≤ 12) (hl:len ≤ 100)
    (hbl:bl ps ps.length ≤ 16) (hR:∀ j,j < ps.length → (ps.getD j (0,0)).2 ≤ (ps.getD j (0,0)).1∧(ps.getD j (0,0)).1 ≤ 15) (hv:acc s ps ps.length * 2 ^ z = v) :
    Calls Tryz.prog 90 #[.int .u16 s,.slice (some ⟨w0.heap.size,0,none⟩) len len,.int .i64 z] w1 fun e w'=>e = .returned (.int .i64 (v:Int))∧w1 = w':=by
  subst hw
  rw [← hv]
  refine pieces_any s ps z _ len len _ hs hlen hz hl hbl (fun j hj=>?_) hR
  obtain ⟨h1,h2⟩:=flat_at ps j hj
  rw [(Has.new w0 _ 3).cell,(Has.new w0 _ 3).cell]
  exact ⟨by simp [h1],by simp [h2]⟩
theorem FrR.alloc {w w1:World} {cs:Array Value} (h:FrR w cs w1) (c:Array Value) (t:TypeId):FrR w cs (w1.alloc (.cells c t)):=
  ⟨h.kp.alloc _ _,h.res.alloc _,h.box.alloc _⟩
theorem FrR.two (w:World) (cs:Array Value):FrR w cs ((w.alloc (.cells (I7 0 0 0 0 0 0 0) 47)).alloc (.cells cs 47)):=
  ⟨((Kp.refl _ _).alloc _ _).alloc _ _,(Has.new _ _ _).alloc _,by have:=Has.new (w.alloc (.cells (I7 0 0 0 0 0 0 0) 47)) cs 47;simpa using this⟩
theorem F_at (s hi lo m:Nat) (w:World) (hs:s < 65536) (h1:lo ≤ hi) (h2:hi ≤ 15) (hm:hi + 1 - lo = m):Calls Tryz.prog 85 #[.int .u32 s,.int .i64 hi,.int .i64 lo] w fun e w'=>e = .returned (.int .i64 ((pc s lo m:Nat):Int))∧w = w':=by
  rw [← hm];exact F_any s hi lo w (by omega) h1 (by omega)
theorem one_fresh (zs:List Int) (k:Nat) (w0 w1:World) (hw:w1 = w0.alloc (.cells (zs.map (Value.int .i64)).toArray 3)) (hl:zs.length ≤ 100) :
    Calls Tryz.prog 87 #[.slice (some ⟨w0.heap.size,0,none⟩) zs.length zs.length,.int .i64 k] w1 fun e w'=>e = .returned (.int .i64 (zs.getD k 0))∧w1 = w':=by
  subst hw
  refine one_any _ zs zs.length zs.length k _ rfl hl (fun i hi=>?_)
  rw [(Has.new w0 _ 3).cell i]
  simp [List.getElem?_eq_getElem hi]

theorem moves_none (rd r2:Nat) (w:World) (hr:rd = 0) (h2:r2 = 0):Calls Tryz.prog 92 #[.int .i64 0,.int .i64 0,.int .i64 0] w fun e w'=>e = .returned (.agg (I7 0 0 0 0 0 0 0))∧Kp none w w':=by
  have k:=(Kp.refl none w).alloc (I7 0 0 0 0 0 0 0) 47
  go_enter Tryz.func92,Tryz.ntmps92
  go_wp2
  (try simp only [Exit.inBlock,Exit.then])
  refine bodyPost_ret (results_cell_row rfl _ _ w.heap.size 47 _ (0,0) _ rfl (Has.new w _ 47) Tryz.underlying47 rfl (by kernel_rfl)) rfl ⟨rfl,?_⟩
  exact (Kp.refl none w).alloc _ _

theorem moves_jr (rd r2:Nat) (w:World) (h2:r2 = 0) (hrd:((rd:Int) == 0) = false):Calls Tryz.prog 92 #[.int .i64 0,.int .i64 (rd:Int),.int .i64 0] w fun e w'=>e = .returned (.agg (I7 4 0 (rd:Int) 0 0 0 0))∧Kp none w w':=by
  have k:=(Kp.refl none w).alloc (I7 0 0 0 0 0 0 0) 47
  go_enter Tryz.func92,Tryz.ntmps92
  go_wp2
  (try simp only [Exit.inBlock,Exit.then])
  refine bodyPost_ret (results_cell_row rfl _ _ w.heap.size 47 _ (0,0) _ rfl (Has.new w _ 47) Tryz.underlying47 rfl (by kernel_rfl)) rfl ⟨rfl,?_⟩
  exact (Kp.refl none w).alloc _ _

theorem moves_mv (rd r2:Nat) (w:World) (hr2:((r2:Int) == 0) = false):Calls Tryz.prog 92 #[.int .i64 0,.int .i64 (rd:Int),.int .i64 (r2:Int)] w fun e w'=>e = .returned (.agg (I7 31 (rd:Int) 0 (r2:Int) 0 0 0))∧Kp none w w':=by
  have k:=(Kp.refl none w).alloc (I7 0 0 0 0 0 0 0) 47
  go_enter Tryz.func92,Tryz.ntmps92
  go_wp2
  (try simp only [Exit.inBlock,Exit.then])
  refine bodyPost_ret (results_cell_row rfl _ _ w.heap.size 47 _ (0,0) _ rfl (Has.new w _ 47) Tryz.underlying47 rfl (by kernel_rfl)) rfl ⟨rfl,?_⟩
  exact (Kp.refl none w).alloc _ _

theorem moves_break (rd r2:Nat) (w:World) (hr:rd = 0) (h2:r2 = 0):Calls Tryz.prog 92 #[.int .i64 1,.int .i64 0,.int .i64 0] w fun e w'=>e = .returned (.agg (I7 88 0 0 0 0 0 0))∧Kp none w w':=by
  have k:=(Kp.refl none w).alloc (I7 0 0 0 0 0 0 0) 47
  go_enter Tryz.func92,Tryz.ntmps92
  go_wp2
  (try simp only [Exit.inBlock,Exit.then])
  refine bodyPost_ret (results_cell_row rfl _ _ w.heap.size 47 _ (0,0) _ rfl (Has.new w _ 47) Tryz.underlying47 rfl (by kernel_rfl)) rfl ⟨rfl,?_⟩
  exact (Kp.refl none w).alloc _ _

theorem moves_jalr (rd r2:Nat) (w:World) (h2:r2 = 0) (hrd:((rd:Int) == 0) = false):Calls Tryz.prog 92 #[.int .i64 1,.int .i64 (rd:Int),.int .i64 0] w fun e w'=>e = .returned (.agg (I7 4 1 (rd:Int) 0 0 0 0))∧Kp none w w':=by
  have k:=(Kp.refl none w).alloc (I7 0 0 0 0 0 0 0) 47
  go_enter Tryz.func92,Tryz.ntmps92
  go_wp2
  (try simp only [Exit.inBlock,Exit.then])
  refine bodyPost_ret (results_cell_row rfl _ _ w.heap.size 47 _ (0,0) _ rfl (Has.new w _ 47) Tryz.underlying47 rfl (by kernel_rfl)) rfl ⟨rfl,?_⟩
  exact (Kp.refl none w).alloc _ _

theorem moves_addn (rd r2:Nat) (w:World) (hrd:((rd:Int) == 0) = false) (hr2:((r2:Int) == 0) = false):Calls Tryz.prog 92 #[.int .i64 1,.int .i64 (rd:Int),.int .i64 (r2:Int)] w fun e w'=>e = .returned (.agg (I7 31 (rd:Int) (rd:Int) (r2:Int) 0 0 0))∧Kp none w w':=by
  have k:=(Kp.refl none w).alloc (I7 0 0 0 0 0 0 0) 47
  go_enter Tryz.func92,Tryz.ntmps92
  go_wp2
  (try simp only [Exit.inBlock,Exit.then])
  refine bodyPost_ret (results_cell_row rfl _ _ w.heap.size 47 _ (0,0) _ rfl (Has.new w _ 47) Tryz.underlying47 rfl (by kernel_rfl)) rfl ⟨rfl,?_⟩
  exact (Kp.refl none w).alloc _ _

theorem moves_addz (rd r2:Nat) (w:World) (hr:rd = 0) (hr2:((r2:Int) == 0) = false):Calls Tryz.prog 92 #[.int .i64 1,.int .i64 0,.int .i64 (r2:Int)] w fun e w'=>e = .returned (.agg (I7 31 0 0 (r2:Int) 0 0 0))∧Kp none w w':=by
  have k:=(Kp.refl none w).alloc (I7 0 0 0 0 0 0 0) 47
  go_enter Tryz.func92,Tryz.ntmps92
  go_wp2
  (try simp only [Exit.inBlock,Exit.then])
  refine bodyPost_ret (results_cell_row rfl _ _ w.heap.size 47 _ (0,0) _ rfl (Has.new w _ 47) Tryz.underlying47 rfl (by kernel_rfl)) rfl ⟨rfl,?_⟩
  exact (Kp.refl none w).alloc _ _

theorem moves_add (rd r2:Nat) (w:World) (hr2:((r2:Int) == 0) = false):Calls Tryz.prog 92 #[.int .i64 1,.int .i64 (rd:Int),.int .i64 (r2:Int)] w fun e w'=>e = .returned (.agg (I7 31 (rd:Int) (rd:Int) (r2:Int) 0 0 0))∧Kp none w w':=by
  by_cases h:rd = 0
  · subst h;exact moves_addz 0 r2 w rfl hr2
  · exact moves_addn rd r2 w (ne0 h) hr2

theorem eight_srli (s x:Nat) (a b:Int) (w:World) (hs:s < 65536) (hx:x < 64) (hj:pc s 10 2 = 0):Calls Tryz.prog 91 #[.int .u16 s,.int .i64 a,.int .i64 b,.int .i64 (x:Int)] w fun e w'=>e = .returned (.agg (I7 29 a a 0 (x:Int) 0 0))∧Kp none w w':=by
  have CF:=hid (fun w=>F_at s 11 10 2 w hs (by decide) (by decide) rfl)
  rw [hj] at CF
  have CS:=hid (fun w=>S_any (x:Int) 6 w (by decide) (by decide) (by omega) (by omega))
  have k:=(Kp.refl none w).alloc (I7 0 0 0 0 0 0 0) 47
  clear hj
  generalize low (x:Int) 6 = d at *
  go_enter Tryz.func91,Tryz.ntmps91
  go_wp2_with fail
  refine (CF.out _).mono ?_
  rintro e w1 ⟨rfl,rfl⟩
  go_wp2
  skip
  (try simp only [Exit.inBlock,Exit.then])
  refine bodyPost_ret (results_cell_row rfl _ _ w.heap.size 47 _ (0,0) _ rfl (Has.new w _ 47) Tryz.underlying47 rfl (by kernel_rfl)) rfl ⟨rfl,?_⟩
  exact (Kp.refl none w).alloc _ _

theorem eight_srai (s x:Nat) (a b:Int) (w:World) (hs:s < 65536) (hx:x < 64) (hj:pc s 10 2 = 1):Calls Tryz.prog 91 #[.int .u16 s,.int .i64 a,.int .i64 b,.int .i64 (x:Int)] w fun e w'=>e = .returned (.agg (I7 30 a a 0 (x:Int) 0 0))∧Kp none w w':=by
  have CF:=hid (fun w=>F_at s 11 10 2 w hs (by decide) (by decide) rfl)
  rw [hj] at CF
  have CS:=hid (fun w=>S_any (x:Int) 6 w (by decide) (by decide) (by omega) (by omega))
  have k:=(Kp.refl none w).alloc (I7 0 0 0 0 0 0 0) 47
  clear hj
  generalize low (x:Int) 6 = d at *
  go_enter Tryz.func91,Tryz.ntmps91
  go_wp2_with fail
  refine (CF.out _).mono ?_
  rintro e w1 ⟨rfl,rfl⟩
  go_wp2
  skip
  (try simp only [Exit.inBlock,Exit.then])
  refine bodyPost_ret (results_cell_row rfl _ _ w.heap.size 47 _ (0,0) _ rfl (Has.new w _ 47) Tryz.underlying47 rfl (by kernel_rfl)) rfl ⟨rfl,?_⟩
  exact (Kp.refl none w).alloc _ _

theorem eight_andi (s x:Nat) (a b:Int) (w:World) (hs:s < 65536) (hx:x < 64) (hj:pc s 10 2 = 2):Calls Tryz.prog 91 #[.int .u16 s,.int .i64 a,.int .i64 b,.int .i64 (x:Int)] w fun e w'=>e = .returned (.agg (I7 27 a a 0 (low (x:Int) 6) 0 0))∧Kp none w w':=by
  have CF:=hid (fun w=>F_at s 11 10 2 w hs (by decide) (by decide) rfl)
  rw [hj] at CF
  have CS:=hid (fun w=>S_any (x:Int) 6 w (by decide) (by decide) (by omega) (by omega))
  have k:=(Kp.refl none w).alloc (I7 0 0 0 0 0 0 0) 47
  clear hj
  generalize low (x:Int) 6 = d at *
  go_enter Tryz.func91,Tryz.ntmps91
  go_wp2_with fail
  refine (CF.out _).mono ?_
  rintro e w1 ⟨rfl,rfl⟩
  go_wp2_with fail
  refine (CS.out _).mono ?_
  rintro e w2 ⟨rfl,rfl⟩
  go_wp2
  (try simp only [Exit.inBlock,Exit.then])
  refine bodyPost_ret (results_cell_row rfl _ _ w.heap.size 47 _ (0,0) _ rfl (Has.new w _ 47) Tryz.underlying47 rfl (by kernel_rfl)) rfl ⟨rfl,?_⟩
  exact (Kp.refl none w).alloc _ _

theorem eight_none (s x:Nat) (a b ro:Int) (w:World) (hs:s < 65536) (hj:pc s 10 2 = 3) (hro:recT.getD (reckN s) 0 = ro) (ho:ro = 0):Calls Tryz.prog 91 #[.int .u16 s,.int .i64 a,.int .i64 b,.int .i64 (x:Int)] w fun e w'=>e = .returned (.agg (I7 0 0 0 0 0 0 0))∧Kp none w w':=by
  have CF:=hid (fun w=>F_at s 11 10 2 w hs (by decide) (by decide) rfl)
  rw [hj] at CF
  have CA:=hid (fun w=>F_at s 12 12 1 w hs (by decide) (by decide) rfl)
  have CB:=hid (fun w=>F_at s 6 5 2 w hs (by decide) (by decide) rfl)
  have hv:reckN s < 8:=by
    have h1:pc s 12 1 < 2:=pc_lt s 12 1
    have h2:pc s 5 2 < 4:=pc_lt s 5 2
    unfold reckN;omega
  have hA:pc s 12 1 < 2:=pc_lt s 12 1
  have hB:pc s 5 2 < 4:=pc_lt s 5 2
  have hE:reckN s = pc s 12 1 * 4 + pc s 5 2:=by unfold reckN;omega
  have heq:∀ n,n < 8 → ([32,36,39,40,46,45]:List Int).getD n 0 = recT.getD n 0:=by decide
  have CO:=hid (fun w0 w1 hw=>one_fresh [32,36,39,40,46,45] (reckN s) w0 w1 hw (by decide))
  rw [heq _ hv,hro,hE] at CO
  subst ho
  clear hj hv hE heq hro
  generalize pc s 12 1 = u at *
  generalize pc s 5 2 = v at *
  have k:=(Kp.refl none w).alloc (I7 0 0 0 0 0 0 0) 47
  have b0:=Has.new w (I7 0 0 0 0 0 0 0) 47
  go_enter Tryz.func91,Tryz.ntmps91
  go_wp2_with fail
  refine (CF.out _).mono ?_
  rintro e w1 ⟨rfl,rfl⟩
  generalize w.alloc (.cells (I7 0 0 0 0 0 0 0) 47) = w1 at k b0 ⊢
  go_wp2_with fail
  refine (CA.out _).mono ?_
  rintro e w2 ⟨rfl,rfl⟩
  go_wp2_with fail
  refine (CB.out _).mono ?_
  rintro e w3 ⟨rfl,rfl⟩
  go_wp2_with fail
  refine (CO.out w1 _ (by rfl)).mono ?_
  rintro e w4 ⟨rfl,rfl⟩
  have k2:=k.alloc #[.int .i64 32,.int .i64 36,.int .i64 39,.int .i64 40,.int .i64 46,.int .i64 45] 3
  have b2:=b0.alloc (.cells #[.int .i64 32,.int .i64 36,.int .i64 39,.int .i64 40,.int .i64 46,.int .i64 45] 3)
  generalize w1.alloc (.cells #[.int .i64 32,.int .i64 36,.int .i64 39,.int .i64 40,.int .i64 46,.int .i64 45] 3) = w5 at k2 b2 ⊢
  obtain ⟨q0,q1,q2,q3,q4,q5,q6⟩:=b2.seven
  have y:=b2.free
  go_wp2
  (try simp only [Exit.inBlock,Exit.then])
  refine bodyPost_ret (results_cell_row rfl _ _ w.heap.size 47 _ (0,0) _ rfl (b2.seven_set _ _ _ _ _ _ _) Tryz.underlying47 rfl (by kernel_rfl)) rfl ⟨rfl,?_⟩
  exact k2.seven_set (Nat.le_refl _) _ _ _ _ _ _ _

theorem eight_two (s x:Nat) (a b ro:Int) (w:World) (hs:s < 65536) (hj:pc s 10 2 = 3) (hro:recT.getD (reckN s) 0 = ro) (ho:(ro == 0) = false):Calls Tryz.prog 91 #[.int .u16 s,.int .i64 a,.int .i64 b,.int .i64 (x:Int)] w fun e w'=>e = .returned (.agg (I7 ro a a b 0 0 0))∧Kp none w w':=by
  have CF:=hid (fun w=>F_at s 11 10 2 w hs (by decide) (by decide) rfl)
  rw [hj] at CF
  have CA:=hid (fun w=>F_at s 12 12 1 w hs (by decide) (by decide) rfl)
  have CB:=hid (fun w=>F_at s 6 5 2 w hs (by decide) (by decide) rfl)
  have hv:reckN s < 8:=by
    have h1:pc s 12 1 < 2:=pc_lt s 12 1
    have h2:pc s 5 2 < 4:=pc_lt s 5 2
    unfold reckN;omega
  have hA:pc s 12 1 < 2:=pc_lt s 12 1
  have hB:pc s 5 2 < 4:=pc_lt s 5 2
  have hE:reckN s = pc s 12 1 * 4 + pc s 5 2:=by unfold reckN;omega
  have heq:∀ n,n < 8 → ([32,36,39,40,46,45]:List Int).getD n 0 = recT.getD n 0:=by decide
  have CO:=hid (fun w0 w1 hw=>one_fresh [32,36,39,40,46,45] (reckN s) w0 w1 hw (by decide))
  rw [heq _ hv,hro,hE] at CO
  skip
  clear hj hv hE heq hro
  generalize pc s 12 1 = u at *
  generalize pc s 5 2 = v at *
  have k:=(Kp.refl none w).alloc (I7 0 0 0 0 0 0 0) 47
  have b0:=Has.new w (I7 0 0 0 0 0 0 0) 47
  go_enter Tryz.func91,Tryz.ntmps91
  go_wp2_with fail
  refine (CF.out _).mono ?_
  rintro e w1 ⟨rfl,rfl⟩
  generalize w.alloc (.cells (I7 0 0 0 0 0 0 0) 47) = w1 at k b0 ⊢
  go_wp2_with fail
  refine (CA.out _).mono ?_
  rintro e w2 ⟨rfl,rfl⟩
  go_wp2_with fail
  refine (CB.out _).mono ?_
  rintro e w3 ⟨rfl,rfl⟩
  go_wp2_with fail
  refine (CO.out w1 _ (by rfl)).mono ?_
  rintro e w4 ⟨rfl,rfl⟩
  have k2:=k.alloc #[.int .i64 32,.int .i64 36,.int .i64 39,.int .i64 40,.int .i64 46,.int .i64 45] 3
  have b2:=b0.alloc (.cells #[.int .i64 32,.int .i64 36,.int .i64 39,.int .i64 40,.int .i64 46,.int .i64 45] 3)
  generalize w1.alloc (.cells #[.int .i64 32,.int .i64 36,.int .i64 39,.int .i64 40,.int .i64 46,.int .i64 45] 3) = w5 at k2 b2 ⊢
  obtain ⟨q0,q1,q2,q3,q4,q5,q6⟩:=b2.seven
  have y:=b2.free
  go_wp2
  (try simp only [Exit.inBlock,Exit.then])
  refine bodyPost_ret (results_cell_row rfl _ _ w.heap.size 47 _ (0,0) _ rfl (b2.seven_set _ _ _ _ _ _ _) Tryz.underlying47 rfl (by kernel_rfl)) rfl ⟨rfl,?_⟩
  exact k2.seven_set (Nat.le_refl _) _ _ _ _ _ _ _

end Go.Proofs.YtbngjbmfkekdnaaGreatDoor.Td

namespace Go.Proofs.YtbngjbmfkekdnaaGreatDoor.Td
open Go.RowKit
theorem acc_six (s:Nat):acc s [(12,12),(6,2)] 2 * 2 ^ 0 = shiftN s:=by
  show ((0 * 2 ^ 1 + pc s 12 1) * 2 ^ 5 + pc s 2 5) * 2 ^ 0 = shiftN s
  unfold shiftN
  simp only [Nat.reducePow]
  omega
theorem six_lt (s:Nat):shiftN s < 64:=by
  have h0:pc s 12 1 < 2:=pc_lt s 12 1
  have h1:pc s 2 5 < 32:=pc_lt s 2 5
  unfold shiftN
  omega
theorem pieces_six (s:Nat) (w0 w1:World) (hw:w1 = w0.alloc (.cells #[.int .i64 12,.int .i64 12,.int .i64 6,.int .i64 2] 3)) (hs:s < 65536) :
    Calls Tryz.prog 90 #[.int .u16 s,.slice (some ⟨w0.heap.size,0,none⟩) 4 4,.int .i64 0] w1 fun e w'=>e = .returned (.int .i64 ((shiftN s:Nat):Int))∧w1 = w':=
  pieces_new s [(12,12),(6,2)] 0 (shiftN s) 4 w0 w1 hw hs rfl (by decide) (by decide) (by decide) (by decide) (acc_six s)
theorem acc_words (s:Nat):acc s [(5,5),(12,10),(6,6)] 3 * 2 ^ 2 = wordsN s:=by
  show (((0 * 2 ^ 1 + pc s 5 1) * 2 ^ 3 + pc s 10 3) * 2 ^ 1 + pc s 6 1) * 2 ^ 2 = wordsN s
  unfold wordsN
  simp only [Nat.reducePow]
  omega
theorem words_lt (s:Nat):wordsN s < 128:=by
  have h0:pc s 5 1 < 2:=pc_lt s 5 1
  have h1:pc s 10 3 < 8:=pc_lt s 10 3
  have h2:pc s 6 1 < 2:=pc_lt s 6 1
  unfold wordsN
  omega
theorem pieces_words (s:Nat) (w0 w1:World) (hw:w1 = w0.alloc (.cells #[.int .i64 5,.int .i64 5,.int .i64 12,.int .i64 10,.int .i64 6,.int .i64 6] 3)) (hs:s < 65536) :
    Calls Tryz.prog 90 #[.int .u16 s,.slice (some ⟨w0.heap.size,0,none⟩) 6 6,.int .i64 2] w1 fun e w'=>e = .returned (.int .i64 ((wordsN s:Nat):Int))∧w1 = w':=
  pieces_new s [(5,5),(12,10),(6,6)] 2 (wordsN s) 6 w0 w1 hw hs rfl (by decide) (by decide) (by decide) (by decide) (acc_words s)
theorem acc_doubles (s:Nat):acc s [(6,5),(12,10)] 2 * 2 ^ 3 = doublesN s:=by
  show ((0 * 2 ^ 2 + pc s 5 2) * 2 ^ 3 + pc s 10 3) * 2 ^ 3 = doublesN s
  unfold doublesN
  simp only [Nat.reducePow]
  omega
theorem doubles_lt (s:Nat):doublesN s < 256:=by
  have h0:pc s 5 2 < 4:=pc_lt s 5 2
  have h1:pc s 10 3 < 8:=pc_lt s 10 3
  unfold doublesN
  omega
theorem pieces_doubles (s:Nat) (w0 w1:World) (hw:w1 = w0.alloc (.cells #[.int .i64 6,.int .i64 5,.int .i64 12,.int .i64 10] 3)) (hs:s < 65536) :
    Calls Tryz.prog 90 #[.int .u16 s,.slice (some ⟨w0.heap.size,0,none⟩) 4 4,.int .i64 3] w1 fun e w'=>e = .returned (.int .i64 ((doublesN s:Nat):Int))∧w1 = w':=
  pieces_new s [(6,5),(12,10)] 3 (doublesN s) 4 w0 w1 hw hs rfl (by decide) (by decide) (by decide) (by decide) (acc_doubles s)
theorem acc_branch (s:Nat):acc s [(12,12),(6,5),(2,2),(11,10),(4,3)] 5 * 2 ^ 1 = branchN s:=by
  show (((((0 * 2 ^ 1 + pc s 12 1) * 2 ^ 2 + pc s 5 2) * 2 ^ 1 + pc s 2 1) * 2 ^ 2 + pc s 10 2) * 2 ^ 2 + pc s 3 2) * 2 ^ 1 = branchN s
  unfold branchN
  simp only [Nat.reducePow]
  omega
theorem branch_lt (s:Nat):branchN s < 512:=by
  have h0:pc s 12 1 < 2:=pc_lt s 12 1
  have h1:pc s 5 2 < 4:=pc_lt s 5 2
  have h2:pc s 2 1 < 2:=pc_lt s 2 1
  have h3:pc s 10 2 < 4:=pc_lt s 10 2
  have h4:pc s 3 2 < 4:=pc_lt s 3 2
  unfold branchN
  omega
theorem pieces_branch (s:Nat) (w0 w1:World) (hw:w1 = w0.alloc (.cells #[.int .i64 12,.int .i64 12,.int .i64 6,.int .i64 5,.int .i64 2,.int .i64 2,.int .i64 11,.int .i64 10,.int .i64 4,.int .i64 3] 3)) (hs:s < 65536) :
    Calls Tryz.prog 90 #[.int .u16 s,.slice (some ⟨w0.heap.size,0,none⟩) 10 10,.int .i64 1] w1 fun e w'=>e = .returned (.int .i64 ((branchN s:Nat):Int))∧w1 = w':=
  pieces_new s [(12,12),(6,5),(2,2),(11,10),(4,3)] 1 (branchN s) 10 w0 w1 hw hs rfl (by decide) (by decide) (by decide) (by decide) (acc_branch s)
theorem acc_frame (s:Nat):acc s [(10,7),(12,11),(5,5),(6,6)] 4 * 2 ^ 2 = frameN s:=by
  show ((((0 * 2 ^ 4 + pc s 7 4) * 2 ^ 2 + pc s 11 2) * 2 ^ 1 + pc s 5 1) * 2 ^ 1 + pc s 6 1) * 2 ^ 2 = frameN s
  unfold frameN
  simp only [Nat.reducePow]
  omega
theorem frame_lt (s:Nat):frameN s < 1024:=by
  have h0:pc s 7 4 < 16:=pc_lt s 7 4
  have h1:pc s 11 2 < 4:=pc_lt s 11 2
  have h2:pc s 5 1 < 2:=pc_lt s 5 1
  have h3:pc s 6 1 < 2:=pc_lt s 6 1
  unfold frameN
  omega
theorem pieces_frame (s:Nat) (w0 w1:World) (hw:w1 = w0.alloc (.cells #[.int .i64 10,.int .i64 7,.int .i64 12,.int .i64 11,.int .i64 5,.int .i64 5,.int .i64 6,.int .i64 6] 3)) (hs:s < 65536) :
    Calls Tryz.prog 90 #[.int .u16 s,.slice (some ⟨w0.heap.size,0,none⟩) 8 8,.int .i64 2] w1 fun e w'=>e = .returned (.int .i64 ((frameN s:Nat):Int))∧w1 = w':=
  pieces_new s [(10,7),(12,11),(5,5),(6,6)] 2 (frameN s) 8 w0 w1 hw hs rfl (by decide) (by decide) (by decide) (by decide) (acc_frame s)
theorem acc_stack (s:Nat):acc s [(12,12),(4,3),(5,5),(2,2),(6,6)] 5 * 2 ^ 4 = stackN s:=by
  show (((((0 * 2 ^ 1 + pc s 12 1) * 2 ^ 2 + pc s 3 2) * 2 ^ 1 + pc s 5 1) * 2 ^ 1 + pc s 2 1) * 2 ^ 1 + pc s 6 1) * 2 ^ 4 = stackN s
  unfold stackN
  simp only [Nat.reducePow]
  omega
theorem stack_lt (s:Nat):stackN s < 1024:=by
  have h0:pc s 12 1 < 2:=pc_lt s 12 1
  have h1:pc s 3 2 < 4:=pc_lt s 3 2
  have h2:pc s 5 1 < 2:=pc_lt s 5 1
  have h3:pc s 2 1 < 2:=pc_lt s 2 1
  have h4:pc s 6 1 < 2:=pc_lt s 6 1
  unfold stackN
  omega
theorem pieces_stack (s:Nat) (w0 w1:World) (hw:w1 = w0.alloc (.cells #[.int .i64 12,.int .i64 12,.int .i64 4,.int .i64 3,.int .i64 5,.int .i64 5,.int .i64 2,.int .i64 2,.int .i64 6,.int .i64 6] 3)) (hs:s < 65536) :
    Calls Tryz.prog 90 #[.int .u16 s,.slice (some ⟨w0.heap.size,0,none⟩) 10 10,.int .i64 4] w1 fun e w'=>e = .returned (.int .i64 ((stackN s:Nat):Int))∧w1 = w':=
  pieces_new s [(12,12),(4,3),(5,5),(2,2),(6,6)] 4 (stackN s) 10 w0 w1 hw hs rfl (by decide) (by decide) (by decide) (by decide) (acc_stack s)
theorem acc_jump (s:Nat):acc s [(12,12),(8,8),(10,9),(6,6),(7,7),(2,2),(11,11),(5,3)] 8 * 2 ^ 1 = jumpN s:=by
  show ((((((((0 * 2 ^ 1 + pc s 12 1) * 2 ^ 1 + pc s 8 1) * 2 ^ 2 + pc s 9 2) * 2 ^ 1 + pc s 6 1) * 2 ^ 1 + pc s 7 1) * 2 ^ 1 + pc s 2 1) * 2 ^ 1 + pc s 11 1) * 2 ^ 3 + pc s 3 3) * 2 ^ 1 = jumpN s
  unfold jumpN
  simp only [Nat.reducePow]
  omega
theorem jump_lt (s:Nat):jumpN s < 4096:=by
  have h0:pc s 12 1 < 2:=pc_lt s 12 1
  have h1:pc s 8 1 < 2:=pc_lt s 8 1
  have h2:pc s 9 2 < 4:=pc_lt s 9 2
  have h3:pc s 6 1 < 2:=pc_lt s 6 1
  have h4:pc s 7 1 < 2:=pc_lt s 7 1
  have h5:pc s 2 1 < 2:=pc_lt s 2 1
  have h6:pc s 11 1 < 2:=pc_lt s 11 1
  have h7:pc s 3 3 < 8:=pc_lt s 3 3
  unfold jumpN
  omega
theorem pieces_jump (s:Nat) (w0 w1:World) (hw:w1 = w0.alloc (.cells #[.int .i64 12,.int .i64 12,.int .i64 8,.int .i64 8,.int .i64 10,.int .i64 9,.int .i64 6,.int .i64 6,.int .i64 7,.int .i64 7,.int .i64 2,.int .i64 2,.int .i64 11,.int .i64 11,.int .i64 5,.int .i64 3] 3)) (hs:s < 65536) :
    Calls Tryz.prog 90 #[.int .u16 s,.slice (some ⟨w0.heap.size,0,none⟩) 16 16,.int .i64 1] w1 fun e w'=>e = .returned (.int .i64 ((jumpN s:Nat):Int))∧w1 = w':=
  pieces_new s [(12,12),(8,8),(10,9),(6,6),(7,7),(2,2),(11,11),(5,3)] 1 (jumpN s) 16 w0 w1 hw hs rfl (by decide) (by decide) (by decide) (by decide) (acc_jump s)
theorem acc_loadw (s:Nat):acc s [(3,2),(12,12),(6,4)] 3 * 2 ^ 2 = loadW s:=by
  show (((0 * 2 ^ 2 + pc s 2 2) * 2 ^ 1 + pc s 12 1) * 2 ^ 3 + pc s 4 3) * 2 ^ 2 = loadW s
  unfold loadW
  simp only [Nat.reducePow]
  omega
theorem loadw_lt (s:Nat):loadW s < 256:=by
  have h0:pc s 2 2 < 4:=pc_lt s 2 2
  have h1:pc s 12 1 < 2:=pc_lt s 12 1
  have h2:pc s 4 3 < 8:=pc_lt s 4 3
  unfold loadW
  omega
theorem pieces_loadw (s:Nat) (w0 w1:World) (hw:w1 = w0.alloc (.cells #[.int .i64 3,.int .i64 2,.int .i64 12,.int .i64 12,.int .i64 6,.int .i64 4] 3)) (hs:s < 65536) :
    Calls Tryz.prog 90 #[.int .u16 s,.slice (some ⟨w0.heap.size,0,none⟩) 6 6,.int .i64 2] w1 fun e w'=>e = .returned (.int .i64 ((loadW s:Nat):Int))∧w1 = w':=
  pieces_new s [(3,2),(12,12),(6,4)] 2 (loadW s) 6 w0 w1 hw hs rfl (by decide) (by decide) (by decide) (by decide) (acc_loadw s)
theorem acc_loadd (s:Nat):acc s [(4,2),(12,12),(6,5)] 3 * 2 ^ 3 = loadD s:=by
  show (((0 * 2 ^ 3 + pc s 2 3) * 2 ^ 1 + pc s 12 1) * 2 ^ 2 + pc s 5 2) * 2 ^ 3 = loadD s
  unfold loadD
  simp only [Nat.reducePow]
  omega
theorem loadd_lt (s:Nat):loadD s < 512:=by
  have h0:pc s 2 3 < 8:=pc_lt s 2 3
  have h1:pc s 12 1 < 2:=pc_lt s 12 1
  have h2:pc s 5 2 < 4:=pc_lt s 5 2
  unfold loadD
  omega
theorem pieces_loadd (s:Nat) (w0 w1:World) (hw:w1 = w0.alloc (.cells #[.int .i64 4,.int .i64 2,.int .i64 12,.int .i64 12,.int .i64 6,.int .i64 5] 3)) (hs:s < 65536) :
    Calls Tryz.prog 90 #[.int .u16 s,.slice (some ⟨w0.heap.size,0,none⟩) 6 6,.int .i64 3] w1 fun e w'=>e = .returned (.int .i64 ((loadD s:Nat):Int))∧w1 = w':=
  pieces_new s [(4,2),(12,12),(6,5)] 3 (loadD s) 6 w0 w1 hw hs rfl (by decide) (by decide) (by decide) (by decide) (acc_loadd s)
theorem acc_storew (s:Nat):acc s [(8,7),(12,9)] 2 * 2 ^ 2 = storeW s:=by
  show ((0 * 2 ^ 2 + pc s 7 2) * 2 ^ 4 + pc s 9 4) * 2 ^ 2 = storeW s
  unfold storeW
  simp only [Nat.reducePow]
  omega
theorem storew_lt (s:Nat):storeW s < 256:=by
  have h0:pc s 7 2 < 4:=pc_lt s 7 2
  have h1:pc s 9 4 < 16:=pc_lt s 9 4
  unfold storeW
  omega
theorem pieces_storew (s:Nat) (w0 w1:World) (hw:w1 = w0.alloc (.cells #[.int .i64 8,.int .i64 7,.int .i64 12,.int .i64 9] 3)) (hs:s < 65536) :
    Calls Tryz.prog 90 #[.int .u16 s,.slice (some ⟨w0.heap.size,0,none⟩) 4 4,.int .i64 2] w1 fun e w'=>e = .returned (.int .i64 ((storeW s:Nat):Int))∧w1 = w':=
  pieces_new s [(8,7),(12,9)] 2 (storeW s) 4 w0 w1 hw hs rfl (by decide) (by decide) (by decide) (by decide) (acc_storew s)
theorem acc_stored (s:Nat):acc s [(9,7),(12,10)] 2 * 2 ^ 3 = storeD s:=by
  show ((0 * 2 ^ 3 + pc s 7 3) * 2 ^ 3 + pc s 10 3) * 2 ^ 3 = storeD s
  unfold storeD
  simp only [Nat.reducePow]
  omega
theorem stored_lt (s:Nat):storeD s < 512:=by
  have h0:pc s 7 3 < 8:=pc_lt s 7 3
  have h1:pc s 10 3 < 8:=pc_lt s 10 3
  unfold storeD
  omega
theorem pieces_stored (s:Nat) (w0 w1:World) (hw:w1 = w0.alloc (.cells #[.int .i64 9,.int .i64 7,.int .i64 12,.int .i64 10] 3)) (hs:s < 65536) :
    Calls Tryz.prog 90 #[.int .u16 s,.slice (some ⟨w0.heap.size,0,none⟩) 4 4,.int .i64 3] w1 fun e w'=>e = .returned (.int .i64 ((storeD s:Nat):Int))∧w1 = w':=
  pieces_new s [(9,7),(12,10)] 3 (storeD s) 4 w0 w1 hw hs rfl (by decide) (by decide) (by decide) (by decide) (acc_stored s)
end Go.Proofs.YtbngjbmfkekdnaaGreatDoor.Td
