/-
  Contract of the reference's Expand: the same as the code's.
-/
import Derived.Test.YtbngjbmfkekdnaaGreatDoorT26
import Derived.Test.YtbngjbmfkekdnaaGreatDoorT27
import Derived.Test.YtbngjbmfkekdnaaGreatDoorT28
import Derived.Lib.Hide
set_option linter.unusedVariables false
set_option linter.unusedSimpArgs false
set_option maxHeartbeats 16000000
open Go.Lib (hid)
namespace Go.Proofs.YtbngjbmfkekdnaaGreatDoor.Td
open Go.RowKit
theorem ex_some {s:Nat} {op rd r1 r2 im:Int} (h:ex s = ⟨op,rd,r1,r2,im⟩) (h0:¬ op = 0):exI s = I7 op rd r1 r2 im 0 2∧exB s = true:=by
  unfold exI exB;rw [h];exact ⟨if_neg h0,decide_eq_true h0⟩
theorem ex_none {s:Nat} {rd r1 r2 im:Int} (h:ex s = ⟨0,rd,r1,r2,im⟩):exI s = I7 0 0 0 0 0 0 0∧exB s = false:=by
  unfold exI exB;rw [h];exact ⟨if_pos rfl,rfl⟩
theorem ne2 {v:Nat} (h:¬ v = 2):((v:Int) == 2) = false:=by simp;omega
theorem ne2' {v:Nat} (h:¬ v = 2):((v:Int) != 2) = true:=by simp;omega
theorem nei {v:Int} (h:¬ v = 0):(v == 0) = false:=by simp [h]
theorem nei' {v:Int} (h:¬ v = 0):(v != 0) = true:=by simp [h]
theorem stack_zero (s:Nat):low (stackN s:Nat) 10 = 0 ↔ low (shiftN s:Nat) 6 = 0:=by
  have h1:pc s 12 1 < 2:=pc_lt s 12 1
  have h2:pc s 3 2 < 4:=pc_lt s 3 2
  have h3:pc s 5 1 < 2:=pc_lt s 5 1
  have h4:pc s 2 1 < 2:=pc_lt s 2 1
  have h5:pc s 6 1 < 2:=pc_lt s 6 1
  have e:pc s 2 5 = pc s 6 1 * 16 + pc s 5 1 * 8 + pc s 3 2 * 2 + pc s 2 1:=by unfold pc;omega
  have e1:low (stackN s:Nat) 10 = ((stackN s:Nat) + 512:Int) % 1024 - 512:=rfl
  have e2:low (shiftN s:Nat) 6 = ((shiftN s:Nat) + 32:Int) % 64 - 32:=rfl
  rw [e1,e2]
  unfold stackN shiftN
  rw [e]
  generalize pc s 12 1 = a at *
  generalize pc s 3 2 = b at *
  generalize pc s 5 1 = c at *
  generalize pc s 2 1 = d at *
  generalize pc s 6 1 = f at *
  clear e e1 e2
  omega
def RefPost (s:Nat) (w:World):Ending → World → Prop:=fun e w'=>e = .returned (.tuple #[.agg (exI s),.bool (exB s)])∧Kp none w w'
theorem yes_of {s:Nat} {w:World} {op rd r1 r2 im:Int} (h:ex s = ⟨op,rd,r1,r2,im⟩) (h0:¬ op = 0)
    (c:Calls Tryz.prog 51 #[.int .u16 s] w fun e w'=>e = .returned (.tuple #[.agg (I7 op rd r1 r2 im 0 2),.bool true])∧Kp none w w'):Calls Tryz.prog 51 #[.int .u16 s] w (RefPost s w):=by
  obtain ⟨e1,e2⟩:=ex_some h h0
  unfold RefPost;rw [e1,e2];exact c
theorem no_of {s:Nat} {w:World} {rd r1 r2 im:Int} (h:ex s = ⟨0,rd,r1,r2,im⟩)
    (c:Calls Tryz.prog 51 #[.int .u16 s] w fun e w'=>e = .returned (.tuple #[.agg (I7 0 0 0 0 0 0 0),.bool false])∧Kp none w w'):Calls Tryz.prog 51 #[.int .u16 s] w (RefPost s w):=by
  obtain ⟨e1,e2⟩:=ex_none h
  unfold RefPost;rw [e1,e2];exact c
theorem refx_any (s:Nat) (w:World) (hs:s < 65536):Calls Tryz.prog 51 #[.int .u16 s] w (RefPost s w):=by
  have hg:=pc_lt s 0 2
  have hk:=pc_lt s 13 3
  simp only [Nat.reducePow] at hg hk
  have hE:ex s = ex s:=rfl
  conv at hE=>rhs;unfold ex
  obtain ⟨g,eg⟩:∃ g,pc s 0 2 = g:=⟨_,rfl⟩
  obtain ⟨k,ek⟩:∃ k,pc s 13 3 = k:=⟨_,rfl⟩
  have hx6:shiftN s < 64:=six_lt s
  rw [eg] at hg hE
  rw [ek] at hk hE
  have hgs:g = 0 ∨ g = 1 ∨ g = 2 ∨ g = 3:=by omega
  have hks:k = 0 ∨ k = 1 ∨ k = 2 ∨ k = 3 ∨ k = 4 ∨ k = 5 ∨ k = 6 ∨ k = 7:=by omega
  clear hg hk
  rcases hgs with rfl | rfl | rfl | rfl
  · rcases hks with rfl | rfl | rfl | rfl | rfl | rfl | rfl | rfl
    · by_cases h:frameN s = 0
      · exact no_of (hE.trans (if_pos h)) (refx_add0 s w hs eg ek h)
      · exact yes_of (hE.trans (if_neg h)) (by decide) (refx_addi4 s w hs eg ek (by omega))
    · exact no_of hE (refx_none s 0 1 w hs eg ek (by decide) (by decide) (by decide) (by decide) (by decide) (by decide) (by decide) (by decide) (by decide) (by decide) (by decide) (by decide) (by decide) (by decide) (by decide) (by decide) (by decide) (by decide) (by decide))
    · exact yes_of hE (by decide) (refx_lw s w hs eg ek)
    · exact yes_of hE (by decide) (refx_ld s w hs eg ek)
    · exact no_of hE (refx_none s 0 4 w hs eg ek (by decide) (by decide) (by decide) (by decide) (by decide) (by decide) (by decide) (by decide) (by decide) (by decide) (by decide) (by decide) (by decide) (by decide) (by decide) (by decide) (by decide) (by decide) (by decide))
    · exact no_of hE (refx_none s 0 5 w hs eg ek (by decide) (by decide) (by decide) (by decide) (by decide) (by decide) (by decide) (by decide) (by decide) (by decide) (by decide) (by decide) (by decide) (by decide) (by decide) (by decide) (by decide) (by decide) (by decide))
    · exact yes_of hE (by decide) (refx_sw s w hs eg ek)
    · exact yes_of hE (by decide) (refx_sd s w hs eg ek)
  · rcases hks with rfl | rfl | rfl | rfl | rfl | rfl | rfl | rfl
    · exact yes_of hE (by decide) (refx_addi s w hs eg ek)
    · by_cases h:pc s 7 5 = 0
      · exact no_of (hE.trans (if_pos h)) (refx_addiw0 s w hs eg ek h)
      · exact yes_of (hE.trans (if_neg h)) (by decide) (refx_addiw s w hs eg ek (by omega))
    · exact yes_of hE (by decide) (refx_li s w hs eg ek)
    · have hE1:ex s = exUpper s:=hE
      unfold exUpper at hE1
      by_cases h:low (shiftN s:Nat) 6 = 0
      · have hE2:ex s = Sh.zero:=hE1.trans (if_pos h)
        by_cases h2:pc s 7 5 = 2
        · exact no_of hE2 (refx_stack0 s w hs eg ek h2 ((stack_zero s).2 h))
        · exact no_of hE2 (refx_lui0 s w hs eg ek (ne2 h2) (ne2' h2) h)
      · rw [if_neg h] at hE1
        by_cases h2:pc s 7 5 = 2
        · have h3:¬ low (stackN s:Nat) 10 = 0:=fun hh=>h ((stack_zero s).1 hh)
          exact yes_of (hE1.trans (if_pos h2)) (by decide) (refx_stack s w hs eg ek h2 (nei h3) (nei' h3))
        · exact yes_of (hE1.trans (if_neg h2)) (by decide) (refx_lui s w hs eg ek (ne2 h2) (ne2' h2) (nei h) (nei' h))
    · have hE1:ex s = exReckon s:=hE
      unfold exReckon at hE1
      have hj:=pc_lt s 10 2
      simp only [Nat.reducePow] at hj
      by_cases j0:pc s 10 2 = 0
      · exact yes_of (hE1.trans (if_pos j0)) (by decide) (refx_eight s w hs eg ek _ _ _ _ _ (by decide) (fun w'=>eight_srli s _ _ _ w' hs hx6 j0))
      rw [if_neg j0] at hE1
      by_cases j1:pc s 10 2 = 1
      · exact yes_of (hE1.trans (if_pos j1)) (by decide) (refx_eight s w hs eg ek _ _ _ _ _ (by decide) (fun w'=>eight_srai s _ _ _ w' hs hx6 j1))
      rw [if_neg j1] at hE1
      by_cases j2:pc s 10 2 = 2
      · exact yes_of (hE1.trans (if_pos j2)) (by decide) (refx_eight s w hs eg ek _ _ _ _ _ (by decide) (fun w'=>eight_andi s _ _ _ w' hs hx6 j2))
      rw [if_neg j2] at hE1
      by_cases h0:recT.getD (reckN s) 0 = 0
      · rw [h0] at hE1
        exact no_of hE1 (refx_eight0 s w hs eg ek _ _ _ _ (fun w'=>eight_none s _ _ _ _ w' hs (by omega) h0 rfl))
      · exact yes_of hE1 h0 (refx_eight s w hs eg ek _ _ _ _ _ (nei h0) (fun w'=>eight_two s _ _ _ _ w' hs (by omega) rfl (nei h0)))
    · exact yes_of hE (by decide) (refx_jal s w hs eg ek)
    · exact yes_of hE (by decide) (refx_beq s w hs eg ek)
    · exact yes_of hE (by decide) (refx_bne s w hs eg ek)
  · rcases hks with rfl | rfl | rfl | rfl | rfl | rfl | rfl | rfl
    · exact yes_of hE (by decide) (refx_slli s w hs eg ek)
    · exact no_of hE (refx_none s 2 1 w hs eg ek (by decide) (by decide) (by decide) (by decide) (by decide) (by decide) (by decide) (by decide) (by decide) (by decide) (by decide) (by decide) (by decide) (by decide) (by decide) (by decide) (by decide) (by decide) (by decide))
    · by_cases h:pc s 7 5 = 0
      · exact no_of (hE.trans (if_pos h)) (refx_lwsp0 s w hs eg ek h)
      · exact yes_of (hE.trans (if_neg h)) (by decide) (refx_lwsp s w hs eg ek (by omega))
    · by_cases h:pc s 7 5 = 0
      · exact no_of (hE.trans (if_pos h)) (refx_ldsp0 s w hs eg ek h)
      · exact yes_of (hE.trans (if_neg h)) (by decide) (refx_ldsp s w hs eg ek (by omega))
    · have hE1:ex s = exMove s:=hE
      unfold exMove at hE1
      by_cases h2:pc s 2 5 = 0
      · rw [if_pos h2] at hE1
        by_cases hr:pc s 7 5 = 0
        · rw [if_pos hr] at hE1
          by_cases hb:pc s 12 1 = 1
          · exact yes_of (hE1.trans (if_pos hb)) (by decide) (refx_moves s w hs eg ek _ _ _ _ _ (by decide) (fun w'=>by rw [hb,hr,h2];exact moves_break 0 0 w' rfl rfl))
          · exact no_of (hE1.trans (if_neg hb)) (refx_moves0 s w hs eg ek _ _ _ _ (fun w'=>by rw [bit2 s hb,hr,h2];exact moves_none 0 0 w' rfl rfl))
        · rw [if_neg hr] at hE1
          by_cases hb:pc s 12 1 = 1
          · exact yes_of (hE1.trans (if_pos hb)) (by decide) (refx_moves s w hs eg ek _ _ _ _ _ (by decide) (fun w'=>by rw [hb,h2];exact moves_jalr (pc s 7 5) 0 w' rfl (ne0 hr)))
          · exact yes_of (hE1.trans (if_neg hb)) (by decide) (refx_moves s w hs eg ek _ _ _ _ _ (by decide) (fun w'=>by rw [bit2 s hb,h2];exact moves_jr (pc s 7 5) 0 w' rfl (ne0 hr)))
      · rw [if_neg h2] at hE1
        by_cases hb:pc s 12 1 = 1
        · exact yes_of (hE1.trans (if_pos hb)) (by decide) (refx_moves s w hs eg ek _ _ _ _ _ (by decide) (fun w'=>by rw [hb];exact moves_add (pc s 7 5) (pc s 2 5) w' (ne0 h2)))
        · exact yes_of (hE1.trans (if_neg hb)) (by decide) (refx_moves s w hs eg ek _ _ _ _ _ (by decide) (fun w'=>by rw [bit2 s hb];exact moves_mv (pc s 7 5) (pc s 2 5) w' (ne0 h2)))
    · exact no_of hE (refx_none s 2 5 w hs eg ek (by decide) (by decide) (by decide) (by decide) (by decide) (by decide) (by decide) (by decide) (by decide) (by decide) (by decide) (by decide) (by decide) (by decide) (by decide) (by decide) (by decide) (by decide) (by decide))
    · exact yes_of hE (by decide) (refx_swsp s w hs eg ek)
    · exact yes_of hE (by decide) (refx_sdsp s w hs eg ek)
  · rcases hks with rfl | rfl | rfl | rfl | rfl | rfl | rfl | rfl
    · exact no_of hE (refx_none s 3 0 w hs eg ek (by decide) (by decide) (by decide) (by decide) (by decide) (by decide) (by decide) (by decide) (by decide) (by decide) (by decide) (by decide) (by decide) (by decide) (by decide) (by decide) (by decide) (by decide) (by decide))
    · exact no_of hE (refx_none s 3 1 w hs eg ek (by decide) (by decide) (by decide) (by decide) (by decide) (by decide) (by decide) (by decide) (by decide) (by decide) (by decide) (by decide) (by decide) (by decide) (by decide) (by decide) (by decide) (by decide) (by decide))
    · exact no_of hE (refx_none s 3 2 w hs eg ek (by decide) (by decide) (by decide) (by decide) (by decide) (by decide) (by decide) (by decide) (by decide) (by decide) (by decide) (by decide) (by decide) (by decide) (by decide) (by decide) (by decide) (by decide) (by decide))
    · exact no_of hE (refx_none s 3 3 w hs eg ek (by decide) (by decide) (by decide) (by decide) (by decide) (by decide) (by decide) (by decide) (by decide) (by decide) (by decide) (by decide) (by decide) (by decide) (by decide) (by decide) (by decide) (by decide) (by decide))
    · exact no_of hE (refx_none s 3 4 w hs eg ek (by decide) (by decide) (by decide) (by decide) (by decide) (by decide) (by decide) (by decide) (by decide) (by decide) (by decide) (by decide) (by decide) (by decide) (by decide) (by decide) (by decide) (by decide) (by decide))
    · exact no_of hE (refx_none s 3 5 w hs eg ek (by decide) (by decide) (by decide) (by decide) (by decide) (by decide) (by decide) (by decide) (by decide) (by decide) (by decide) (by decide) (by decide) (by decide) (by decide) (by decide) (by decide) (by decide) (by decide))
    · exact no_of hE (refx_none s 3 6 w hs eg ek (by decide) (by decide) (by decide) (by decide) (by decide) (by decide) (by decide) (by decide) (by decide) (by decide) (by decide) (by decide) (by decide) (by decide) (by decide) (by decide) (by decide) (by decide) (by decide))
    · exact no_of hE (refx_none s 3 7 w hs eg ek (by decide) (by decide) (by decide) (by decide) (by decide) (by decide) (by decide) (by decide) (by decide) (by decide) (by decide) (by decide) (by decide) (by decide) (by decide) (by decide) (by decide) (by decide) (by decide))
end Go.Proofs.YtbngjbmfkekdnaaGreatDoor.Td
