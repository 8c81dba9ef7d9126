/-
  Contracts of the reference's functions that write an instruction: sums and shifts with an immediate; atomic operators.
-/
import Derived.Test.YtionnhjldcpmjaaGreatDoorRefA
import Derived.Test.YtionnhjldcpmjaaGreatDoorDecodeB
set_option linter.unusedVariables false
set_option linter.unusedSimpArgs false
namespace Go.Proofs.YtionnhjldcpmjaaGreatDoor
set_option maxRecDepth 100000
open Go.RowKit
theorem one_new (zs : List Int) (k : Nat) (w0 w1 : World) (hw : w1 = w0.alloc (.cells (zs.map (Value.int .i64)).toArray 3)) (hl : zs.length ≤ 100) :
    Calls Tryz.prog 32 #[.slice (some ⟨w0.heap.size, 0, none⟩) zs.length zs.length, .int .i64 k] w1 fun e w' => e = .returned (.int .i64 (zs.getD k 0)) ∧ w1 = w' := by
  subst hw
  refine one_any _ zs zs.length zs.length k _ rfl hl (fun i hi => ?_)
  rw [(Has.new w0 _ 3).cell i]
  simp [List.getElem?_eq_getElem hi]

set_option maxHeartbeats 1000000 in
theorem withImm19_plain (s f b : Nat) (rd r1 im : Int) (w : World) (hs : s < 4294967296) (hc : pc s 0 7 = 19) (h1 : ((f : Int) == 1) = false) (h5 : ((f : Int) == 5) = false) (hb : Has w b 28 (I7 0 rd r1 0 im 0 4)) :
    Calls Tryz.prog 33 #[.int .u32 s, .int .i64 f, .pointer (some ⟨b, 0, none⟩)] w fun e w' => e = .returned (.tuple #[]) ∧ Has w' b 28 (I7 (([22, 0, 23, 24, 25, 0, 26, 27] : List Int).getD f 0) rd r1 0 im 0 4) ∧ Kp (some b) w w' := by
  have FO := Lib.hid (fun w => F_any s 6 0 w hs (by omega) (by omega))
  have e0 : pc s 0 (6 + 1 - 0) = 19 := hc
  rw [e0] at FO; clear e0 hc
  have K1 := (Kp.refl (some b) w).alloc #[.int .i64 22, .int .i64 0, .int .i64 23, .int .i64 24, .int .i64 25, .int .i64 0, .int .i64 26, .int .i64 27] 3
  have hb1 := hb.alloc (.cells #[.int .i64 22, .int .i64 0, .int .i64 23, .int .i64 24, .int .i64 25, .int .i64 0, .int .i64 26, .int .i64 27] 3)
  have HO := Lib.hid (fun w1 hw => one_new [22, 0, 23, 24, 25, 0, 26, 27] f w w1 hw (by decide))
  generalize ([22, 0, 23, 24, 25, 0, 26, 27] : List Int).getD f 0 = o at *
  go_enter Tryz.func33, Tryz.ntmps33
  go_wp2_with fail
  refine (FO.out _).mono ?_
  rintro e w1 ⟨rfl, rfl⟩
  go_wp2_with fail
  refine (HO.out _ (by rfl)).mono ?_
  rintro e w1 ⟨rfl, rfl⟩
  clear FO
  generalize w.alloc (.cells #[.int .i64 22, .int .i64 0, .int .i64 23, .int .i64 24, .int .i64 25, .int .i64 0, .int .i64 26, .int .i64 27] 3) = w1 at K1 hb1 ⊢
  obtain ⟨b0, b1, b2, b3, b4, b5, b6⟩ := hb1.seven
  have z := hb1.free
  go_wp2
  first | go_end0 | ((try simp only [Exit.inBlock, Exit.then]); refine bodyPost_ret (results_none rfl _ _ _) rfl ?_)
  exact ⟨rfl, hb1.set 0 _, K1.setCell (Or.inr rfl) _⟩

set_option maxHeartbeats 1000000 in
theorem withImm19_0 (s b : Nat) (rd r1 im : Int) (w : World) (hs : s < 4294967296) (hc : pc s 0 7 = 19) (hu : pc s 26 6 = 0) (hb : Has w b 28 (I7 0 rd r1 0 im 0 4)) :
    Calls Tryz.prog 33 #[.int .u32 s, .int .i64 1, .pointer (some ⟨b, 0, none⟩)] w fun e w' => e = .returned (.tuple #[]) ∧ Has w' b 28 (I7 28 rd r1 0 (pc s 20 6 : Nat) 0 4) ∧ Kp (some b) w w' := by
  have FI := Lib.hid (fun w => F_any s 25 20 w hs (by omega) (by omega))
  have FU := Lib.hid (fun w => F_any s 31 26 w hs (by omega) (by omega))
  have e2 : pc s 20 (25 + 1 - 20) = pc s 20 6 := rfl
  rw [e2] at FI; clear e2
  have e1 : pc s 26 (31 + 1 - 26) = 0 := hu
  rw [e1] at FU; clear e1 hu
  generalize pc s 20 6 = p at *
  have FO := Lib.hid (fun w => F_any s 6 0 w hs (by omega) (by omega))
  have e0 : pc s 0 (6 + 1 - 0) = 19 := hc
  rw [e0] at FO; clear e0 hc
  have K1 := (Kp.refl (some b) w).alloc #[.int .i64 22, .int .i64 0, .int .i64 23, .int .i64 24, .int .i64 25, .int .i64 0, .int .i64 26, .int .i64 27] 3
  have hb1 := hb.alloc (.cells #[.int .i64 22, .int .i64 0, .int .i64 23, .int .i64 24, .int .i64 25, .int .i64 0, .int .i64 26, .int .i64 27] 3)
  go_enter Tryz.func33, Tryz.ntmps33
  go_wp2_with fail
  refine (FO.out _).mono ?_
  rintro e w1 ⟨rfl, rfl⟩
  go_wp2_with fail
  refine (one_new [22, 0, 23, 24, 25, 0, 26, 27] 1 w _ (by rfl) (by decide)).mono ?_
  rintro e w1 ⟨rfl, rfl⟩
  clear FO
  generalize w.alloc (.cells #[.int .i64 22, .int .i64 0, .int .i64 23, .int .i64 24, .int .i64 25, .int .i64 0, .int .i64 26, .int .i64 27] 3) = w1 at K1 hb1 ⊢
  obtain ⟨b0, b1, b2, b3, b4, b5, b6⟩ := hb1.seven
  have z := hb1.free
  go_wp2_with fail
  refine (FI.out _).mono ?_
  rintro e w2 ⟨rfl, rfl⟩
  go_wp2_with fail
  refine (FU.out _).mono ?_
  rintro e w2 ⟨rfl, rfl⟩
  go_wp2
  first | go_end0 | ((try simp only [Exit.inBlock, Exit.then]); refine bodyPost_ret (results_none rfl _ _ _) rfl ?_)
  exact ⟨rfl, (((hb1.set 0 _).set 4 _).set 0 _), (((K1.setCell (p := ⟨b, 0, none⟩) (Or.inr rfl) _).setCell (p := ⟨b, 4, none⟩) (Or.inr rfl) _).setCell (p := ⟨b, 0, none⟩) (Or.inr rfl) _)⟩

set_option maxHeartbeats 1000000 in
theorem withImm19_1 (s b : Nat) (rd r1 im : Int) (w : World) (hs : s < 4294967296) (hc : pc s 0 7 = 19) (hu : pc s 26 6 = 0) (hb : Has w b 28 (I7 0 rd r1 0 im 0 4)) :
    Calls Tryz.prog 33 #[.int .u32 s, .int .i64 5, .pointer (some ⟨b, 0, none⟩)] w fun e w' => e = .returned (.tuple #[]) ∧ Has w' b 28 (I7 29 rd r1 0 (pc s 20 6 : Nat) 0 4) ∧ Kp (some b) w w' := by
  have FI := Lib.hid (fun w => F_any s 25 20 w hs (by omega) (by omega))
  have FU := Lib.hid (fun w => F_any s 31 26 w hs (by omega) (by omega))
  have e2 : pc s 20 (25 + 1 - 20) = pc s 20 6 := rfl
  rw [e2] at FI; clear e2
  have e1 : pc s 26 (31 + 1 - 26) = 0 := hu
  rw [e1] at FU; clear e1 hu
  generalize pc s 20 6 = p at *
  have FO := Lib.hid (fun w => F_any s 6 0 w hs (by omega) (by omega))
  have e0 : pc s 0 (6 + 1 - 0) = 19 := hc
  rw [e0] at FO; clear e0 hc
  have K1 := (Kp.refl (some b) w).alloc #[.int .i64 22, .int .i64 0, .int .i64 23, .int .i64 24, .int .i64 25, .int .i64 0, .int .i64 26, .int .i64 27] 3
  have hb1 := hb.alloc (.cells #[.int .i64 22, .int .i64 0, .int .i64 23, .int .i64 24, .int .i64 25, .int .i64 0, .int .i64 26, .int .i64 27] 3)
  go_enter Tryz.func33, Tryz.ntmps33
  go_wp2_with fail
  refine (FO.out _).mono ?_
  rintro e w1 ⟨rfl, rfl⟩
  go_wp2_with fail
  refine (one_new [22, 0, 23, 24, 25, 0, 26, 27] 5 w _ (by rfl) (by decide)).mono ?_
  rintro e w1 ⟨rfl, rfl⟩
  clear FO
  generalize w.alloc (.cells #[.int .i64 22, .int .i64 0, .int .i64 23, .int .i64 24, .int .i64 25, .int .i64 0, .int .i64 26, .int .i64 27] 3) = w1 at K1 hb1 ⊢
  obtain ⟨b0, b1, b2, b3, b4, b5, b6⟩ := hb1.seven
  have z := hb1.free
  go_wp2_with fail
  refine (FI.out _).mono ?_
  rintro e w2 ⟨rfl, rfl⟩
  go_wp2_with fail
  refine (FU.out _).mono ?_
  rintro e w2 ⟨rfl, rfl⟩
  go_wp2
  first | go_end0 | ((try simp only [Exit.inBlock, Exit.then]); refine bodyPost_ret (results_none rfl _ _ _) rfl ?_)
  exact ⟨rfl, (((hb1.set 0 _).set 4 _).set 0 _), (((K1.setCell (p := ⟨b, 0, none⟩) (Or.inr rfl) _).setCell (p := ⟨b, 4, none⟩) (Or.inr rfl) _).setCell (p := ⟨b, 0, none⟩) (Or.inr rfl) _)⟩

set_option maxHeartbeats 1000000 in
theorem withImm19_2 (s b : Nat) (rd r1 im : Int) (w : World) (hs : s < 4294967296) (hc : pc s 0 7 = 19) (hu : pc s 26 6 = 16) (hb : Has w b 28 (I7 0 rd r1 0 im 0 4)) :
    Calls Tryz.prog 33 #[.int .u32 s, .int .i64 5, .pointer (some ⟨b, 0, none⟩)] w fun e w' => e = .returned (.tuple #[]) ∧ Has w' b 28 (I7 30 rd r1 0 (pc s 20 6 : Nat) 0 4) ∧ Kp (some b) w w' := by
  have FI := Lib.hid (fun w => F_any s 25 20 w hs (by omega) (by omega))
  have FU := Lib.hid (fun w => F_any s 31 26 w hs (by omega) (by omega))
  have e2 : pc s 20 (25 + 1 - 20) = pc s 20 6 := rfl
  rw [e2] at FI; clear e2
  have e1 : pc s 26 (31 + 1 - 26) = 16 := hu
  rw [e1] at FU; clear e1 hu
  generalize pc s 20 6 = p at *
  have FO := Lib.hid (fun w => F_any s 6 0 w hs (by omega) (by omega))
  have e0 : pc s 0 (6 + 1 - 0) = 19 := hc
  rw [e0] at FO; clear e0 hc
  have K1 := (Kp.refl (some b) w).alloc #[.int .i64 22, .int .i64 0, .int .i64 23, .int .i64 24, .int .i64 25, .int .i64 0, .int .i64 26, .int .i64 27] 3
  have hb1 := hb.alloc (.cells #[.int .i64 22, .int .i64 0, .int .i64 23, .int .i64 24, .int .i64 25, .int .i64 0, .int .i64 26, .int .i64 27] 3)
  go_enter Tryz.func33, Tryz.ntmps33
  go_wp2_with fail
  refine (FO.out _).mono ?_
  rintro e w1 ⟨rfl, rfl⟩
  go_wp2_with fail
  refine (one_new [22, 0, 23, 24, 25, 0, 26, 27] 5 w _ (by rfl) (by decide)).mono ?_
  rintro e w1 ⟨rfl, rfl⟩
  clear FO
  generalize w.alloc (.cells #[.int .i64 22, .int .i64 0, .int .i64 23, .int .i64 24, .int .i64 25, .int .i64 0, .int .i64 26, .int .i64 27] 3) = w1 at K1 hb1 ⊢
  obtain ⟨b0, b1, b2, b3, b4, b5, b6⟩ := hb1.seven
  have z := hb1.free
  go_wp2_with fail
  refine (FI.out _).mono ?_
  rintro e w2 ⟨rfl, rfl⟩
  go_wp2_with fail
  refine (FU.out _).mono ?_
  rintro e w2 ⟨rfl, rfl⟩
  go_wp2
  first | go_end0 | ((try simp only [Exit.inBlock, Exit.then]); refine bodyPost_ret (results_none rfl _ _ _) rfl ?_)
  exact ⟨rfl, (((hb1.set 0 _).set 4 _).set 0 _), (((K1.setCell (p := ⟨b, 0, none⟩) (Or.inr rfl) _).setCell (p := ⟨b, 4, none⟩) (Or.inr rfl) _).setCell (p := ⟨b, 0, none⟩) (Or.inr rfl) _)⟩

set_option maxHeartbeats 1000000 in
theorem withImm19_3 (s b : Nat) (rd r1 im : Int) (w : World) (hs : s < 4294967296) (hc : pc s 0 7 = 19) (hu0 : ((pc s 26 6 : Int) == 0) = false) (hb : Has w b 28 (I7 0 rd r1 0 im 0 4)) :
    Calls Tryz.prog 33 #[.int .u32 s, .int .i64 1, .pointer (some ⟨b, 0, none⟩)] w fun e w' => e = .returned (.tuple #[]) ∧ Has w' b 28 (I7 0 rd r1 0 (pc s 20 6 : Nat) 0 4) ∧ Kp (some b) w w' := by
  have FI := Lib.hid (fun w => F_any s 25 20 w hs (by omega) (by omega))
  have FU := Lib.hid (fun w => F_any s 31 26 w hs (by omega) (by omega))
  have e2 : pc s 20 (25 + 1 - 20) = pc s 20 6 := rfl
  rw [e2] at FI; clear e2
  have e1 : pc s 26 (31 + 1 - 26) = pc s 26 6 := rfl
  rw [e1] at FU; clear e1
  generalize pc s 26 6 = u at *
  generalize pc s 20 6 = p at *
  have FO := Lib.hid (fun w => F_any s 6 0 w hs (by omega) (by omega))
  have e0 : pc s 0 (6 + 1 - 0) = 19 := hc
  rw [e0] at FO; clear e0 hc
  have K1 := (Kp.refl (some b) w).alloc #[.int .i64 22, .int .i64 0, .int .i64 23, .int .i64 24, .int .i64 25, .int .i64 0, .int .i64 26, .int .i64 27] 3
  have hb1 := hb.alloc (.cells #[.int .i64 22, .int .i64 0, .int .i64 23, .int .i64 24, .int .i64 25, .int .i64 0, .int .i64 26, .int .i64 27] 3)
  go_enter Tryz.func33, Tryz.ntmps33
  go_wp2_with fail
  refine (FO.out _).mono ?_
  rintro e w1 ⟨rfl, rfl⟩
  go_wp2_with fail
  refine (one_new [22, 0, 23, 24, 25, 0, 26, 27] 1 w _ (by rfl) (by decide)).mono ?_
  rintro e w1 ⟨rfl, rfl⟩
  clear FO
  generalize w.alloc (.cells #[.int .i64 22, .int .i64 0, .int .i64 23, .int .i64 24, .int .i64 25, .int .i64 0, .int .i64 26, .int .i64 27] 3) = w1 at K1 hb1 ⊢
  obtain ⟨b0, b1, b2, b3, b4, b5, b6⟩ := hb1.seven
  have z := hb1.free
  go_wp2_with fail
  refine (FI.out _).mono ?_
  rintro e w2 ⟨rfl, rfl⟩
  go_wp2_with fail
  refine (FU.out _).mono ?_
  rintro e w2 ⟨rfl, rfl⟩
  go_wp2
  first | go_end0 | ((try simp only [Exit.inBlock, Exit.then]); refine bodyPost_ret (results_none rfl _ _ _) rfl ?_)
  exact ⟨rfl, ((hb1.set 0 _).set 4 _), (((K1.setCell (p := ⟨b, 0, none⟩) (Or.inr rfl) _).setCell (p := ⟨b, 4, none⟩) (Or.inr rfl) _))⟩

set_option maxHeartbeats 1000000 in
theorem withImm19_4 (s b : Nat) (rd r1 im : Int) (w : World) (hs : s < 4294967296) (hc : pc s 0 7 = 19) (hu0 : ((pc s 26 6 : Int) == 0) = false) (hu16 : ((pc s 26 6 : Int) == 16) = false) (hb : Has w b 28 (I7 0 rd r1 0 im 0 4)) :
    Calls Tryz.prog 33 #[.int .u32 s, .int .i64 5, .pointer (some ⟨b, 0, none⟩)] w fun e w' => e = .returned (.tuple #[]) ∧ Has w' b 28 (I7 0 rd r1 0 (pc s 20 6 : Nat) 0 4) ∧ Kp (some b) w w' := by
  have FI := Lib.hid (fun w => F_any s 25 20 w hs (by omega) (by omega))
  have FU := Lib.hid (fun w => F_any s 31 26 w hs (by omega) (by omega))
  have e2 : pc s 20 (25 + 1 - 20) = pc s 20 6 := rfl
  rw [e2] at FI; clear e2
  have e1 : pc s 26 (31 + 1 - 26) = pc s 26 6 := rfl
  rw [e1] at FU; clear e1
  generalize pc s 26 6 = u at *
  generalize pc s 20 6 = p at *
  have FO := Lib.hid (fun w => F_any s 6 0 w hs (by omega) (by omega))
  have e0 : pc s 0 (6 + 1 - 0) = 19 := hc
  rw [e0] at FO; clear e0 hc
  have K1 := (Kp.refl (some b) w).alloc #[.int .i64 22, .int .i64 0, .int .i64 23, .int .i64 24, .int .i64 25, .int .i64 0, .int .i64 26, .int .i64 27] 3
  have hb1 := hb.alloc (.cells #[.int .i64 22, .int .i64 0, .int .i64 23, .int .i64 24, .int .i64 25, .int .i64 0, .int .i64 26, .int .i64 27] 3)
  go_enter Tryz.func33, Tryz.ntmps33
  go_wp2_with fail
  refine (FO.out _).mono ?_
  rintro e w1 ⟨rfl, rfl⟩
  go_wp2_with fail
  refine (one_new [22, 0, 23, 24, 25, 0, 26, 27] 5 w _ (by rfl) (by decide)).mono ?_
  rintro e w1 ⟨rfl, rfl⟩
  clear FO
  generalize w.alloc (.cells #[.int .i64 22, .int .i64 0, .int .i64 23, .int .i64 24, .int .i64 25, .int .i64 0, .int .i64 26, .int .i64 27] 3) = w1 at K1 hb1 ⊢
  obtain ⟨b0, b1, b2, b3, b4, b5, b6⟩ := hb1.seven
  have z := hb1.free
  go_wp2_with fail
  refine (FI.out _).mono ?_
  rintro e w2 ⟨rfl, rfl⟩
  go_wp2_with fail
  refine (FU.out _).mono ?_
  rintro e w2 ⟨rfl, rfl⟩
  go_wp2
  first | go_end0 | ((try simp only [Exit.inBlock, Exit.then]); refine bodyPost_ret (results_none rfl _ _ _) rfl ?_)
  exact ⟨rfl, ((hb1.set 0 _).set 4 _), (((K1.setCell (p := ⟨b, 0, none⟩) (Or.inr rfl) _).setCell (p := ⟨b, 4, none⟩) (Or.inr rfl) _))⟩

set_option maxHeartbeats 1000000 in
theorem withImm27_plain (s f b : Nat) (rd r1 im : Int) (w : World) (hs : s < 4294967296) (hc : pc s 0 7 = 27) (h1 : ((f : Int) == 1) = false) (h5 : ((f : Int) == 5) = false) (hb : Has w b 28 (I7 0 rd r1 0 im 0 4)) :
    Calls Tryz.prog 33 #[.int .u32 s, .int .i64 f, .pointer (some ⟨b, 0, none⟩)] w fun e w' => e = .returned (.tuple #[]) ∧ Has w' b 28 (I7 (([41] : List Int).getD f 0) rd r1 0 im 0 4) ∧ Kp (some b) w w' := by
  have FO := Lib.hid (fun w => F_any s 6 0 w hs (by omega) (by omega))
  have e0 : pc s 0 (6 + 1 - 0) = 27 := hc
  rw [e0] at FO; clear e0 hc
  have K1 := (Kp.refl (some b) w).alloc #[.int .i64 41] 3
  have hb1 := hb.alloc (.cells #[.int .i64 41] 3)
  have HO := Lib.hid (fun w1 hw => one_new [41] f w w1 hw (by decide))
  generalize ([41] : List Int).getD f 0 = o at *
  go_enter Tryz.func33, Tryz.ntmps33
  go_wp2_with fail
  refine (FO.out _).mono ?_
  rintro e w1 ⟨rfl, rfl⟩
  go_wp2_with fail
  refine (HO.out _ (by rfl)).mono ?_
  rintro e w1 ⟨rfl, rfl⟩
  clear FO
  generalize w.alloc (.cells #[.int .i64 41] 3) = w1 at K1 hb1 ⊢
  obtain ⟨b0, b1, b2, b3, b4, b5, b6⟩ := hb1.seven
  have z := hb1.free
  go_wp2
  first | go_end0 | ((try simp only [Exit.inBlock, Exit.then]); refine bodyPost_ret (results_none rfl _ _ _) rfl ?_)
  exact ⟨rfl, hb1.set 0 _, K1.setCell (Or.inr rfl) _⟩

set_option maxHeartbeats 1000000 in
theorem withImm27_0 (s b : Nat) (rd r1 im : Int) (w : World) (hs : s < 4294967296) (hc : pc s 0 7 = 27) (hu : pc s 25 7 = 0) (hb : Has w b 28 (I7 0 rd r1 0 im 0 4)) :
    Calls Tryz.prog 33 #[.int .u32 s, .int .i64 1, .pointer (some ⟨b, 0, none⟩)] w fun e w' => e = .returned (.tuple #[]) ∧ Has w' b 28 (I7 42 rd r1 0 (pc s 20 5 : Nat) 0 4) ∧ Kp (some b) w w' := by
  have FI := Lib.hid (fun w => F_any s 24 20 w hs (by omega) (by omega))
  have FU := Lib.hid (fun w => F_any s 31 25 w hs (by omega) (by omega))
  have e2 : pc s 20 (24 + 1 - 20) = pc s 20 5 := rfl
  rw [e2] at FI; clear e2
  have e1 : pc s 25 (31 + 1 - 25) = 0 := hu
  rw [e1] at FU; clear e1 hu
  generalize pc s 20 5 = p at *
  have FO := Lib.hid (fun w => F_any s 6 0 w hs (by omega) (by omega))
  have e0 : pc s 0 (6 + 1 - 0) = 27 := hc
  rw [e0] at FO; clear e0 hc
  have K1 := (Kp.refl (some b) w).alloc #[.int .i64 41] 3
  have hb1 := hb.alloc (.cells #[.int .i64 41] 3)
  go_enter Tryz.func33, Tryz.ntmps33
  go_wp2_with fail
  refine (FO.out _).mono ?_
  rintro e w1 ⟨rfl, rfl⟩
  go_wp2_with fail
  refine (one_new [41] 1 w _ (by rfl) (by decide)).mono ?_
  rintro e w1 ⟨rfl, rfl⟩
  clear FO
  generalize w.alloc (.cells #[.int .i64 41] 3) = w1 at K1 hb1 ⊢
  obtain ⟨b0, b1, b2, b3, b4, b5, b6⟩ := hb1.seven
  have z := hb1.free
  go_wp2_with fail
  refine (FI.out _).mono ?_
  rintro e w2 ⟨rfl, rfl⟩
  go_wp2_with fail
  refine (FU.out _).mono ?_
  rintro e w2 ⟨rfl, rfl⟩
  go_wp2
  first | go_end0 | ((try simp only [Exit.inBlock, Exit.then]); refine bodyPost_ret (results_none rfl _ _ _) rfl ?_)
  exact ⟨rfl, (((hb1.set 0 _).set 4 _).set 0 _), (((K1.setCell (p := ⟨b, 0, none⟩) (Or.inr rfl) _).setCell (p := ⟨b, 4, none⟩) (Or.inr rfl) _).setCell (p := ⟨b, 0, none⟩) (Or.inr rfl) _)⟩

set_option maxHeartbeats 1000000 in
theorem withImm27_1 (s b : Nat) (rd r1 im : Int) (w : World) (hs : s < 4294967296) (hc : pc s 0 7 = 27) (hu : pc s 25 7 = 0) (hb : Has w b 28 (I7 0 rd r1 0 im 0 4)) :
    Calls Tryz.prog 33 #[.int .u32 s, .int .i64 5, .pointer (some ⟨b, 0, none⟩)] w fun e w' => e = .returned (.tuple #[]) ∧ Has w' b 28 (I7 43 rd r1 0 (pc s 20 5 : Nat) 0 4) ∧ Kp (some b) w w' := by
  have FI := Lib.hid (fun w => F_any s 24 20 w hs (by omega) (by omega))
  have FU := Lib.hid (fun w => F_any s 31 25 w hs (by omega) (by omega))
  have e2 : pc s 20 (24 + 1 - 20) = pc s 20 5 := rfl
  rw [e2] at FI; clear e2
  have e1 : pc s 25 (31 + 1 - 25) = 0 := hu
  rw [e1] at FU; clear e1 hu
  generalize pc s 20 5 = p at *
  have FO := Lib.hid (fun w => F_any s 6 0 w hs (by omega) (by omega))
  have e0 : pc s 0 (6 + 1 - 0) = 27 := hc
  rw [e0] at FO; clear e0 hc
  have K1 := (Kp.refl (some b) w).alloc #[.int .i64 41] 3
  have hb1 := hb.alloc (.cells #[.int .i64 41] 3)
  go_enter Tryz.func33, Tryz.ntmps33
  go_wp2_with fail
  refine (FO.out _).mono ?_
  rintro e w1 ⟨rfl, rfl⟩
  go_wp2_with fail
  refine (one_new [41] 5 w _ (by rfl) (by decide)).mono ?_
  rintro e w1 ⟨rfl, rfl⟩
  clear FO
  generalize w.alloc (.cells #[.int .i64 41] 3) = w1 at K1 hb1 ⊢
  obtain ⟨b0, b1, b2, b3, b4, b5, b6⟩ := hb1.seven
  have z := hb1.free
  go_wp2_with fail
  refine (FI.out _).mono ?_
  rintro e w2 ⟨rfl, rfl⟩
  go_wp2_with fail
  refine (FU.out _).mono ?_
  rintro e w2 ⟨rfl, rfl⟩
  go_wp2
  first | go_end0 | ((try simp only [Exit.inBlock, Exit.then]); refine bodyPost_ret (results_none rfl _ _ _) rfl ?_)
  exact ⟨rfl, (((hb1.set 0 _).set 4 _).set 0 _), (((K1.setCell (p := ⟨b, 0, none⟩) (Or.inr rfl) _).setCell (p := ⟨b, 4, none⟩) (Or.inr rfl) _).setCell (p := ⟨b, 0, none⟩) (Or.inr rfl) _)⟩

set_option maxHeartbeats 1000000 in
theorem withImm27_2 (s b : Nat) (rd r1 im : Int) (w : World) (hs : s < 4294967296) (hc : pc s 0 7 = 27) (hu : pc s 25 7 = 32) (hb : Has w b 28 (I7 0 rd r1 0 im 0 4)) :
    Calls Tryz.prog 33 #[.int .u32 s, .int .i64 5, .pointer (some ⟨b, 0, none⟩)] w fun e w' => e = .returned (.tuple #[]) ∧ Has w' b 28 (I7 44 rd r1 0 (pc s 20 5 : Nat) 0 4) ∧ Kp (some b) w w' := by
  have FI := Lib.hid (fun w => F_any s 24 20 w hs (by omega) (by omega))
  have FU := Lib.hid (fun w => F_any s 31 25 w hs (by omega) (by omega))
  have e2 : pc s 20 (24 + 1 - 20) = pc s 20 5 := rfl
  rw [e2] at FI; clear e2
  have e1 : pc s 25 (31 + 1 - 25) = 32 := hu
  rw [e1] at FU; clear e1 hu
  generalize pc s 20 5 = p at *
  have FO := Lib.hid (fun w => F_any s 6 0 w hs (by omega) (by omega))
  have e0 : pc s 0 (6 + 1 - 0) = 27 := hc
  rw [e0] at FO; clear e0 hc
  have K1 := (Kp.refl (some b) w).alloc #[.int .i64 41] 3
  have hb1 := hb.alloc (.cells #[.int .i64 41] 3)
  go_enter Tryz.func33, Tryz.ntmps33
  go_wp2_with fail
  refine (FO.out _).mono ?_
  rintro e w1 ⟨rfl, rfl⟩
  go_wp2_with fail
  refine (one_new [41] 5 w _ (by rfl) (by decide)).mono ?_
  rintro e w1 ⟨rfl, rfl⟩
  clear FO
  generalize w.alloc (.cells #[.int .i64 41] 3) = w1 at K1 hb1 ⊢
  obtain ⟨b0, b1, b2, b3, b4, b5, b6⟩ := hb1.seven
  have z := hb1.free
  go_wp2_with fail
  refine (FI.out _).mono ?_
  rintro e w2 ⟨rfl, rfl⟩
  go_wp2_with fail
  refine (FU.out _).mono ?_
  rintro e w2 ⟨rfl, rfl⟩
  go_wp2
  first | go_end0 | ((try simp only [Exit.inBlock, Exit.then]); refine bodyPost_ret (results_none rfl _ _ _) rfl ?_)
  exact ⟨rfl, (((hb1.set 0 _).set 4 _).set 0 _), (((K1.setCell (p := ⟨b, 0, none⟩) (Or.inr rfl) _).setCell (p := ⟨b, 4, none⟩) (Or.inr rfl) _).setCell (p := ⟨b, 0, none⟩) (Or.inr rfl) _)⟩

set_option maxHeartbeats 1000000 in
theorem withImm27_3 (s b : Nat) (rd r1 im : Int) (w : World) (hs : s < 4294967296) (hc : pc s 0 7 = 27) (hu0 : ((pc s 25 7 : Int) == 0) = false) (hb : Has w b 28 (I7 0 rd r1 0 im 0 4)) :
    Calls Tryz.prog 33 #[.int .u32 s, .int .i64 1, .pointer (some ⟨b, 0, none⟩)] w fun e w' => e = .returned (.tuple #[]) ∧ Has w' b 28 (I7 0 rd r1 0 (pc s 20 5 : Nat) 0 4) ∧ Kp (some b) w w' := by
  have FI := Lib.hid (fun w => F_any s 24 20 w hs (by omega) (by omega))
  have FU := Lib.hid (fun w => F_any s 31 25 w hs (by omega) (by omega))
  have e2 : pc s 20 (24 + 1 - 20) = pc s 20 5 := rfl
  rw [e2] at FI; clear e2
  have e1 : pc s 25 (31 + 1 - 25) = pc s 25 7 := rfl
  rw [e1] at FU; clear e1
  generalize pc s 25 7 = u at *
  generalize pc s 20 5 = p at *
  have FO := Lib.hid (fun w => F_any s 6 0 w hs (by omega) (by omega))
  have e0 : pc s 0 (6 + 1 - 0) = 27 := hc
  rw [e0] at FO; clear e0 hc
  have K1 := (Kp.refl (some b) w).alloc #[.int .i64 41] 3
  have hb1 := hb.alloc (.cells #[.int .i64 41] 3)
  go_enter Tryz.func33, Tryz.ntmps33
  go_wp2_with fail
  refine (FO.out _).mono ?_
  rintro e w1 ⟨rfl, rfl⟩
  go_wp2_with fail
  refine (one_new [41] 1 w _ (by rfl) (by decide)).mono ?_
  rintro e w1 ⟨rfl, rfl⟩
  clear FO
  generalize w.alloc (.cells #[.int .i64 41] 3) = w1 at K1 hb1 ⊢
  obtain ⟨b0, b1, b2, b3, b4, b5, b6⟩ := hb1.seven
  have z := hb1.free
  go_wp2_with fail
  refine (FI.out _).mono ?_
  rintro e w2 ⟨rfl, rfl⟩
  go_wp2_with fail
  refine (FU.out _).mono ?_
  rintro e w2 ⟨rfl, rfl⟩
  go_wp2
  first | go_end0 | ((try simp only [Exit.inBlock, Exit.then]); refine bodyPost_ret (results_none rfl _ _ _) rfl ?_)
  exact ⟨rfl, ((hb1.set 0 _).set 4 _), (((K1.setCell (p := ⟨b, 0, none⟩) (Or.inr rfl) _).setCell (p := ⟨b, 4, none⟩) (Or.inr rfl) _))⟩

set_option maxHeartbeats 1000000 in
theorem withImm27_4 (s b : Nat) (rd r1 im : Int) (w : World) (hs : s < 4294967296) (hc : pc s 0 7 = 27) (hu0 : ((pc s 25 7 : Int) == 0) = false) (hu32 : ((pc s 25 7 : Int) == 32) = false) (hb : Has w b 28 (I7 0 rd r1 0 im 0 4)) :
    Calls Tryz.prog 33 #[.int .u32 s, .int .i64 5, .pointer (some ⟨b, 0, none⟩)] w fun e w' => e = .returned (.tuple #[]) ∧ Has w' b 28 (I7 0 rd r1 0 (pc s 20 5 : Nat) 0 4) ∧ Kp (some b) w w' := by
  have FI := Lib.hid (fun w => F_any s 24 20 w hs (by omega) (by omega))
  have FU := Lib.hid (fun w => F_any s 31 25 w hs (by omega) (by omega))
  have e2 : pc s 20 (24 + 1 - 20) = pc s 20 5 := rfl
  rw [e2] at FI; clear e2
  have e1 : pc s 25 (31 + 1 - 25) = pc s 25 7 := rfl
  rw [e1] at FU; clear e1
  generalize pc s 25 7 = u at *
  generalize pc s 20 5 = p at *
  have FO := Lib.hid (fun w => F_any s 6 0 w hs (by omega) (by omega))
  have e0 : pc s 0 (6 + 1 - 0) = 27 := hc
  rw [e0] at FO; clear e0 hc
  have K1 := (Kp.refl (some b) w).alloc #[.int .i64 41] 3
  have hb1 := hb.alloc (.cells #[.int .i64 41] 3)
  go_enter Tryz.func33, Tryz.ntmps33
  go_wp2_with fail
  refine (FO.out _).mono ?_
  rintro e w1 ⟨rfl, rfl⟩
  go_wp2_with fail
  refine (one_new [41] 5 w _ (by rfl) (by decide)).mono ?_
  rintro e w1 ⟨rfl, rfl⟩
  clear FO
  generalize w.alloc (.cells #[.int .i64 41] 3) = w1 at K1 hb1 ⊢
  obtain ⟨b0, b1, b2, b3, b4, b5, b6⟩ := hb1.seven
  have z := hb1.free
  go_wp2_with fail
  refine (FI.out _).mono ?_
  rintro e w2 ⟨rfl, rfl⟩
  go_wp2_with fail
  refine (FU.out _).mono ?_
  rintro e w2 ⟨rfl, rfl⟩
  go_wp2
  first | go_end0 | ((try simp only [Exit.inBlock, Exit.then]); refine bodyPost_ret (results_none rfl _ _ _) rfl ?_)
  exact ⟨rfl, ((hb1.set 0 _).set 4 _), (((K1.setCell (p := ⟨b, 0, none⟩) (Or.inr rfl) _).setCell (p := ⟨b, 4, none⟩) (Or.inr rfl) _))⟩

def codesA : List Int := [2, 3, 1, 0, 4, 12, 8, 16, 20, 24, 28]
/-- The operator behind so many codes. -/
def opU (f5 f3 : Nat) (z : Bool) : Nat → Int
  | 0 => 0
  | k + 1 => if codesA.getD k 0 = f5 ∧ ¬ (k = 0 ∧ z = true) then (if f3 = 2 then 63 + k else if f3 = 3 then 74 + k else opU f5 f3 z k) else opU f5 f3 z k

set_option maxHeartbeats 2000000 in
theorem refAtomic_any (f5 f3 b : Nat) (rd r1 r2 od : Int) (w : World) (h3 : f3 < 8) (hb : Has w b 28 (I7 0 rd r1 r2 0 od 4)) :
    Calls Tryz.prog 34 #[.int .i64 f5, .int .i64 f3, .pointer (some ⟨b, 0, none⟩)] w fun e w' => e = .returned (.tuple #[]) ∧ Has w' b 28 (I7 (opU f5 f3 (decide (r2 ≠ 0)) 11) rd r1 r2 0 od 4) ∧ Kp (some b) w w' := by
  have K1 := (Kp.refl (some b) w).alloc #[.int .i64 2, .int .i64 3, .int .i64 1, .int .i64 0, .int .i64 4, .int .i64 12, .int .i64 8, .int .i64 16, .int .i64 20, .int .i64 24, .int .i64 28] 3
  have hb1 := hb.alloc (.cells #[.int .i64 2, .int .i64 3, .int .i64 1, .int .i64 0, .int .i64 4, .int .i64 12, .int .i64 8, .int .i64 16, .int .i64 20, .int .i64 24, .int .i64 28] 3)
  have hs1 := Has.new w #[.int .i64 2, .int .i64 3, .int .i64 1, .int .i64 0, .int .i64 4, .int .i64 12, .int .i64 8, .int .i64 16, .int .i64 20, .int .i64 24, .int .i64 28] 3
  have hne : b ≠ w.heap.size := Nat.ne_of_lt hb.lt
  go_enter Tryz.func34, Tryz.ntmps34
  go_wp2_with fail
  generalize w.alloc (.cells #[.int .i64 2, .int .i64 3, .int .i64 1, .int .i64 0, .int .i64 4, .int .i64 12, .int .i64 8, .int .i64 16, .int .i64 20, .int .i64 24, .int .i64 28] 3) = w1 at K1 hb1 hs1 ⊢
  have HK := Lib.hid K1; have HB := Lib.hid hb1; have HS := Lib.hid hs1; clear K1 hb1 hs1
  go_loopw [7] (fun i wr => ∃ k : Nat, k ≤ 11 ∧ i = .int .i64 k ∧ Has wr b 28 (I7 (opU f5 f3 (decide (r2 ≠ 0)) k) rd r1 r2 0 od 4) ∧ Kp (some b) w wr ∧ Has wr w.heap.size 3 #[.int .i64 2, .int .i64 3, .int .i64 1, .int .i64 0, .int .i64 4, .int .i64 12, .int .i64 8, .int .i64 16, .int .i64 20, .int .i64 24, .int .i64 28]) (fun i wr => 11 - (intOf i).toNat)
  case atStart => exact ⟨0, by omega, rfl, HB.out, HK.out, HS.out⟩
  case round =>
    obtain ⟨k, hk, rfl, hbk, hKk, hSk⟩ := hrel
    by_cases hlt : k < 11
    · have hcd : wr.cell? ⟨w.heap.size, k, none⟩ = some (.int .i64 (codesA.getD k 0)) := by
        rw [hSk.cell k]
        have hh : k = 0 ∨ k = 1 ∨ k = 2 ∨ k = 3 ∨ k = 4 ∨ k = 5 ∨ k = 6 ∨ k = 7 ∨ k = 8 ∨ k = 9 ∨ k = 10 := by omega
        rcases hh with rfl | rfl | rfl | rfl | rfl | rfl | rfl | rfl | rfl | rfl | rfl <;> rfl
      have hsk : opU f5 f3 (decide (r2 ≠ 0)) (k + 1) = if codesA.getD k 0 = f5 ∧ ¬ (k = 0 ∧ decide (r2 ≠ 0) = true) then (if f3 = 2 then (63 : Int) + k else if f3 = 3 then (74 : Int) + k else opU f5 f3 (decide (r2 ≠ 0)) k) else opU f5 f3 (decide (r2 ≠ 0)) k := rfl
      have HU := Lib.hid hsk; clear hsk
      obtain ⟨b0, b1, b2, b3, b4, b5, b6⟩ := hbk.seven
      have z := hbk.free
      have HKk := Lib.hid hKk; have HBk := Lib.hid hbk; have HSk := Lib.hid hSk; clear hKk hbk hSk
      have RND : ∀ (x : Int), opU f5 f3 (decide (r2 ≠ 0)) (k + 1) = x → ∀ w2, Has w2 b 28 (I7 x rd r1 r2 0 od 4) → Kp (some b) w w2 → Has w2 w.heap.size 3 #[.int .i64 2, .int .i64 3, .int .i64 1, .int .i64 0, .int .i64 4, .int .i64 12, .int .i64 8, .int .i64 16, .int .i64 20, .int .i64 24, .int .i64 28] →
          ∃ k1 : Nat, k1 ≤ 11 ∧ Value.int .i64 ((k : Int) + 1) = .int .i64 k1 ∧ Has w2 b 28 (I7 (opU f5 f3 (decide (r2 ≠ 0)) k1) rd r1 r2 0 od 4) ∧ Kp (some b) w w2 ∧ Has w2 w.heap.size 3 #[.int .i64 2, .int .i64 3, .int .i64 1, .int .i64 0, .int .i64 4, .int .i64 12, .int .i64 8, .int .i64 16, .int .i64 20, .int .i64 24, .int .i64 28] :=
        fun x hx w2 a1 a2 a3 => ⟨k + 1, by omega, rfl, by rw [hx]; exact a1, a2, a3⟩
      have RN := Lib.hid RND; clear RND
      have HNE := Lib.hid hne
      generalize codesA.getD k 0 = c at *
      generalize opU f5 f3 (decide (r2 ≠ 0)) k = u at *
      by_cases hA : c = (f5 : Int)
      · by_cases hB : k = 0 ∧ r2 ≠ 0
        · have HX : Hid (opU f5 f3 (decide (r2 ≠ 0)) (k + 1) = u) := Lib.hid (by rw [HU.out, if_neg]; intro h; exact h.2 ⟨hB.1, by simpa using hB.2⟩)
          obtain ⟨rfl, hr⟩ := hB
          have e1 : (r2 != 0) = true := by simpa using hr
          clear hr
          subst hA
          go_wp2
          go_roundw
          case rel => exact RN.out _ HX.out _ HBk.out HKk.out HSk.out
          case measure => simp [intOf] <;> omega
        · have hcond : c = (f5 : Int) ∧ ¬ (k = 0 ∧ decide (r2 ≠ 0) = true) := ⟨hA, fun h => hB ⟨h.1, by simpa using h.2⟩⟩
          have hU2 := HU.out
          rw [if_pos hcond] at hU2
          clear hcond
          subst hA
          have e0 : (r2 != 0 && (k : Int) == 0) = false := by
            rcases Nat.eq_zero_or_pos k with h | h
            · have : r2 = 0 := by
                rcases Int.decEq r2 0 with h' | h'
                · exact absurd ⟨h, h'⟩ hB
                · exact h'
              simp [this]
            · have : ((k : Int) == 0) = false := by simp; omega
              simp [this]
          by_cases h2 : f3 = 2
          · subst h2
            rw [if_pos rfl] at hU2
            have HX := Lib.hid hU2; clear hU2
            rcases Nat.eq_zero_or_pos k with h0 | h0
            · subst h0
              have hr : r2 = 0 := by simpa using e0
              subst hr
              clear e0 hB
              go_wp2
              go_roundw
              case rel => exact RN.out _ HX.out _ (HBk.out.set 0 _) (HKk.out.setCell (p := ⟨b, 0, none⟩) (Or.inr rfl) _) (HSk.out.other (Ne.symm HNE.out) _)
              case measure => simp [intOf] <;> omega
            · have e1 : ((k : Int) == 0) = false := by simp; omega
              clear e0 hB
              go_wp2
              go_roundw
              case rel => exact RN.out _ HX.out _ (HBk.out.set 0 _) (HKk.out.setCell (p := ⟨b, 0, none⟩) (Or.inr rfl) _) (HSk.out.other (Ne.symm HNE.out) _)
              case measure => simp [intOf] <;> omega
          · by_cases h3' : f3 = 3
            · subst h3'
              rw [if_neg (by decide), if_pos rfl] at hU2
              have HX := Lib.hid hU2; clear hU2 h2
              rcases Nat.eq_zero_or_pos k with h0 | h0
              · subst h0
                have hr : r2 = 0 := by simpa using e0
                subst hr
                clear e0 hB
                go_wp2
                go_roundw
                case rel => exact RN.out _ HX.out _ (HBk.out.set 0 _) (HKk.out.setCell (p := ⟨b, 0, none⟩) (Or.inr rfl) _) (HSk.out.other (Ne.symm HNE.out) _)
                case measure => simp [intOf] <;> omega
              · have e1 : ((k : Int) == 0) = false := by simp; omega
                clear e0 hB
                go_wp2
                go_roundw
                case rel => exact RN.out _ HX.out _ (HBk.out.set 0 _) (HKk.out.setCell (p := ⟨b, 0, none⟩) (Or.inr rfl) _) (HSk.out.other (Ne.symm HNE.out) _)
                case measure => simp [intOf] <;> omega
            · rw [if_neg h2, if_neg h3'] at hU2
              have HX := Lib.hid hU2; clear hU2
              have g2 : ((f3 : Int) == 2) = false := by simp; omega
              have g3 : ((f3 : Int) == 3) = false := by simp; omega
              clear h2 h3'
              rcases Nat.eq_zero_or_pos k with h0 | h0
              · subst h0
                have hr : r2 = 0 := by simpa using e0
                subst hr
                clear e0 hB
                go_wp2
                go_roundw
                case rel => exact RN.out _ HX.out _ HBk.out HKk.out HSk.out
                case measure => simp [intOf] <;> omega
              · have e1 : ((k : Int) == 0) = false := by simp; omega
                clear e0 hB
                go_wp2
                go_roundw
                case rel => exact RN.out _ HX.out _ HBk.out HKk.out HSk.out
                case measure => simp [intOf] <;> omega
      · have HX : Hid (opU f5 f3 (decide (r2 ≠ 0)) (k + 1) = u) := Lib.hid (by rw [HU.out, if_neg]; intro h; exact hA h.1)
        have e1 : (c != (f5 : Int)) = true := by simpa using hA
        clear hA
        go_wp2
        go_roundw
        case rel => exact RN.out _ HX.out _ HBk.out HKk.out HSk.out
        case measure => simp [intOf] <;> omega
    · obtain rfl : k = 11 := by omega
      go_wp2
      go_end0
      exact ⟨rfl, hbk, hKk⟩
end Go.Proofs.YtionnhjldcpmjaaGreatDoor
