/-
  Encode, Sound and the law's own question, for every instruction.
-/
import Derived.Test.YtionnhjldcpmjaaGreatDoorEncodeA
import Derived.Test.YtionnhjldcpmjaaGreatDoorEncodeB
import Derived.Test.YtionnhjldcpmjaaGreatDoorEncodeC
set_option linter.unusedVariables false
set_option linter.unusedSimpArgs false
namespace Go.Proofs.YtionnhjldcpmjaaGreatDoor
set_option maxRecDepth 100000
open Go.RowKit
theorem wT_lt : ∀ i : Nat, i < 16 → ∀ j : Nat, j < 8 → wT i j < 4294967296 := by decide
theorem keyF_lt (op : Int) : keyF op < 4294967296 := by
  unfold keyF
  split
  · rename_i n h
    have := List.mem_of_find?_eq_some h
    simp at this
    exact wT_lt _ (by omega) _ (by omega)
  · decide
theorem at_lt : ∀ f : Nat, f < 32 → (8239 ||| (f * 134217728)) < 4294967296 ∧ (12335 ||| (f * 134217728)) < 4294967296 := by decide
theorem keyA_lt (op : Int) : keyA op < 4294967296 := by
  unfold keyA
  split
  · rename_i n h
    have := List.mem_of_find?_eq_some h
    simp at this
    have h2 := at_lt (n / 2) (by omega)
    split
    · exact h2.1
    · exact h2.2
  · decide
theorem keyW_lt (op : Int) : keyW op < 4294967296 := by
  unfold keyW
  repeat' split
  all_goals first | decide | exact keyF_lt op | exact keyA_lt op
/-- The word that Encode tries. -/
def encS (i : Ins) : Nat := layF i (keyW i.op) (fmW (keyW i.op))
/-- Whether it is i's. -/
def encB (i : Ins) : Bool := decide (opW (encS i) ≠ 0 ∧ dec (encS i) = i)
abbrev EncPost (i : Ins) (w : World) : Ending → World → Prop := fun e w' => e = .returned (.tuple #[.int .u32 ((if encB i = true then encS i else 0 : Nat) : Int), .bool (encB i)]) ∧ Kp none w w'
theorem enc_yes {i : Ins} {w : World} {s : Nat} (h : encS i = s) (h1 : opW s ≠ 0) (h2 : dec s = i) (hC : Calls Tryz.prog 25 #[.agg i.cells] w fun e w' => e = .returned (.tuple #[.int .u32 (s : Nat), .bool true]) ∧ Kp none w w') :
    Calls Tryz.prog 25 #[.agg i.cells] w (EncPost i w) := by
  have e : encB i = true := by unfold encB; rw [h]; exact decide_eq_true ⟨h1, h2⟩
  unfold EncPost
  rw [e, if_pos rfl, h]; exact hC
theorem enc_no {i : Ins} {w : World} {s : Nat} (h : encS i = s) (h1 : ¬ (opW s ≠ 0 ∧ dec s = i)) (hC : Calls Tryz.prog 25 #[.agg i.cells] w fun e w' => e = .returned (.tuple #[.int .u32 0, .bool false]) ∧ Kp none w w') :
    Calls Tryz.prog 25 #[.agg i.cells] w (EncPost i w) := by
  have e : encB i = false := by unfold encB; rw [h]; exact decide_eq_false h1
  unfold EncPost
  rw [e]; exact hC
set_option maxHeartbeats 1000000 in
theorem encode_any (i : Ins) (w : World) (hT : Tabs w) : Calls Tryz.prog 25 #[.agg i.cells] w (EncPost i w) := by
  obtain ⟨op, rd, r1, r2, im, od, sz⟩ := i
  have hk := keyW_lt op
  have hm := fm_sh (pc (keyW op) 0 7) (pc (keyW op) 12 3)
  have ef : fmC (pc (keyW op) 0 7) (pc (keyW op) 12 3) = fmW (keyW op) := rfl
  rw [ef] at hm
  generalize hfm : fmW (keyW op) = fm at hm
  have hS : encS ⟨op, rd, r1, r2, im, od, sz⟩ = layF ⟨op, rd, r1, r2, im, od, sz⟩ (keyW op) fm := by unfold encS; rw [← hfm]
  cases fm with
  | up =>
    have hS2 : encS ⟨op, rd, r1, r2, im, od, sz⟩ = (ly (ly (keyW op) rd 7 5 0) im 12 20 12) := hS
    by_cases hz : opW (ly (ly (keyW op) rd 7 5 0) im 12 20 12) = 0
    · exact enc_no hS2 (fun h => h.1 hz) (encode_up_bad op rd r1 r2 im od sz _ w hT hk rfl hfm (by simp [hz]))
    · by_cases hd : dec (ly (ly (keyW op) rd 7 5 0) im 12 20 12) = ⟨op, rd, r1, r2, im, od, sz⟩
      · exact enc_yes hS2 hz hd (encode_up_yes op rd r1 r2 im od sz _ w hT hk rfl hfm (by simp [hz]) hd)
      · refine enc_no hS2 (fun h => hd h.2) ?_
        generalize hD : dec (ly (ly (keyW op) rd 7 5 0) im 12 20 12) = D at hd
        obtain ⟨e0, e1, e2, e3, e4, e5, e6⟩ := D
        exact encode_up_no op rd r1 r2 im od sz _ w hT hk rfl hfm (by simp [hz]) e0 e1 e2 e3 e4 e5 e6 hD hd
  | jp =>
    have hS2 : encS ⟨op, rd, r1, r2, im, od, sz⟩ = (ly (ly (ly (ly (ly (keyW op) rd 7 5 0) im 31 1 20) im 12 8 12) im 20 1 11) im 21 10 1) := hS
    by_cases hz : opW (ly (ly (ly (ly (ly (keyW op) rd 7 5 0) im 31 1 20) im 12 8 12) im 20 1 11) im 21 10 1) = 0
    · exact enc_no hS2 (fun h => h.1 hz) (encode_jp_bad op rd r1 r2 im od sz _ w hT hk rfl hfm (by simp [hz]))
    · by_cases hd : dec (ly (ly (ly (ly (ly (keyW op) rd 7 5 0) im 31 1 20) im 12 8 12) im 20 1 11) im 21 10 1) = ⟨op, rd, r1, r2, im, od, sz⟩
      · exact enc_yes hS2 hz hd (encode_jp_yes op rd r1 r2 im od sz _ w hT hk rfl hfm (by simp [hz]) hd)
      · refine enc_no hS2 (fun h => hd h.2) ?_
        generalize hD : dec (ly (ly (ly (ly (ly (keyW op) rd 7 5 0) im 31 1 20) im 12 8 12) im 20 1 11) im 21 10 1) = D at hd
        obtain ⟨e0, e1, e2, e3, e4, e5, e6⟩ := D
        exact encode_jp_no op rd r1 r2 im od sz _ w hT hk rfl hfm (by simp [hz]) e0 e1 e2 e3 e4 e5 e6 hD hd
  | im =>
    have hS2 : encS ⟨op, rd, r1, r2, im, od, sz⟩ = (ly (ly (ly (keyW op) rd 7 5 0) r1 15 5 0) im 20 12 0) := hS
    by_cases hz : opW (ly (ly (ly (keyW op) rd 7 5 0) r1 15 5 0) im 20 12 0) = 0
    · exact enc_no hS2 (fun h => h.1 hz) (encode_im_bad op rd r1 r2 im od sz _ w hT hk rfl hfm (by simp [hz]))
    · by_cases hd : dec (ly (ly (ly (keyW op) rd 7 5 0) r1 15 5 0) im 20 12 0) = ⟨op, rd, r1, r2, im, od, sz⟩
      · exact enc_yes hS2 hz hd (encode_im_yes op rd r1 r2 im od sz _ w hT hk rfl hfm (by simp [hz]) hd)
      · refine enc_no hS2 (fun h => hd h.2) ?_
        generalize hD : dec (ly (ly (ly (keyW op) rd 7 5 0) r1 15 5 0) im 20 12 0) = D at hd
        obtain ⟨e0, e1, e2, e3, e4, e5, e6⟩ := D
        exact encode_im_no op rd r1 r2 im od sz _ w hT hk rfl hfm (by simp [hz]) e0 e1 e2 e3 e4 e5 e6 hD hd
  | br =>
    have hS2 : encS ⟨op, rd, r1, r2, im, od, sz⟩ = (ly (ly (ly (ly (ly (ly (keyW op) r1 15 5 0) r2 20 5 0) im 31 1 12) im 7 1 11) im 25 6 5) im 8 4 1) := hS
    by_cases hz : opW (ly (ly (ly (ly (ly (ly (keyW op) r1 15 5 0) r2 20 5 0) im 31 1 12) im 7 1 11) im 25 6 5) im 8 4 1) = 0
    · exact enc_no hS2 (fun h => h.1 hz) (encode_br_bad op rd r1 r2 im od sz _ w hT hk rfl hfm (by simp [hz]))
    · by_cases hd : dec (ly (ly (ly (ly (ly (ly (keyW op) r1 15 5 0) r2 20 5 0) im 31 1 12) im 7 1 11) im 25 6 5) im 8 4 1) = ⟨op, rd, r1, r2, im, od, sz⟩
      · exact enc_yes hS2 hz hd (encode_br_yes op rd r1 r2 im od sz _ w hT hk rfl hfm (by simp [hz]) hd)
      · refine enc_no hS2 (fun h => hd h.2) ?_
        generalize hD : dec (ly (ly (ly (ly (ly (ly (keyW op) r1 15 5 0) r2 20 5 0) im 31 1 12) im 7 1 11) im 25 6 5) im 8 4 1) = D at hd
        obtain ⟨e0, e1, e2, e3, e4, e5, e6⟩ := D
        exact encode_br_no op rd r1 r2 im od sz _ w hT hk rfl hfm (by simp [hz]) e0 e1 e2 e3 e4 e5 e6 hD hd
  | st =>
    have hS2 : encS ⟨op, rd, r1, r2, im, od, sz⟩ = (ly (ly (ly (ly (keyW op) r1 15 5 0) r2 20 5 0) im 25 7 5) im 7 5 0) := hS
    by_cases hz : opW (ly (ly (ly (ly (keyW op) r1 15 5 0) r2 20 5 0) im 25 7 5) im 7 5 0) = 0
    · exact enc_no hS2 (fun h => h.1 hz) (encode_st_bad op rd r1 r2 im od sz _ w hT hk rfl hfm (by simp [hz]))
    · by_cases hd : dec (ly (ly (ly (ly (keyW op) r1 15 5 0) r2 20 5 0) im 25 7 5) im 7 5 0) = ⟨op, rd, r1, r2, im, od, sz⟩
      · exact enc_yes hS2 hz hd (encode_st_yes op rd r1 r2 im od sz _ w hT hk rfl hfm (by simp [hz]) hd)
      · refine enc_no hS2 (fun h => hd h.2) ?_
        generalize hD : dec (ly (ly (ly (ly (keyW op) r1 15 5 0) r2 20 5 0) im 25 7 5) im 7 5 0) = D at hd
        obtain ⟨e0, e1, e2, e3, e4, e5, e6⟩ := D
        exact encode_st_no op rd r1 r2 im od sz _ w hT hk rfl hfm (by simp [hz]) e0 e1 e2 e3 e4 e5 e6 hD hd
  | rg =>
    have hS2 : encS ⟨op, rd, r1, r2, im, od, sz⟩ = (ly (ly (ly (keyW op) rd 7 5 0) r1 15 5 0) r2 20 5 0) := hS
    by_cases hz : opW (ly (ly (ly (keyW op) rd 7 5 0) r1 15 5 0) r2 20 5 0) = 0
    · exact enc_no hS2 (fun h => h.1 hz) (encode_rg_bad op rd r1 r2 im od sz _ w hT hk rfl hfm (by simp [hz]))
    · by_cases hd : dec (ly (ly (ly (keyW op) rd 7 5 0) r1 15 5 0) r2 20 5 0) = ⟨op, rd, r1, r2, im, od, sz⟩
      · exact enc_yes hS2 hz hd (encode_rg_yes op rd r1 r2 im od sz _ w hT hk rfl hfm (by simp [hz]) hd)
      · refine enc_no hS2 (fun h => hd h.2) ?_
        generalize hD : dec (ly (ly (ly (keyW op) rd 7 5 0) r1 15 5 0) r2 20 5 0) = D at hd
        obtain ⟨e0, e1, e2, e3, e4, e5, e6⟩ := D
        exact encode_rg_no op rd r1 r2 im od sz _ w hT hk rfl hfm (by simp [hz]) e0 e1 e2 e3 e4 e5 e6 hD hd
  | am =>
    have hS2 : encS ⟨op, rd, r1, r2, im, od, sz⟩ = (ly (ly (ly (ly (keyW op) rd 7 5 0) r1 15 5 0) r2 20 5 0) od 25 2 0) := hS
    by_cases hz : opW (ly (ly (ly (ly (keyW op) rd 7 5 0) r1 15 5 0) r2 20 5 0) od 25 2 0) = 0
    · exact enc_no hS2 (fun h => h.1 hz) (encode_am_bad op rd r1 r2 im od sz _ w hT hk rfl hfm (by simp [hz]))
    · by_cases hd : dec (ly (ly (ly (ly (keyW op) rd 7 5 0) r1 15 5 0) r2 20 5 0) od 25 2 0) = ⟨op, rd, r1, r2, im, od, sz⟩
      · exact enc_yes hS2 hz hd (encode_am_yes op rd r1 r2 im od sz _ w hT hk rfl hfm (by simp [hz]) hd)
      · refine enc_no hS2 (fun h => hd h.2) ?_
        generalize hD : dec (ly (ly (ly (ly (keyW op) rd 7 5 0) r1 15 5 0) r2 20 5 0) od 25 2 0) = D at hd
        obtain ⟨e0, e1, e2, e3, e4, e5, e6⟩ := D
        exact encode_am_no op rd r1 r2 im od sz _ w hT hk rfl hfm (by simp [hz]) e0 e1 e2 e3 e4 e5 e6 hD hd
  | sh m =>
    have hS2 : encS ⟨op, rd, r1, r2, im, od, sz⟩ = (ly (ly (ly (keyW op) rd 7 5 0) r1 15 5 0) im 20 m 0) := hS
    by_cases hz : opW (ly (ly (ly (keyW op) rd 7 5 0) r1 15 5 0) im 20 m 0) = 0
    · exact enc_no hS2 (fun h => h.1 hz) (encode_sh_bad op rd r1 r2 im od sz _ m (hm m rfl) w hT hk rfl hfm (by simp [hz]))
    · by_cases hd : dec (ly (ly (ly (keyW op) rd 7 5 0) r1 15 5 0) im 20 m 0) = ⟨op, rd, r1, r2, im, od, sz⟩
      · exact enc_yes hS2 hz hd (encode_sh_yes op rd r1 r2 im od sz _ m (hm m rfl) w hT hk rfl hfm (by simp [hz]) hd)
      · refine enc_no hS2 (fun h => hd h.2) ?_
        generalize hD : dec (ly (ly (ly (keyW op) rd 7 5 0) r1 15 5 0) im 20 m 0) = D at hd
        obtain ⟨e0, e1, e2, e3, e4, e5, e6⟩ := D
        exact encode_sh_no op rd r1 r2 im od sz _ m (hm m rfl) w hT hk rfl hfm (by simp [hz]) e0 e1 e2 e3 e4 e5 e6 hD hd
  | ba =>
    have hS2 : encS ⟨op, rd, r1, r2, im, od, sz⟩ = (keyW op) := hS
    by_cases hz : opW (keyW op) = 0
    · exact enc_no hS2 (fun h => h.1 hz) (encode_ba_bad op rd r1 r2 im od sz _ w hT hk rfl hfm (by simp [hz]))
    · by_cases hd : dec (keyW op) = ⟨op, rd, r1, r2, im, od, sz⟩
      · exact enc_yes hS2 hz hd (encode_ba_yes op rd r1 r2 im od sz _ w hT hk rfl hfm (by simp [hz]) hd)
      · refine enc_no hS2 (fun h => hd h.2) ?_
        generalize hD : dec (keyW op) = D at hd
        obtain ⟨e0, e1, e2, e3, e4, e5, e6⟩ := D
        exact encode_ba_no op rd r1 r2 im od sz _ w hT hk rfl hfm (by simp [hz]) e0 e1 e2 e3 e4 e5 e6 hD hd
  | no =>
    refine enc_no hS (fun h => h.1 ?_) (encode_none op rd r1 r2 im od sz _ w hT hk rfl hfm)
    exact no_zero _ _ _ _ hfm

/-- Sound. -/
theorem sound_any (i : Ins) (w : World) (hT : Tabs w) : Calls Tryz.prog 13 #[.agg i.cells] w fun e w' => e = .returned (.bool (encB i)) ∧ Kp none w w' := by
  have k0 := (Kp.refl none w).alloc i.cells 28
  have b0 := Has.new w i.cells 28
  obtain ⟨v, B, hB, hC⟩ : ∃ (v : Nat) (B : Bool), encB i = B ∧ Calls Tryz.prog 25 #[.agg i.cells] (w.alloc (.cells i.cells 28)) fun e w' => e = .returned (.tuple #[.int .u32 (v : Int), .bool B]) ∧ Kp none (w.alloc (.cells i.cells 28)) w' := ⟨_, _, rfl, encode_any i _ (hT.kp k0)⟩
  rw [hB]
  have HE := Lib.hid hC
  clear hT hB hC
  obtain ⟨op, rd, r1, r2, im, od, sz⟩ := i
  go_enter Tryz.func13, Tryz.ntmps13
  go_wp2_with fail
  refine HE.out.mono ?_
  rintro e w1 ⟨rfl, k1⟩
  go_wp2
  go_ret
  exact ⟨rfl, k0.trans k1⟩
end Go.Proofs.YtionnhjldcpmjaaGreatDoor
