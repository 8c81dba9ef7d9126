/-
  Text.
-/
import Derived.Test.YtionnhjldcpmjaaGreatDoorAsmD
import Derived.Test.YtionnhjldcpmjaaGreatDoorHead
import Derived.Deep.RegionHeld3
set_option linter.unusedVariables false
set_option linter.unusedSimpArgs false
namespace Go.Proofs.YtionnhjldcpmjaaGreatDoor
open Go.RowKit

theorem nm_len (op : Int) : (nm op).length ≤ 10 := by
  unfold nm
  split
  · have h : ∀ k : Nat, k < 89 → (nmT.getD k []).length ≤ 10 := by decide
    exact h _ (by omega)
  · simp
def ordOf (n : Nat) : List UInt8 := ordT.getD n []
theorem ordOf_len (n : Nat) : (ordOf n).length ≤ 5 := by
  rcases Nat.lt_or_ge n 4 with h | h
  · have : ∀ n : Nat, n < 4 → (ordOf n).length ≤ 5 := by decide
    exact this n h
  · unfold ordOf
    rw [List.getD_eq_getElem?_getD, List.getElem?_eq_none (by simpa [ordT] using h)]
    simp
/-- The parts as text, with what stands between. -/
def tl (i : Ins) (b : List UInt8) : List Int → List UInt8
  | [] => []
  | p :: ps => b ++ told i p ++ tl i [44, 32] ps
theorem tl_snoc (i : Ins) (p : Int) : ∀ (ps : List Int) (b : List UInt8), tl i b (ps ++ [p]) = tl i b ps ++ ((if ps = [] then b else [44, 32]) ++ told i p)
  | [], b => by simp [tl]
  | q :: ps, b => by
    have h := tl_snoc i p ps [44, 32]
    simp only [List.cons_append, tl, h]
    by_cases hp : ps = [] <;> simp [hp, List.append_assoc]
theorem told_len (i : Ins) (hi : In64 i) (p : Int) : (told i p).length ≤ 22 := by
  unfold told fld
  have h0 : -9223372036854775808 ≤ up i.im ∧ up i.im ≤ 9223372036854775807 := by unfold up; omega
  have h1 := itoa_len _ h0
  have h2 := itoa_len _ hi.im
  have h3 := itoa_len _ hi.rd
  have h4 := itoa_len _ hi.r1
  have h5 := itoa_len _ hi.r2
  split
  · omega
  · split
    · omega
    · split
      · simp; omega
      · split
        · simp; omega
        · split <;> (simp; omega)
theorem tl_len (i : Ins) (hi : In64 i) : ∀ (ps : List Int) (b : List UInt8), b.length ≤ 2 → (tl i b ps).length ≤ 24 * ps.length
  | [], b, _ => by simp [tl]
  | p :: ps, b, hb => by
    have h := tl_len i hi ps [44, 32] (by decide)
    have h2 := told_len i hi p
    simp only [tl, List.length_append, List.length_cons] at *
    omega
/-- An instruction's text. -/
def textL (i : Ins) : List UInt8 := nm i.op ++ ordOf i.od.toNat ++ tl i [32] (prt (frm i.op))
theorem prt_mem (f : Int) : ∀ p ∈ prt f, 0 ≤ p ∧ p ≤ 4 := by
  unfold prt
  repeat' split
  all_goals decide
theorem prt_cases (op : Int) : frm op = 0 ∨ (1 ≤ frm op ∧ frm op ≤ 9) := by
  unfold frm
  repeat' split
  all_goals omega
theorem prt_len (f : Int) : (prt f).length ≤ 3 := by
  unfold prt
  repeat' split
  all_goals simp
theorem Env.ord {a : Addr} {w : World} (h : Env a w) {n : Nat} (hn : n < 4) : w.cell? ⟨0, n, none⟩ = some (str (ordOf n)) := by
  have hh : n = 0 ∨ n = 1 ∨ n = 2 ∨ n = 3 := by omega
  rcases hh with rfl | rfl | rfl | rfl
  · exact h.o0
  · exact h.o1
  · exact h.o2
  · exact h.o3
set_option maxHeartbeats 1000000 in
theorem text_no (i : Ins) (a : Addr) (w : World) (hE : Env a w) (hB : encB i = false) :
    Calls Tryz.prog 12 #[.agg i.cells] w fun e w' => e = .returned (.tuple #[str [], .bool false]) ∧ Bl w w' := by
  have h0 := (Bl.refl w).alloc i.cells 28
  have hS := sound_any i (w.alloc (.cells i.cells 28)) (hE.bl h0).tabs
  rw [hB] at hS
  obtain ⟨b0, b1, b2, b3, b4, b5, b6⟩ := (Has.new w i.cells 28).seven
  have H0 := Lib.hid h0
  clear h0 hB
  go_enter Tryz.func12, Tryz.ntmps12
  go_wp2_with fail
  refine hS.mono ?_
  rintro e w1 ⟨rfl, k1⟩
  have K1 := Lib.hid k1
  clear k1 hS
  go_wp2
  go_ret2
  exact ⟨rfl, H0.out.trans K1.out.bl⟩
set_option maxHeartbeats 4000000 in
theorem text_yes (i : Ins) (a : Addr) (w : World) (hE : Env a w) (hi : In64 i) (hB : encB i = true) (n : Nat) (hn : n < 4) (hod : i.od = (n : Int)) :
    Calls Tryz.prog 12 #[.agg i.cells] w fun e w' => e = .returned (.tuple #[str (textL i), .bool true]) ∧ Bl w w' := by
  have h0 := (Bl.refl w).alloc i.cells 28
  have hS := sound_any i (w.alloc (.cells i.cells 28)) (hE.bl h0).tabs
  rw [hB] at hS
  have hx := Has.new w i.cells 28
  obtain ⟨b0, b1, b2, b3, b4, b5, b6⟩ := hx.seven
  have hT : textL i = (nm i.op ++ ordOf n) ++ tl i [32] (prt (frm i.op)) := by unfold textL; rw [hod]; simp
  rw [hT]
  have hlen : (nm i.op ++ ordOf n).length ≤ 15 := by have := nm_len i.op; have := ordOf_len n; simp; omega
  have ha := add_run (nm i.op) (ordOf n) ⟨by have := nm_len i.op; omega, by have := ordOf_len n; omega⟩
  generalize nm i.op ++ ordOf n = base at *
  generalize hps : prt (frm i.op) = ps
  have HPS := Lib.hid hps
  have HL := Lib.hid hlen
  clear hps hlen
  have hE0 := hE.bl h0
  have H0 := Lib.hid h0
  have HOD := Lib.hid hod
  have HI := Lib.hid hi
  clear h0 hB hT hod hi
  go_enter Tryz.func12, Tryz.ntmps12
  go_wp2_with fail
  refine hS.mono ?_
  rintro e w1 ⟨rfl, k1⟩
  have hE1 := hE0.bl k1.bl
  have hx1 := hx.bl k1.bl
  clear hS b0 b1 b2 b3 b4 b5 b6
  obtain ⟨b0, b1, b2, b3, b4, b5, b6⟩ := hx1.seven
  rw [HOD.out] at b5
  have HB := Lib.hid (H0.out.trans k1.bl)
  clear k1 H0 hx hE0 hE
  have hn1 : (n : Int) < 4 := by omega
  have hn0 : (0 : Int) ≤ (n : Int) := by omega
  have ho := hE1.ord hn
  have HX := Lib.hid hx1
  have HE := Lib.hid hE1
  clear hx1 hE1
  go_wp2_with fail
  refine wp_region_hd 7 (fun w' => w'.cell? ⟨w.heap.size, 0, none⟩ = some (.int .i64 i.op) ∧ w'.cell? ⟨w.heap.size, 5, none⟩ = some (.int .i64 (n : Int)) ∧ w'.cell? ⟨0, n, none⟩ = some (str (ordOf n))) (by kernel_rfl) (by decide) ⟨b0, b5, ho⟩ (fun hHeld => ?_)
  refine wpHd_take (i := 0) (v := ?_) rfl (by kernel_rfl) (fun _ _ _ h => h) (Or.inl ⟨by rfl, ?hy⟩) hHeld ?_
  case hy => (intro w hSw; (try dsimp only at hSw); go_split_ands; go_simp; try (with_reducible rfl))
  (try simp only [Act.put, List.setIfInBounds_toArray, List.set_cons_zero, List.set_cons_succ])
  refine wpHd_take (i := 1) (v := ?_) rfl (by kernel_rfl) (fun _ _ _ h => h) (Or.inl ⟨by rfl, ?hy⟩) hHeld ?_
  case hy => (intro w hSw; (try dsimp only at hSw); go_split_ands; go_simp; try (with_reducible rfl))
  (try simp only [Act.put, List.setIfInBounds_toArray, List.set_cons_zero, List.set_cons_succ])
  refine wpHd_take (i := 3) (v := ?_) rfl (by kernel_rfl) (fun _ _ _ h => h) (Or.inl ⟨by rfl, ?hy⟩) hHeld ?_
  case hy => (intro w hSw; (try dsimp only at hSw); go_split_ands; go_simp; try (with_reducible rfl))
  (try simp only [Act.put, List.setIfInBounds_toArray, List.set_cons_zero, List.set_cons_succ])
  refine wpHd_take (i := 4) (v := ?_) rfl (by kernel_rfl) (fun _ _ _ h => h) (Or.inl ⟨by rfl, ?hy⟩) hHeld ?_
  case hy => (intro w hSw; (try dsimp only at hSw); go_split_ands; go_simp; try (with_reducible rfl))
  (try simp only [Act.put, List.setIfInBounds_toArray, List.set_cons_zero, List.set_cons_succ])
  refine wpHd_take (i := 5) (v := ?_) rfl (by kernel_rfl) (fun _ _ _ h => h) (Or.inl ⟨by rfl, ?hy⟩) hHeld ?_
  case hy => (intro w hSw; (try dsimp only at hSw); go_split_ands; go_simp; try (with_reducible rfl))
  (try simp only [Act.put, List.setIfInBounds_toArray, List.set_cons_zero, List.set_cons_succ])
  refine wpHd_take (i := 6) (v := ?_) rfl (by kernel_rfl) (fun _ _ _ h => h) (Or.inl ⟨by rfl, ?hy⟩) hHeld ?_
  case hy => (intro w hSw; (try dsimp only at hSw); go_split_ands; go_simp; try (with_reducible rfl))
  (try simp only [Act.put, List.setIfInBounds_toArray, List.set_cons_zero, List.set_cons_succ])
  clear hHeld
  refine wpHd_one (i := 2) rfl (by kernel_rfl) (fun K hK => ?_)
  go_simp
  refine (name_any i.op _).mono ?_
  rintro e w2 ⟨rfl, k2⟩
  replace k2 : Bl w1 w2 := Bl.trans (Bl.refl w1).drew k2
  have hE2 := HE.out.bl k2
  have hx2 := HX.out.bl k2
  have HB2 := Lib.hid (HB.out.trans k2)
  obtain ⟨c0, c1, c2, c3, c4, c5, c6⟩ := hx2.seven
  refine hK.out _ _ ⟨c0, by rw [← HOD.out]; exact c5, hE2.ord hn⟩ (fun hHeld => ?_)
  clear hK K hHeld k2 b0 b1 b2 b3 b4 b5 b6 ho
  have HE2 := Lib.hid hE2
  have HX2 := Lib.hid hx2
  clear hE2 hx2
  (try simp only [Act.put, List.setIfInBounds_toArray, List.set_cons_zero, List.set_cons_succ])
  refine ⟨by kernel_rfl, ?_⟩
  simp only [List.drop_succ_cons, List.drop_zero]
  go_wp2_with fail
  refine (formOf_any i.op _).mono ?_
  rintro e w3 ⟨rfl, rfl⟩
  rcases prt_cases i.op with h0 | h0
  · have hz : ps = [] := by rw [← HPS.out, h0]; rfl
    have HZ := Lib.hid hz
    rw [h0]
    clear h0 hz
    go_wp2_with fail
    refine (parts_none _).mono ?_
    rintro e w3 ⟨rfl, rfl⟩
    go_wp2_with fail
    go_loop [4, 24] (fun t k => t = str base ∧ k = .int .i64 0) (fun t k => 0)
    case atStart => exact ⟨rfl, rfl⟩
    case round =>
      obtain ⟨rfl, rfl⟩ := hrel
      go_wp2
      go_ret2
      refine ⟨?_, HB2.out⟩
      rw [HZ.out]
      simp [tl]
  · have hm := prt_mem (frm i.op)
    have hl := prt_len (frm i.op)
    have hp := parts_some (frm i.op) w2 h0
    rw [HPS.out] at hm hl hp
    have HM := Lib.hid hm
    have HLn := Lib.hid hl
    clear hm hl h0
    go_wp2_with fail
    refine hp.mono ?_
    rintro e w3 ⟨b, rfl, hb3, k3⟩
    have HX3 := Lib.hid (HX2.out.bl k3.bl)
    have HE3 := Lib.hid (HE2.out.bl k3.bl)
    have HB3 := Lib.hid (HB2.out.trans k3.bl)
    have HP3 := Lib.hid hb3
    clear hp hb3 k3 HX2 HE2 HB2 ha HB HE HX
    go_wp2_with fail
    go_loopw [4, 5, 24] (fun t bt k wr => ∃ m : Nat, m ≤ ps.length ∧ k = .int .i64 m ∧ t = str (base ++ tl i [32] (ps.take m)) ∧ bt = str (if m = 0 then [32] else [44, 32]) ∧ Hid (Bl w3 wr)) (fun t bt k wr => ps.length - (intOf k).toNat)
    case atStart => exact ⟨0, by omega, rfl, by simp [tl], rfl, Lib.hid (Bl.refl _)⟩
    case round =>
      obtain ⟨m, hm, rfl, rfl, rfl, KW⟩ := hrel
      have hl3 := HLn.out
      by_cases hlt : m < ps.length
      · have hc : wr.cell? ⟨b, m, none⟩ = some (.int .i64 (ps[m]'hlt)) := by
          rw [(HP3.out.bl KW.out).cell m]
          simp [hlt]
        have hpm := HM.out (ps[m]'hlt) (List.getElem_mem hlt)
        have hsn : tl i [32] (ps.take (m + 1)) = tl i [32] (ps.take m) ++ ((if m = 0 then [32] else [44, 32]) ++ told i (ps[m]'hlt)) := by
          rw [List.take_succ_eq_append_getElem hlt, tl_snoc]
          congr 2
          by_cases h : m = 0
          · simp [h]
          · have : ps.take m ≠ [] := by
              intro h2
              rcases List.take_eq_nil_iff.1 h2 with h3 | h3
              · exact h h3
              · rw [h3] at hlt; simp at hlt
            simp [h, this]
        have htl := tl_len i HI.out (ps.take m) [32] (by decide)
        have hto := told_len i HI.out (ps[m]'hlt)
        have htell := tell_any i (ps[m]'hlt) a wr (HE3.out.bl KW.out) HI.out hpm
        obtain ⟨b0, b1, b2, b3, b4, b5, b6⟩ := (HX3.out.bl KW.out).seven
        have hlen2 : (ps.take m).length ≤ 3 := by have := HLn.out; simp; omega
        have hb2 : (if m = 0 then [32] else [44, 32] : List UInt8).length ≤ 2 := by split <;> simp
        have hbase := HL.out
        generalize ps[m]'hlt = p at *
        generalize hBT : (if m = 0 then [32] else [44, 32] : List UInt8) = bt at *
        generalize tl i [32] (ps.take m) = tm at *
        generalize told i p = td at *
        have ha1 := add_run bt td ⟨by omega, by omega⟩
        have ha2 := add_run (base ++ tm) (bt ++ td) ⟨by simp; omega, by simp; omega⟩
        have HSN := Lib.hid hsn
        clear hsn hBT hto htl hlen2 hb2 hbase hpm
        have hm64 : (m : Int) < (ps.length : Int) := by omega
        go_wp2_with fail
        refine htell.mono ?_
        rintro e w4 ⟨rfl, k4⟩
        have K4 := Lib.hid (KW.out.trans k4)
        clear k4 htell
        go_wp2
        go_roundw
        case rel => exact ⟨m + 1, by omega, by go_num, by rw [HSN.out], by rw [if_neg (by omega)], K4⟩
        case measure => simp [intOf] <;> omega
      · generalize (if m = 0 then [32] else [44, 32] : List UInt8) = bt
        obtain rfl : m = ps.length := by omega
        rw [List.take_length]
        go_wp2
        go_ret2
        exact ⟨rfl, HB3.out.trans KW.out⟩

end Go.Proofs.YtionnhjldcpmjaaGreatDoor
