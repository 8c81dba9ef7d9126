/-
  The contract of Encode, a form each.
-/
import Derived.Test.YtionnhjldcpmjaaGreatDoorEncodeH
set_option linter.unusedVariables false
set_option linter.unusedSimpArgs false
namespace Go.Proofs.YtionnhjldcpmjaaGreatDoor
set_option maxRecDepth 100000
open Go.RowKit
set_option maxHeartbeats 1000000 in
theorem encode_up_bad (op rd r1 r2 im od sz : Int) (key : Nat) (w : World) (hT : Tabs w) (hs : key < 4294967296) (hk : keyW op = key) (hfm : fmW key = .up) (hz : decide (opW (ly (ly key rd 7 5 0) im 12 20 12) ≠ 0) = false) :
    Calls Tryz.prog 25 #[.agg (I7 op rd r1 r2 im od sz)] w fun e w' => e = .returned (.tuple #[.int .u32 0, .bool false]) ∧ Kp none w w' := by
  have k0 := (Kp.refl none w).alloc (I7 op rd r1 r2 im od sz) 28
  have b0 := Has.new w (I7 op rd r1 r2 im od sz) 28
  have T0 := hT.kp k0
  have HK := Lib.hid (keyOf_any op _ T0)
  rw [hk] at HK
  have HL := Lib.hid (fun w h => look_any key w hs h)
  rw [hfm] at HL
  clear hk hfm
  generalize opW key = o at *
  go_enter Tryz.func25, Tryz.ntmps25
  go_wp2_with fail
  refine HK.out.mono ?_
  rintro e w1 ⟨rfl, k1⟩
  have K1 := k0.trans k1
  have b1 := (b0.kp k1 (by simp)).alloc (.cells #[.int .u32 (key : Nat)] 40)
  have T1 := (T0.kp k1).kp ((Kp.refl none _).alloc #[.int .u32 (key : Nat)] 40)
  have h2 := Has.new w1 #[.int .u32 (key : Nat)] 40
  have hwle : w.heap.size < w1.heap.size := (b0.kp k1 (by simp)).lt
  clear HK k0 k1 b0 T0
  go_wp2_with fail
  refine (HL.out _ T1).mono ?_
  rintro e w3 ⟨v, rfl, rfl, k3⟩
  have b3 := b1.kp k3 (by simp)
  have h3 := h2.kp k3 (by simp)
  have T3 := T1.kp k3
  have K3 := (K1.alloc #[.int .u32 (key : Nat)] 40).trans k3
  
  clear HL k3 b1 h2 T1 K1
  have hfn := nil_no
  go_wp2_with fail
  clear hfn
  have b3d := b3.drew
  refine wp_region_hd 3 (fun w' => w'.cell? ⟨w.heap.size, 0, none⟩ = some (.int .i64 op) ∧ w'.cell? ⟨w.heap.size, 1, none⟩ = some (.int .i64 rd) ∧ w'.cell? ⟨w.heap.size, 2, none⟩ = some (.int .i64 r1) ∧ w'.cell? ⟨w.heap.size, 3, none⟩ = some (.int .i64 r2) ∧ w'.cell? ⟨w.heap.size, 4, none⟩ = some (.int .i64 im) ∧ w'.cell? ⟨w.heap.size, 5, none⟩ = some (.int .i64 od) ∧ w'.cell? ⟨w.heap.size, 6, none⟩ = some (.int .i64 sz)) (by kernel_rfl) (by decide) ⟨b3d.cell 0, b3d.cell 1, b3d.cell 2, b3d.cell 3, b3d.cell 4, b3d.cell 5, b3d.cell 6⟩ (fun hHeld => ?_)
  refine wpHd_take (i := 0) (v := ?_) rfl (by kernel_rfl) (fun _ _ _ h => h) (Or.inl ⟨by rfl, ?hy⟩) hHeld ?_
  case hy => (intro w hSw; (try dsimp only at hSw); go_split_ands; go_simp; try (with_reducible rfl))
  (try simp only [Act.put, List.setIfInBounds_toArray, List.set_cons_zero, List.set_cons_succ])
  refine wpHd_take (i := 1) (v := ?_) rfl (by kernel_rfl) (fun _ _ _ h => h) (Or.inl ⟨by rfl, ?hy⟩) hHeld ?_
  case hy => (intro w hSw; (try dsimp only at hSw); go_split_ands; go_simp; try (with_reducible rfl))
  (try simp only [Act.put, List.setIfInBounds_toArray, List.set_cons_zero, List.set_cons_succ])
  clear hHeld
  refine wpHd_one (i := 2) rfl (by kernel_rfl) (fun K hK => ?_)
  go_simp
  refine (layer_any w1.heap.size _).mono ?_
  rintro e w4 ⟨rfl, hc4, k4⟩
  have b4 := b3d.kp k4 (by simp)
  have h4 := h3.drew.kp k4 (by simp)
  have T4 := T3.drew.kp k4
  have K4 := K3.drew.trans k4
  have hlt := h3.lt
  refine hK.out _ _ ⟨b4.cell 0, b4.cell 1, b4.cell 2, b4.cell 3, b4.cell 4, b4.cell 5, b4.cell 6⟩ (fun hHeld => ?_)
  clear hK K hHeld
  (try simp only [Act.put, List.setIfInBounds_toArray, List.set_cons_zero, List.set_cons_succ])
  refine ⟨by kernel_rfl, ?_⟩
  simp only [List.drop_succ_cons, List.drop_zero]
  go_wp2_with fail
  refine (upper_lay op rd r1 r2 im od sz key _ w1.heap.size _ hs (Nat.ne_of_gt hlt) hc4 h4).mono ?_
  rintro e w5 ⟨rfl, h5, k5⟩
  have b5 := b4.kp k5 (by simp; omega)
  have K5 : Kp none w w5 := K4.drop k5 (fun i hi => by cases hi; omega)
  have T5 := hT.kp K5
  clear K4 T4 T3 K3 k5 k4 b4 h4 b3d hc4 b3 h3
  have c5 := h5.cell 0
  simp at c5
  go_wp2_with fail
  refine (decode_any (ly (ly key rd 7 5 0) im 12 20 12) _ (ly_lt (ly_lt hs (by omega)) (by omega)) T5).mono ?_
  rintro e w6 ⟨rfl, k6⟩
  have b6 := b5.kp k6 (by simp)
  have h6 := h5.kp k6 (by simp)
  have K6 := K5.trans k6
  clear k6 h5 b5 K5 T5 c5
  have c6 := h6.cell 0
  simp at c6
  obtain ⟨d0, d1, d2, d3, d4, d5, d6⟩ := b6.seven
  have n0 : ∀ o, (w6.alloc o).cell? ⟨w.heap.size, 0, none⟩ = some (.int .i64 op) := fun o => (b6.alloc o).cell 0
  have n1 : ∀ o, (w6.alloc o).cell? ⟨w.heap.size, 1, none⟩ = some (.int .i64 rd) := fun o => (b6.alloc o).cell 1
  have n2 : ∀ o, (w6.alloc o).cell? ⟨w.heap.size, 2, none⟩ = some (.int .i64 r1) := fun o => (b6.alloc o).cell 2
  have n3 : ∀ o, (w6.alloc o).cell? ⟨w.heap.size, 3, none⟩ = some (.int .i64 r2) := fun o => (b6.alloc o).cell 3
  have n4 : ∀ o, (w6.alloc o).cell? ⟨w.heap.size, 4, none⟩ = some (.int .i64 im) := fun o => (b6.alloc o).cell 4
  have n5 : ∀ o, (w6.alloc o).cell? ⟨w.heap.size, 5, none⟩ = some (.int .i64 od) := fun o => (b6.alloc o).cell 5
  have n6 : ∀ o, (w6.alloc o).cell? ⟨w.heap.size, 6, none⟩ = some (.int .i64 sz) := fun o => (b6.alloc o).cell 6
  have n7 : ∀ o, (w6.alloc o).cell? ⟨w1.heap.size, 0, none⟩ = some (.int .u32 ((ly (ly key rd 7 5 0) im 12 20 12) : Nat)) := fun o => (h6.alloc o).cell 0
  rw [hz]
  generalize dec _ = D at *
  go_wp2
  go_ret2
  exact ⟨rfl, K6.alloc _ _⟩

set_option maxHeartbeats 1000000 in
theorem encode_up_yes (op rd r1 r2 im od sz : Int) (key : Nat) (w : World) (hT : Tabs w) (hs : key < 4294967296) (hk : keyW op = key) (hfm : fmW key = .up) (hz : decide (opW (ly (ly key rd 7 5 0) im 12 20 12) ≠ 0) = true) (hd : dec (ly (ly key rd 7 5 0) im 12 20 12) = ⟨op, rd, r1, r2, im, od, sz⟩) :
    Calls Tryz.prog 25 #[.agg (I7 op rd r1 r2 im od sz)] w fun e w' => e = .returned (.tuple #[.int .u32 ((ly (ly key rd 7 5 0) im 12 20 12) : Nat), .bool true]) ∧ Kp none w w' := by
  have k0 := (Kp.refl none w).alloc (I7 op rd r1 r2 im od sz) 28
  have b0 := Has.new w (I7 op rd r1 r2 im od sz) 28
  have T0 := hT.kp k0
  have HK := Lib.hid (keyOf_any op _ T0)
  rw [hk] at HK
  have HL := Lib.hid (fun w h => look_any key w hs h)
  rw [hfm] at HL
  clear hk hfm
  generalize opW key = o at *
  go_enter Tryz.func25, Tryz.ntmps25
  go_wp2_with fail
  refine HK.out.mono ?_
  rintro e w1 ⟨rfl, k1⟩
  have K1 := k0.trans k1
  have b1 := (b0.kp k1 (by simp)).alloc (.cells #[.int .u32 (key : Nat)] 40)
  have T1 := (T0.kp k1).kp ((Kp.refl none _).alloc #[.int .u32 (key : Nat)] 40)
  have h2 := Has.new w1 #[.int .u32 (key : Nat)] 40
  have hwle : w.heap.size < w1.heap.size := (b0.kp k1 (by simp)).lt
  clear HK k0 k1 b0 T0
  go_wp2_with fail
  refine (HL.out _ T1).mono ?_
  rintro e w3 ⟨v, rfl, rfl, k3⟩
  have b3 := b1.kp k3 (by simp)
  have h3 := h2.kp k3 (by simp)
  have T3 := T1.kp k3
  have K3 := (K1.alloc #[.int .u32 (key : Nat)] 40).trans k3
  
  clear HL k3 b1 h2 T1 K1
  have hfn := nil_no
  go_wp2_with fail
  clear hfn
  have b3d := b3.drew
  refine wp_region_hd 3 (fun w' => w'.cell? ⟨w.heap.size, 0, none⟩ = some (.int .i64 op) ∧ w'.cell? ⟨w.heap.size, 1, none⟩ = some (.int .i64 rd) ∧ w'.cell? ⟨w.heap.size, 2, none⟩ = some (.int .i64 r1) ∧ w'.cell? ⟨w.heap.size, 3, none⟩ = some (.int .i64 r2) ∧ w'.cell? ⟨w.heap.size, 4, none⟩ = some (.int .i64 im) ∧ w'.cell? ⟨w.heap.size, 5, none⟩ = some (.int .i64 od) ∧ w'.cell? ⟨w.heap.size, 6, none⟩ = some (.int .i64 sz)) (by kernel_rfl) (by decide) ⟨b3d.cell 0, b3d.cell 1, b3d.cell 2, b3d.cell 3, b3d.cell 4, b3d.cell 5, b3d.cell 6⟩ (fun hHeld => ?_)
  refine wpHd_take (i := 0) (v := ?_) rfl (by kernel_rfl) (fun _ _ _ h => h) (Or.inl ⟨by rfl, ?hy⟩) hHeld ?_
  case hy => (intro w hSw; (try dsimp only at hSw); go_split_ands; go_simp; try (with_reducible rfl))
  (try simp only [Act.put, List.setIfInBounds_toArray, List.set_cons_zero, List.set_cons_succ])
  refine wpHd_take (i := 1) (v := ?_) rfl (by kernel_rfl) (fun _ _ _ h => h) (Or.inl ⟨by rfl, ?hy⟩) hHeld ?_
  case hy => (intro w hSw; (try dsimp only at hSw); go_split_ands; go_simp; try (with_reducible rfl))
  (try simp only [Act.put, List.setIfInBounds_toArray, List.set_cons_zero, List.set_cons_succ])
  clear hHeld
  refine wpHd_one (i := 2) rfl (by kernel_rfl) (fun K hK => ?_)
  go_simp
  refine (layer_any w1.heap.size _).mono ?_
  rintro e w4 ⟨rfl, hc4, k4⟩
  have b4 := b3d.kp k4 (by simp)
  have h4 := h3.drew.kp k4 (by simp)
  have T4 := T3.drew.kp k4
  have K4 := K3.drew.trans k4
  have hlt := h3.lt
  refine hK.out _ _ ⟨b4.cell 0, b4.cell 1, b4.cell 2, b4.cell 3, b4.cell 4, b4.cell 5, b4.cell 6⟩ (fun hHeld => ?_)
  clear hK K hHeld
  (try simp only [Act.put, List.setIfInBounds_toArray, List.set_cons_zero, List.set_cons_succ])
  refine ⟨by kernel_rfl, ?_⟩
  simp only [List.drop_succ_cons, List.drop_zero]
  go_wp2_with fail
  refine (upper_lay op rd r1 r2 im od sz key _ w1.heap.size _ hs (Nat.ne_of_gt hlt) hc4 h4).mono ?_
  rintro e w5 ⟨rfl, h5, k5⟩
  have b5 := b4.kp k5 (by simp; omega)
  have K5 : Kp none w w5 := K4.drop k5 (fun i hi => by cases hi; omega)
  have T5 := hT.kp K5
  clear K4 T4 T3 K3 k5 k4 b4 h4 b3d hc4 b3 h3
  have c5 := h5.cell 0
  simp at c5
  go_wp2_with fail
  refine (decode_any (ly (ly key rd 7 5 0) im 12 20 12) _ (ly_lt (ly_lt hs (by omega)) (by omega)) T5).mono ?_
  rintro e w6 ⟨rfl, k6⟩
  have b6 := b5.kp k6 (by simp)
  have h6 := h5.kp k6 (by simp)
  have K6 := K5.trans k6
  clear k6 h5 b5 K5 T5 c5
  have c6 := h6.cell 0
  simp at c6
  obtain ⟨d0, d1, d2, d3, d4, d5, d6⟩ := b6.seven
  have n0 : ∀ o, (w6.alloc o).cell? ⟨w.heap.size, 0, none⟩ = some (.int .i64 op) := fun o => (b6.alloc o).cell 0
  have n1 : ∀ o, (w6.alloc o).cell? ⟨w.heap.size, 1, none⟩ = some (.int .i64 rd) := fun o => (b6.alloc o).cell 1
  have n2 : ∀ o, (w6.alloc o).cell? ⟨w.heap.size, 2, none⟩ = some (.int .i64 r1) := fun o => (b6.alloc o).cell 2
  have n3 : ∀ o, (w6.alloc o).cell? ⟨w.heap.size, 3, none⟩ = some (.int .i64 r2) := fun o => (b6.alloc o).cell 3
  have n4 : ∀ o, (w6.alloc o).cell? ⟨w.heap.size, 4, none⟩ = some (.int .i64 im) := fun o => (b6.alloc o).cell 4
  have n5 : ∀ o, (w6.alloc o).cell? ⟨w.heap.size, 5, none⟩ = some (.int .i64 od) := fun o => (b6.alloc o).cell 5
  have n6 : ∀ o, (w6.alloc o).cell? ⟨w.heap.size, 6, none⟩ = some (.int .i64 sz) := fun o => (b6.alloc o).cell 6
  have n7 : ∀ o, (w6.alloc o).cell? ⟨w1.heap.size, 0, none⟩ = some (.int .u32 ((ly (ly key rd 7 5 0) im 12 20 12) : Nat)) := fun o => (h6.alloc o).cell 0
  rw [hz, hd]
  go_wp2
  go_ret2
  exact ⟨rfl, K6.alloc _ _⟩

set_option maxHeartbeats 1000000 in
theorem encode_up_no (op rd r1 r2 im od sz : Int) (key : Nat) (w : World) (hT : Tabs w) (hs : key < 4294967296) (hk : keyW op = key) (hfm : fmW key = .up) (hz : decide (opW (ly (ly key rd 7 5 0) im 12 20 12) ≠ 0) = true) (e0 e1 e2 e3 e4 e5 e6 : Int) (hD : dec (ly (ly key rd 7 5 0) im 12 20 12) = ⟨e0, e1, e2, e3, e4, e5, e6⟩) (hd : (⟨e0, e1, e2, e3, e4, e5, e6⟩ : Ins) ≠ ⟨op, rd, r1, r2, im, od, sz⟩) :
    Calls Tryz.prog 25 #[.agg (I7 op rd r1 r2 im od sz)] w fun e w' => e = .returned (.tuple #[.int .u32 0, .bool false]) ∧ Kp none w w' := by
  have k0 := (Kp.refl none w).alloc (I7 op rd r1 r2 im od sz) 28
  have b0 := Has.new w (I7 op rd r1 r2 im od sz) 28
  have T0 := hT.kp k0
  have HK := Lib.hid (keyOf_any op _ T0)
  rw [hk] at HK
  have HL := Lib.hid (fun w h => look_any key w hs h)
  rw [hfm] at HL
  clear hk hfm
  generalize opW key = o at *
  go_enter Tryz.func25, Tryz.ntmps25
  go_wp2_with fail
  refine HK.out.mono ?_
  rintro e w1 ⟨rfl, k1⟩
  have K1 := k0.trans k1
  have b1 := (b0.kp k1 (by simp)).alloc (.cells #[.int .u32 (key : Nat)] 40)
  have T1 := (T0.kp k1).kp ((Kp.refl none _).alloc #[.int .u32 (key : Nat)] 40)
  have h2 := Has.new w1 #[.int .u32 (key : Nat)] 40
  have hwle : w.heap.size < w1.heap.size := (b0.kp k1 (by simp)).lt
  clear HK k0 k1 b0 T0
  go_wp2_with fail
  refine (HL.out _ T1).mono ?_
  rintro e w3 ⟨v, rfl, rfl, k3⟩
  have b3 := b1.kp k3 (by simp)
  have h3 := h2.kp k3 (by simp)
  have T3 := T1.kp k3
  have K3 := (K1.alloc #[.int .u32 (key : Nat)] 40).trans k3
  
  clear HL k3 b1 h2 T1 K1
  have hfn := nil_no
  go_wp2_with fail
  clear hfn
  have b3d := b3.drew
  refine wp_region_hd 3 (fun w' => w'.cell? ⟨w.heap.size, 0, none⟩ = some (.int .i64 op) ∧ w'.cell? ⟨w.heap.size, 1, none⟩ = some (.int .i64 rd) ∧ w'.cell? ⟨w.heap.size, 2, none⟩ = some (.int .i64 r1) ∧ w'.cell? ⟨w.heap.size, 3, none⟩ = some (.int .i64 r2) ∧ w'.cell? ⟨w.heap.size, 4, none⟩ = some (.int .i64 im) ∧ w'.cell? ⟨w.heap.size, 5, none⟩ = some (.int .i64 od) ∧ w'.cell? ⟨w.heap.size, 6, none⟩ = some (.int .i64 sz)) (by kernel_rfl) (by decide) ⟨b3d.cell 0, b3d.cell 1, b3d.cell 2, b3d.cell 3, b3d.cell 4, b3d.cell 5, b3d.cell 6⟩ (fun hHeld => ?_)
  refine wpHd_take (i := 0) (v := ?_) rfl (by kernel_rfl) (fun _ _ _ h => h) (Or.inl ⟨by rfl, ?hy⟩) hHeld ?_
  case hy => (intro w hSw; (try dsimp only at hSw); go_split_ands; go_simp; try (with_reducible rfl))
  (try simp only [Act.put, List.setIfInBounds_toArray, List.set_cons_zero, List.set_cons_succ])
  refine wpHd_take (i := 1) (v := ?_) rfl (by kernel_rfl) (fun _ _ _ h => h) (Or.inl ⟨by rfl, ?hy⟩) hHeld ?_
  case hy => (intro w hSw; (try dsimp only at hSw); go_split_ands; go_simp; try (with_reducible rfl))
  (try simp only [Act.put, List.setIfInBounds_toArray, List.set_cons_zero, List.set_cons_succ])
  clear hHeld
  refine wpHd_one (i := 2) rfl (by kernel_rfl) (fun K hK => ?_)
  go_simp
  refine (layer_any w1.heap.size _).mono ?_
  rintro e w4 ⟨rfl, hc4, k4⟩
  have b4 := b3d.kp k4 (by simp)
  have h4 := h3.drew.kp k4 (by simp)
  have T4 := T3.drew.kp k4
  have K4 := K3.drew.trans k4
  have hlt := h3.lt
  refine hK.out _ _ ⟨b4.cell 0, b4.cell 1, b4.cell 2, b4.cell 3, b4.cell 4, b4.cell 5, b4.cell 6⟩ (fun hHeld => ?_)
  clear hK K hHeld
  (try simp only [Act.put, List.setIfInBounds_toArray, List.set_cons_zero, List.set_cons_succ])
  refine ⟨by kernel_rfl, ?_⟩
  simp only [List.drop_succ_cons, List.drop_zero]
  go_wp2_with fail
  refine (upper_lay op rd r1 r2 im od sz key _ w1.heap.size _ hs (Nat.ne_of_gt hlt) hc4 h4).mono ?_
  rintro e w5 ⟨rfl, h5, k5⟩
  have b5 := b4.kp k5 (by simp; omega)
  have K5 : Kp none w w5 := K4.drop k5 (fun i hi => by cases hi; omega)
  have T5 := hT.kp K5
  clear K4 T4 T3 K3 k5 k4 b4 h4 b3d hc4 b3 h3
  have c5 := h5.cell 0
  simp at c5
  go_wp2_with fail
  refine (decode_any (ly (ly key rd 7 5 0) im 12 20 12) _ (ly_lt (ly_lt hs (by omega)) (by omega)) T5).mono ?_
  rintro e w6 ⟨rfl, k6⟩
  have b6 := b5.kp k6 (by simp)
  have h6 := h5.kp k6 (by simp)
  have K6 := K5.trans k6
  clear k6 h5 b5 K5 T5 c5
  have c6 := h6.cell 0
  simp at c6
  obtain ⟨d0, d1, d2, d3, d4, d5, d6⟩ := b6.seven
  have n0 : ∀ o, (w6.alloc o).cell? ⟨w.heap.size, 0, none⟩ = some (.int .i64 op) := fun o => (b6.alloc o).cell 0
  have n1 : ∀ o, (w6.alloc o).cell? ⟨w.heap.size, 1, none⟩ = some (.int .i64 rd) := fun o => (b6.alloc o).cell 1
  have n2 : ∀ o, (w6.alloc o).cell? ⟨w.heap.size, 2, none⟩ = some (.int .i64 r1) := fun o => (b6.alloc o).cell 2
  have n3 : ∀ o, (w6.alloc o).cell? ⟨w.heap.size, 3, none⟩ = some (.int .i64 r2) := fun o => (b6.alloc o).cell 3
  have n4 : ∀ o, (w6.alloc o).cell? ⟨w.heap.size, 4, none⟩ = some (.int .i64 im) := fun o => (b6.alloc o).cell 4
  have n5 : ∀ o, (w6.alloc o).cell? ⟨w.heap.size, 5, none⟩ = some (.int .i64 od) := fun o => (b6.alloc o).cell 5
  have n6 : ∀ o, (w6.alloc o).cell? ⟨w.heap.size, 6, none⟩ = some (.int .i64 sz) := fun o => (b6.alloc o).cell 6
  have n7 : ∀ o, (w6.alloc o).cell? ⟨w1.heap.size, 0, none⟩ = some (.int .u32 ((ly (ly key rd 7 5 0) im 12 20 12) : Nat)) := fun o => (h6.alloc o).cell 0
  rw [hz, hD]
  have hq := neq_of hd
  clear hd
  go_wp2
  go_ret2
  exact ⟨rfl, K6.alloc _ _⟩

set_option maxHeartbeats 1000000 in
theorem encode_jp_bad (op rd r1 r2 im od sz : Int) (key : Nat) (w : World) (hT : Tabs w) (hs : key < 4294967296) (hk : keyW op = key) (hfm : fmW key = .jp) (hz : decide (opW (ly (ly (ly (ly (ly key rd 7 5 0) im 31 1 20) im 12 8 12) im 20 1 11) im 21 10 1) ≠ 0) = false) :
    Calls Tryz.prog 25 #[.agg (I7 op rd r1 r2 im od sz)] w fun e w' => e = .returned (.tuple #[.int .u32 0, .bool false]) ∧ Kp none w w' := by
  have k0 := (Kp.refl none w).alloc (I7 op rd r1 r2 im od sz) 28
  have b0 := Has.new w (I7 op rd r1 r2 im od sz) 28
  have T0 := hT.kp k0
  have HK := Lib.hid (keyOf_any op _ T0)
  rw [hk] at HK
  have HL := Lib.hid (fun w h => look_any key w hs h)
  rw [hfm] at HL
  clear hk hfm
  generalize opW key = o at *
  go_enter Tryz.func25, Tryz.ntmps25
  go_wp2_with fail
  refine HK.out.mono ?_
  rintro e w1 ⟨rfl, k1⟩
  have K1 := k0.trans k1
  have b1 := (b0.kp k1 (by simp)).alloc (.cells #[.int .u32 (key : Nat)] 40)
  have T1 := (T0.kp k1).kp ((Kp.refl none _).alloc #[.int .u32 (key : Nat)] 40)
  have h2 := Has.new w1 #[.int .u32 (key : Nat)] 40
  have hwle : w.heap.size < w1.heap.size := (b0.kp k1 (by simp)).lt
  clear HK k0 k1 b0 T0
  go_wp2_with fail
  refine (HL.out _ T1).mono ?_
  rintro e w3 ⟨v, rfl, rfl, k3⟩
  have b3 := b1.kp k3 (by simp)
  have h3 := h2.kp k3 (by simp)
  have T3 := T1.kp k3
  have K3 := (K1.alloc #[.int .u32 (key : Nat)] 40).trans k3
  
  clear HL k3 b1 h2 T1 K1
  have hfn := nil_no
  go_wp2_with fail
  clear hfn
  have b3d := b3.drew
  refine wp_region_hd 3 (fun w' => w'.cell? ⟨w.heap.size, 0, none⟩ = some (.int .i64 op) ∧ w'.cell? ⟨w.heap.size, 1, none⟩ = some (.int .i64 rd) ∧ w'.cell? ⟨w.heap.size, 2, none⟩ = some (.int .i64 r1) ∧ w'.cell? ⟨w.heap.size, 3, none⟩ = some (.int .i64 r2) ∧ w'.cell? ⟨w.heap.size, 4, none⟩ = some (.int .i64 im) ∧ w'.cell? ⟨w.heap.size, 5, none⟩ = some (.int .i64 od) ∧ w'.cell? ⟨w.heap.size, 6, none⟩ = some (.int .i64 sz)) (by kernel_rfl) (by decide) ⟨b3d.cell 0, b3d.cell 1, b3d.cell 2, b3d.cell 3, b3d.cell 4, b3d.cell 5, b3d.cell 6⟩ (fun hHeld => ?_)
  refine wpHd_take (i := 0) (v := ?_) rfl (by kernel_rfl) (fun _ _ _ h => h) (Or.inl ⟨by rfl, ?hy⟩) hHeld ?_
  case hy => (intro w hSw; (try dsimp only at hSw); go_split_ands; go_simp; try (with_reducible rfl))
  (try simp only [Act.put, List.setIfInBounds_toArray, List.set_cons_zero, List.set_cons_succ])
  refine wpHd_take (i := 1) (v := ?_) rfl (by kernel_rfl) (fun _ _ _ h => h) (Or.inl ⟨by rfl, ?hy⟩) hHeld ?_
  case hy => (intro w hSw; (try dsimp only at hSw); go_split_ands; go_simp; try (with_reducible rfl))
  (try simp only [Act.put, List.setIfInBounds_toArray, List.set_cons_zero, List.set_cons_succ])
  clear hHeld
  refine wpHd_one (i := 2) rfl (by kernel_rfl) (fun K hK => ?_)
  go_simp
  refine (layer_any w1.heap.size _).mono ?_
  rintro e w4 ⟨rfl, hc4, k4⟩
  have b4 := b3d.kp k4 (by simp)
  have h4 := h3.drew.kp k4 (by simp)
  have T4 := T3.drew.kp k4
  have K4 := K3.drew.trans k4
  have hlt := h3.lt
  refine hK.out _ _ ⟨b4.cell 0, b4.cell 1, b4.cell 2, b4.cell 3, b4.cell 4, b4.cell 5, b4.cell 6⟩ (fun hHeld => ?_)
  clear hK K hHeld
  (try simp only [Act.put, List.setIfInBounds_toArray, List.set_cons_zero, List.set_cons_succ])
  refine ⟨by kernel_rfl, ?_⟩
  simp only [List.drop_succ_cons, List.drop_zero]
  go_wp2_with fail
  refine (jump_lay op rd r1 r2 im od sz key _ w1.heap.size _ hs (Nat.ne_of_gt hlt) hc4 h4).mono ?_
  rintro e w5 ⟨rfl, h5, k5⟩
  have b5 := b4.kp k5 (by simp; omega)
  have K5 : Kp none w w5 := K4.drop k5 (fun i hi => by cases hi; omega)
  have T5 := hT.kp K5
  clear K4 T4 T3 K3 k5 k4 b4 h4 b3d hc4 b3 h3
  have c5 := h5.cell 0
  simp at c5
  go_wp2_with fail
  refine (decode_any (ly (ly (ly (ly (ly key rd 7 5 0) im 31 1 20) im 12 8 12) im 20 1 11) im 21 10 1) _ (ly_lt (ly_lt (ly_lt (ly_lt (ly_lt hs (by omega)) (by omega)) (by omega)) (by omega)) (by omega)) T5).mono ?_
  rintro e w6 ⟨rfl, k6⟩
  have b6 := b5.kp k6 (by simp)
  have h6 := h5.kp k6 (by simp)
  have K6 := K5.trans k6
  clear k6 h5 b5 K5 T5 c5
  have c6 := h6.cell 0
  simp at c6
  obtain ⟨d0, d1, d2, d3, d4, d5, d6⟩ := b6.seven
  have n0 : ∀ o, (w6.alloc o).cell? ⟨w.heap.size, 0, none⟩ = some (.int .i64 op) := fun o => (b6.alloc o).cell 0
  have n1 : ∀ o, (w6.alloc o).cell? ⟨w.heap.size, 1, none⟩ = some (.int .i64 rd) := fun o => (b6.alloc o).cell 1
  have n2 : ∀ o, (w6.alloc o).cell? ⟨w.heap.size, 2, none⟩ = some (.int .i64 r1) := fun o => (b6.alloc o).cell 2
  have n3 : ∀ o, (w6.alloc o).cell? ⟨w.heap.size, 3, none⟩ = some (.int .i64 r2) := fun o => (b6.alloc o).cell 3
  have n4 : ∀ o, (w6.alloc o).cell? ⟨w.heap.size, 4, none⟩ = some (.int .i64 im) := fun o => (b6.alloc o).cell 4
  have n5 : ∀ o, (w6.alloc o).cell? ⟨w.heap.size, 5, none⟩ = some (.int .i64 od) := fun o => (b6.alloc o).cell 5
  have n6 : ∀ o, (w6.alloc o).cell? ⟨w.heap.size, 6, none⟩ = some (.int .i64 sz) := fun o => (b6.alloc o).cell 6
  have n7 : ∀ o, (w6.alloc o).cell? ⟨w1.heap.size, 0, none⟩ = some (.int .u32 ((ly (ly (ly (ly (ly key rd 7 5 0) im 31 1 20) im 12 8 12) im 20 1 11) im 21 10 1) : Nat)) := fun o => (h6.alloc o).cell 0
  rw [hz]
  generalize dec _ = D at *
  go_wp2
  go_ret2
  exact ⟨rfl, K6.alloc _ _⟩

set_option maxHeartbeats 1000000 in
theorem encode_jp_yes (op rd r1 r2 im od sz : Int) (key : Nat) (w : World) (hT : Tabs w) (hs : key < 4294967296) (hk : keyW op = key) (hfm : fmW key = .jp) (hz : decide (opW (ly (ly (ly (ly (ly key rd 7 5 0) im 31 1 20) im 12 8 12) im 20 1 11) im 21 10 1) ≠ 0) = true) (hd : dec (ly (ly (ly (ly (ly key rd 7 5 0) im 31 1 20) im 12 8 12) im 20 1 11) im 21 10 1) = ⟨op, rd, r1, r2, im, od, sz⟩) :
    Calls Tryz.prog 25 #[.agg (I7 op rd r1 r2 im od sz)] w fun e w' => e = .returned (.tuple #[.int .u32 ((ly (ly (ly (ly (ly key rd 7 5 0) im 31 1 20) im 12 8 12) im 20 1 11) im 21 10 1) : Nat), .bool true]) ∧ Kp none w w' := by
  have k0 := (Kp.refl none w).alloc (I7 op rd r1 r2 im od sz) 28
  have b0 := Has.new w (I7 op rd r1 r2 im od sz) 28
  have T0 := hT.kp k0
  have HK := Lib.hid (keyOf_any op _ T0)
  rw [hk] at HK
  have HL := Lib.hid (fun w h => look_any key w hs h)
  rw [hfm] at HL
  clear hk hfm
  generalize opW key = o at *
  go_enter Tryz.func25, Tryz.ntmps25
  go_wp2_with fail
  refine HK.out.mono ?_
  rintro e w1 ⟨rfl, k1⟩
  have K1 := k0.trans k1
  have b1 := (b0.kp k1 (by simp)).alloc (.cells #[.int .u32 (key : Nat)] 40)
  have T1 := (T0.kp k1).kp ((Kp.refl none _).alloc #[.int .u32 (key : Nat)] 40)
  have h2 := Has.new w1 #[.int .u32 (key : Nat)] 40
  have hwle : w.heap.size < w1.heap.size := (b0.kp k1 (by simp)).lt
  clear HK k0 k1 b0 T0
  go_wp2_with fail
  refine (HL.out _ T1).mono ?_
  rintro e w3 ⟨v, rfl, rfl, k3⟩
  have b3 := b1.kp k3 (by simp)
  have h3 := h2.kp k3 (by simp)
  have T3 := T1.kp k3
  have K3 := (K1.alloc #[.int .u32 (key : Nat)] 40).trans k3
  
  clear HL k3 b1 h2 T1 K1
  have hfn := nil_no
  go_wp2_with fail
  clear hfn
  have b3d := b3.drew
  refine wp_region_hd 3 (fun w' => w'.cell? ⟨w.heap.size, 0, none⟩ = some (.int .i64 op) ∧ w'.cell? ⟨w.heap.size, 1, none⟩ = some (.int .i64 rd) ∧ w'.cell? ⟨w.heap.size, 2, none⟩ = some (.int .i64 r1) ∧ w'.cell? ⟨w.heap.size, 3, none⟩ = some (.int .i64 r2) ∧ w'.cell? ⟨w.heap.size, 4, none⟩ = some (.int .i64 im) ∧ w'.cell? ⟨w.heap.size, 5, none⟩ = some (.int .i64 od) ∧ w'.cell? ⟨w.heap.size, 6, none⟩ = some (.int .i64 sz)) (by kernel_rfl) (by decide) ⟨b3d.cell 0, b3d.cell 1, b3d.cell 2, b3d.cell 3, b3d.cell 4, b3d.cell 5, b3d.cell 6⟩ (fun hHeld => ?_)
  refine wpHd_take (i := 0) (v := ?_) rfl (by kernel_rfl) (fun _ _ _ h => h) (Or.inl ⟨by rfl, ?hy⟩) hHeld ?_
  case hy => (intro w hSw; (try dsimp only at hSw); go_split_ands; go_simp; try (with_reducible rfl))
  (try simp only [Act.put, List.setIfInBounds_toArray, List.set_cons_zero, List.set_cons_succ])
  refine wpHd_take (i := 1) (v := ?_) rfl (by kernel_rfl) (fun _ _ _ h => h) (Or.inl ⟨by rfl, ?hy⟩) hHeld ?_
  case hy => (intro w hSw; (try dsimp only at hSw); go_split_ands; go_simp; try (with_reducible rfl))
  (try simp only [Act.put, List.setIfInBounds_toArray, List.set_cons_zero, List.set_cons_succ])
  clear hHeld
  refine wpHd_one (i := 2) rfl (by kernel_rfl) (fun K hK => ?_)
  go_simp
  refine (layer_any w1.heap.size _).mono ?_
  rintro e w4 ⟨rfl, hc4, k4⟩
  have b4 := b3d.kp k4 (by simp)
  have h4 := h3.drew.kp k4 (by simp)
  have T4 := T3.drew.kp k4
  have K4 := K3.drew.trans k4
  have hlt := h3.lt
  refine hK.out _ _ ⟨b4.cell 0, b4.cell 1, b4.cell 2, b4.cell 3, b4.cell 4, b4.cell 5, b4.cell 6⟩ (fun hHeld => ?_)
  clear hK K hHeld
  (try simp only [Act.put, List.setIfInBounds_toArray, List.set_cons_zero, List.set_cons_succ])
  refine ⟨by kernel_rfl, ?_⟩
  simp only [List.drop_succ_cons, List.drop_zero]
  go_wp2_with fail
  refine (jump_lay op rd r1 r2 im od sz key _ w1.heap.size _ hs (Nat.ne_of_gt hlt) hc4 h4).mono ?_
  rintro e w5 ⟨rfl, h5, k5⟩
  have b5 := b4.kp k5 (by simp; omega)
  have K5 : Kp none w w5 := K4.drop k5 (fun i hi => by cases hi; omega)
  have T5 := hT.kp K5
  clear K4 T4 T3 K3 k5 k4 b4 h4 b3d hc4 b3 h3
  have c5 := h5.cell 0
  simp at c5
  go_wp2_with fail
  refine (decode_any (ly (ly (ly (ly (ly key rd 7 5 0) im 31 1 20) im 12 8 12) im 20 1 11) im 21 10 1) _ (ly_lt (ly_lt (ly_lt (ly_lt (ly_lt hs (by omega)) (by omega)) (by omega)) (by omega)) (by omega)) T5).mono ?_
  rintro e w6 ⟨rfl, k6⟩
  have b6 := b5.kp k6 (by simp)
  have h6 := h5.kp k6 (by simp)
  have K6 := K5.trans k6
  clear k6 h5 b5 K5 T5 c5
  have c6 := h6.cell 0
  simp at c6
  obtain ⟨d0, d1, d2, d3, d4, d5, d6⟩ := b6.seven
  have n0 : ∀ o, (w6.alloc o).cell? ⟨w.heap.size, 0, none⟩ = some (.int .i64 op) := fun o => (b6.alloc o).cell 0
  have n1 : ∀ o, (w6.alloc o).cell? ⟨w.heap.size, 1, none⟩ = some (.int .i64 rd) := fun o => (b6.alloc o).cell 1
  have n2 : ∀ o, (w6.alloc o).cell? ⟨w.heap.size, 2, none⟩ = some (.int .i64 r1) := fun o => (b6.alloc o).cell 2
  have n3 : ∀ o, (w6.alloc o).cell? ⟨w.heap.size, 3, none⟩ = some (.int .i64 r2) := fun o => (b6.alloc o).cell 3
  have n4 : ∀ o, (w6.alloc o).cell? ⟨w.heap.size, 4, none⟩ = some (.int .i64 im) := fun o => (b6.alloc o).cell 4
  have n5 : ∀ o, (w6.alloc o).cell? ⟨w.heap.size, 5, none⟩ = some (.int .i64 od) := fun o => (b6.alloc o).cell 5
  have n6 : ∀ o, (w6.alloc o).cell? ⟨w.heap.size, 6, none⟩ = some (.int .i64 sz) := fun o => (b6.alloc o).cell 6
  have n7 : ∀ o, (w6.alloc o).cell? ⟨w1.heap.size, 0, none⟩ = some (.int .u32 ((ly (ly (ly (ly (ly key rd 7 5 0) im 31 1 20) im 12 8 12) im 20 1 11) im 21 10 1) : Nat)) := fun o => (h6.alloc o).cell 0
  rw [hz, hd]
  go_wp2
  go_ret2
  exact ⟨rfl, K6.alloc _ _⟩

set_option maxHeartbeats 1000000 in
theorem encode_jp_no (op rd r1 r2 im od sz : Int) (key : Nat) (w : World) (hT : Tabs w) (hs : key < 4294967296) (hk : keyW op = key) (hfm : fmW key = .jp) (hz : decide (opW (ly (ly (ly (ly (ly key rd 7 5 0) im 31 1 20) im 12 8 12) im 20 1 11) im 21 10 1) ≠ 0) = true) (e0 e1 e2 e3 e4 e5 e6 : Int) (hD : dec (ly (ly (ly (ly (ly key rd 7 5 0) im 31 1 20) im 12 8 12) im 20 1 11) im 21 10 1) = ⟨e0, e1, e2, e3, e4, e5, e6⟩) (hd : (⟨e0, e1, e2, e3, e4, e5, e6⟩ : Ins) ≠ ⟨op, rd, r1, r2, im, od, sz⟩) :
    Calls Tryz.prog 25 #[.agg (I7 op rd r1 r2 im od sz)] w fun e w' => e = .returned (.tuple #[.int .u32 0, .bool false]) ∧ Kp none w w' := by
  have k0 := (Kp.refl none w).alloc (I7 op rd r1 r2 im od sz) 28
  have b0 := Has.new w (I7 op rd r1 r2 im od sz) 28
  have T0 := hT.kp k0
  have HK := Lib.hid (keyOf_any op _ T0)
  rw [hk] at HK
  have HL := Lib.hid (fun w h => look_any key w hs h)
  rw [hfm] at HL
  clear hk hfm
  generalize opW key = o at *
  go_enter Tryz.func25, Tryz.ntmps25
  go_wp2_with fail
  refine HK.out.mono ?_
  rintro e w1 ⟨rfl, k1⟩
  have K1 := k0.trans k1
  have b1 := (b0.kp k1 (by simp)).alloc (.cells #[.int .u32 (key : Nat)] 40)
  have T1 := (T0.kp k1).kp ((Kp.refl none _).alloc #[.int .u32 (key : Nat)] 40)
  have h2 := Has.new w1 #[.int .u32 (key : Nat)] 40
  have hwle : w.heap.size < w1.heap.size := (b0.kp k1 (by simp)).lt
  clear HK k0 k1 b0 T0
  go_wp2_with fail
  refine (HL.out _ T1).mono ?_
  rintro e w3 ⟨v, rfl, rfl, k3⟩
  have b3 := b1.kp k3 (by simp)
  have h3 := h2.kp k3 (by simp)
  have T3 := T1.kp k3
  have K3 := (K1.alloc #[.int .u32 (key : Nat)] 40).trans k3
  
  clear HL k3 b1 h2 T1 K1
  have hfn := nil_no
  go_wp2_with fail
  clear hfn
  have b3d := b3.drew
  refine wp_region_hd 3 (fun w' => w'.cell? ⟨w.heap.size, 0, none⟩ = some (.int .i64 op) ∧ w'.cell? ⟨w.heap.size, 1, none⟩ = some (.int .i64 rd) ∧ w'.cell? ⟨w.heap.size, 2, none⟩ = some (.int .i64 r1) ∧ w'.cell? ⟨w.heap.size, 3, none⟩ = some (.int .i64 r2) ∧ w'.cell? ⟨w.heap.size, 4, none⟩ = some (.int .i64 im) ∧ w'.cell? ⟨w.heap.size, 5, none⟩ = some (.int .i64 od) ∧ w'.cell? ⟨w.heap.size, 6, none⟩ = some (.int .i64 sz)) (by kernel_rfl) (by decide) ⟨b3d.cell 0, b3d.cell 1, b3d.cell 2, b3d.cell 3, b3d.cell 4, b3d.cell 5, b3d.cell 6⟩ (fun hHeld => ?_)
  refine wpHd_take (i := 0) (v := ?_) rfl (by kernel_rfl) (fun _ _ _ h => h) (Or.inl ⟨by rfl, ?hy⟩) hHeld ?_
  case hy => (intro w hSw; (try dsimp only at hSw); go_split_ands; go_simp; try (with_reducible rfl))
  (try simp only [Act.put, List.setIfInBounds_toArray, List.set_cons_zero, List.set_cons_succ])
  refine wpHd_take (i := 1) (v := ?_) rfl (by kernel_rfl) (fun _ _ _ h => h) (Or.inl ⟨by rfl, ?hy⟩) hHeld ?_
  case hy => (intro w hSw; (try dsimp only at hSw); go_split_ands; go_simp; try (with_reducible rfl))
  (try simp only [Act.put, List.setIfInBounds_toArray, List.set_cons_zero, List.set_cons_succ])
  clear hHeld
  refine wpHd_one (i := 2) rfl (by kernel_rfl) (fun K hK => ?_)
  go_simp
  refine (layer_any w1.heap.size _).mono ?_
  rintro e w4 ⟨rfl, hc4, k4⟩
  have b4 := b3d.kp k4 (by simp)
  have h4 := h3.drew.kp k4 (by simp)
  have T4 := T3.drew.kp k4
  have K4 := K3.drew.trans k4
  have hlt := h3.lt
  refine hK.out _ _ ⟨b4.cell 0, b4.cell 1, b4.cell 2, b4.cell 3, b4.cell 4, b4.cell 5, b4.cell 6⟩ (fun hHeld => ?_)
  clear hK K hHeld
  (try simp only [Act.put, List.setIfInBounds_toArray, List.set_cons_zero, List.set_cons_succ])
  refine ⟨by kernel_rfl, ?_⟩
  simp only [List.drop_succ_cons, List.drop_zero]
  go_wp2_with fail
  refine (jump_lay op rd r1 r2 im od sz key _ w1.heap.size _ hs (Nat.ne_of_gt hlt) hc4 h4).mono ?_
  rintro e w5 ⟨rfl, h5, k5⟩
  have b5 := b4.kp k5 (by simp; omega)
  have K5 : Kp none w w5 := K4.drop k5 (fun i hi => by cases hi; omega)
  have T5 := hT.kp K5
  clear K4 T4 T3 K3 k5 k4 b4 h4 b3d hc4 b3 h3
  have c5 := h5.cell 0
  simp at c5
  go_wp2_with fail
  refine (decode_any (ly (ly (ly (ly (ly key rd 7 5 0) im 31 1 20) im 12 8 12) im 20 1 11) im 21 10 1) _ (ly_lt (ly_lt (ly_lt (ly_lt (ly_lt hs (by omega)) (by omega)) (by omega)) (by omega)) (by omega)) T5).mono ?_
  rintro e w6 ⟨rfl, k6⟩
  have b6 := b5.kp k6 (by simp)
  have h6 := h5.kp k6 (by simp)
  have K6 := K5.trans k6
  clear k6 h5 b5 K5 T5 c5
  have c6 := h6.cell 0
  simp at c6
  obtain ⟨d0, d1, d2, d3, d4, d5, d6⟩ := b6.seven
  have n0 : ∀ o, (w6.alloc o).cell? ⟨w.heap.size, 0, none⟩ = some (.int .i64 op) := fun o => (b6.alloc o).cell 0
  have n1 : ∀ o, (w6.alloc o).cell? ⟨w.heap.size, 1, none⟩ = some (.int .i64 rd) := fun o => (b6.alloc o).cell 1
  have n2 : ∀ o, (w6.alloc o).cell? ⟨w.heap.size, 2, none⟩ = some (.int .i64 r1) := fun o => (b6.alloc o).cell 2
  have n3 : ∀ o, (w6.alloc o).cell? ⟨w.heap.size, 3, none⟩ = some (.int .i64 r2) := fun o => (b6.alloc o).cell 3
  have n4 : ∀ o, (w6.alloc o).cell? ⟨w.heap.size, 4, none⟩ = some (.int .i64 im) := fun o => (b6.alloc o).cell 4
  have n5 : ∀ o, (w6.alloc o).cell? ⟨w.heap.size, 5, none⟩ = some (.int .i64 od) := fun o => (b6.alloc o).cell 5
  have n6 : ∀ o, (w6.alloc o).cell? ⟨w.heap.size, 6, none⟩ = some (.int .i64 sz) := fun o => (b6.alloc o).cell 6
  have n7 : ∀ o, (w6.alloc o).cell? ⟨w1.heap.size, 0, none⟩ = some (.int .u32 ((ly (ly (ly (ly (ly key rd 7 5 0) im 31 1 20) im 12 8 12) im 20 1 11) im 21 10 1) : Nat)) := fun o => (h6.alloc o).cell 0
  rw [hz, hD]
  have hq := neq_of hd
  clear hd
  go_wp2
  go_ret2
  exact ⟨rfl, K6.alloc _ _⟩

set_option maxHeartbeats 1000000 in
theorem encode_im_bad (op rd r1 r2 im od sz : Int) (key : Nat) (w : World) (hT : Tabs w) (hs : key < 4294967296) (hk : keyW op = key) (hfm : fmW key = .im) (hz : decide (opW (ly (ly (ly key rd 7 5 0) r1 15 5 0) im 20 12 0) ≠ 0) = false) :
    Calls Tryz.prog 25 #[.agg (I7 op rd r1 r2 im od sz)] w fun e w' => e = .returned (.tuple #[.int .u32 0, .bool false]) ∧ Kp none w w' := by
  have k0 := (Kp.refl none w).alloc (I7 op rd r1 r2 im od sz) 28
  have b0 := Has.new w (I7 op rd r1 r2 im od sz) 28
  have T0 := hT.kp k0
  have HK := Lib.hid (keyOf_any op _ T0)
  rw [hk] at HK
  have HL := Lib.hid (fun w h => look_any key w hs h)
  rw [hfm] at HL
  clear hk hfm
  generalize opW key = o at *
  go_enter Tryz.func25, Tryz.ntmps25
  go_wp2_with fail
  refine HK.out.mono ?_
  rintro e w1 ⟨rfl, k1⟩
  have K1 := k0.trans k1
  have b1 := (b0.kp k1 (by simp)).alloc (.cells #[.int .u32 (key : Nat)] 40)
  have T1 := (T0.kp k1).kp ((Kp.refl none _).alloc #[.int .u32 (key : Nat)] 40)
  have h2 := Has.new w1 #[.int .u32 (key : Nat)] 40
  have hwle : w.heap.size < w1.heap.size := (b0.kp k1 (by simp)).lt
  clear HK k0 k1 b0 T0
  go_wp2_with fail
  refine (HL.out _ T1).mono ?_
  rintro e w3 ⟨v, rfl, rfl, k3⟩
  have b3 := b1.kp k3 (by simp)
  have h3 := h2.kp k3 (by simp)
  have T3 := T1.kp k3
  have K3 := (K1.alloc #[.int .u32 (key : Nat)] 40).trans k3
  
  clear HL k3 b1 h2 T1 K1
  have hfn := nil_no
  go_wp2_with fail
  clear hfn
  have b3d := b3.drew
  refine wp_region_hd 3 (fun w' => w'.cell? ⟨w.heap.size, 0, none⟩ = some (.int .i64 op) ∧ w'.cell? ⟨w.heap.size, 1, none⟩ = some (.int .i64 rd) ∧ w'.cell? ⟨w.heap.size, 2, none⟩ = some (.int .i64 r1) ∧ w'.cell? ⟨w.heap.size, 3, none⟩ = some (.int .i64 r2) ∧ w'.cell? ⟨w.heap.size, 4, none⟩ = some (.int .i64 im) ∧ w'.cell? ⟨w.heap.size, 5, none⟩ = some (.int .i64 od) ∧ w'.cell? ⟨w.heap.size, 6, none⟩ = some (.int .i64 sz)) (by kernel_rfl) (by decide) ⟨b3d.cell 0, b3d.cell 1, b3d.cell 2, b3d.cell 3, b3d.cell 4, b3d.cell 5, b3d.cell 6⟩ (fun hHeld => ?_)
  refine wpHd_take (i := 0) (v := ?_) rfl (by kernel_rfl) (fun _ _ _ h => h) (Or.inl ⟨by rfl, ?hy⟩) hHeld ?_
  case hy => (intro w hSw; (try dsimp only at hSw); go_split_ands; go_simp; try (with_reducible rfl))
  (try simp only [Act.put, List.setIfInBounds_toArray, List.set_cons_zero, List.set_cons_succ])
  refine wpHd_take (i := 1) (v := ?_) rfl (by kernel_rfl) (fun _ _ _ h => h) (Or.inl ⟨by rfl, ?hy⟩) hHeld ?_
  case hy => (intro w hSw; (try dsimp only at hSw); go_split_ands; go_simp; try (with_reducible rfl))
  (try simp only [Act.put, List.setIfInBounds_toArray, List.set_cons_zero, List.set_cons_succ])
  clear hHeld
  refine wpHd_one (i := 2) rfl (by kernel_rfl) (fun K hK => ?_)
  go_simp
  refine (layer_any w1.heap.size _).mono ?_
  rintro e w4 ⟨rfl, hc4, k4⟩
  have b4 := b3d.kp k4 (by simp)
  have h4 := h3.drew.kp k4 (by simp)
  have T4 := T3.drew.kp k4
  have K4 := K3.drew.trans k4
  have hlt := h3.lt
  refine hK.out _ _ ⟨b4.cell 0, b4.cell 1, b4.cell 2, b4.cell 3, b4.cell 4, b4.cell 5, b4.cell 6⟩ (fun hHeld => ?_)
  clear hK K hHeld
  (try simp only [Act.put, List.setIfInBounds_toArray, List.set_cons_zero, List.set_cons_succ])
  refine ⟨by kernel_rfl, ?_⟩
  simp only [List.drop_succ_cons, List.drop_zero]
  go_wp2_with fail
  refine (immediate_lay op rd r1 r2 im od sz key _ w1.heap.size _ hs (Nat.ne_of_gt hlt) hc4 h4).mono ?_
  rintro e w5 ⟨rfl, h5, k5⟩
  have b5 := b4.kp k5 (by simp; omega)
  have K5 : Kp none w w5 := K4.drop k5 (fun i hi => by cases hi; omega)
  have T5 := hT.kp K5
  clear K4 T4 T3 K3 k5 k4 b4 h4 b3d hc4 b3 h3
  have c5 := h5.cell 0
  simp at c5
  go_wp2_with fail
  refine (decode_any (ly (ly (ly key rd 7 5 0) r1 15 5 0) im 20 12 0) _ (ly_lt (ly_lt (ly_lt hs (by omega)) (by omega)) (by omega)) T5).mono ?_
  rintro e w6 ⟨rfl, k6⟩
  have b6 := b5.kp k6 (by simp)
  have h6 := h5.kp k6 (by simp)
  have K6 := K5.trans k6
  clear k6 h5 b5 K5 T5 c5
  have c6 := h6.cell 0
  simp at c6
  obtain ⟨d0, d1, d2, d3, d4, d5, d6⟩ := b6.seven
  have n0 : ∀ o, (w6.alloc o).cell? ⟨w.heap.size, 0, none⟩ = some (.int .i64 op) := fun o => (b6.alloc o).cell 0
  have n1 : ∀ o, (w6.alloc o).cell? ⟨w.heap.size, 1, none⟩ = some (.int .i64 rd) := fun o => (b6.alloc o).cell 1
  have n2 : ∀ o, (w6.alloc o).cell? ⟨w.heap.size, 2, none⟩ = some (.int .i64 r1) := fun o => (b6.alloc o).cell 2
  have n3 : ∀ o, (w6.alloc o).cell? ⟨w.heap.size, 3, none⟩ = some (.int .i64 r2) := fun o => (b6.alloc o).cell 3
  have n4 : ∀ o, (w6.alloc o).cell? ⟨w.heap.size, 4, none⟩ = some (.int .i64 im) := fun o => (b6.alloc o).cell 4
  have n5 : ∀ o, (w6.alloc o).cell? ⟨w.heap.size, 5, none⟩ = some (.int .i64 od) := fun o => (b6.alloc o).cell 5
  have n6 : ∀ o, (w6.alloc o).cell? ⟨w.heap.size, 6, none⟩ = some (.int .i64 sz) := fun o => (b6.alloc o).cell 6
  have n7 : ∀ o, (w6.alloc o).cell? ⟨w1.heap.size, 0, none⟩ = some (.int .u32 ((ly (ly (ly key rd 7 5 0) r1 15 5 0) im 20 12 0) : Nat)) := fun o => (h6.alloc o).cell 0
  rw [hz]
  generalize dec _ = D at *
  go_wp2
  go_ret2
  exact ⟨rfl, K6.alloc _ _⟩

set_option maxHeartbeats 1000000 in
theorem encode_im_yes (op rd r1 r2 im od sz : Int) (key : Nat) (w : World) (hT : Tabs w) (hs : key < 4294967296) (hk : keyW op = key) (hfm : fmW key = .im) (hz : decide (opW (ly (ly (ly key rd 7 5 0) r1 15 5 0) im 20 12 0) ≠ 0) = true) (hd : dec (ly (ly (ly key rd 7 5 0) r1 15 5 0) im 20 12 0) = ⟨op, rd, r1, r2, im, od, sz⟩) :
    Calls Tryz.prog 25 #[.agg (I7 op rd r1 r2 im od sz)] w fun e w' => e = .returned (.tuple #[.int .u32 ((ly (ly (ly key rd 7 5 0) r1 15 5 0) im 20 12 0) : Nat), .bool true]) ∧ Kp none w w' := by
  have k0 := (Kp.refl none w).alloc (I7 op rd r1 r2 im od sz) 28
  have b0 := Has.new w (I7 op rd r1 r2 im od sz) 28
  have T0 := hT.kp k0
  have HK := Lib.hid (keyOf_any op _ T0)
  rw [hk] at HK
  have HL := Lib.hid (fun w h => look_any key w hs h)
  rw [hfm] at HL
  clear hk hfm
  generalize opW key = o at *
  go_enter Tryz.func25, Tryz.ntmps25
  go_wp2_with fail
  refine HK.out.mono ?_
  rintro e w1 ⟨rfl, k1⟩
  have K1 := k0.trans k1
  have b1 := (b0.kp k1 (by simp)).alloc (.cells #[.int .u32 (key : Nat)] 40)
  have T1 := (T0.kp k1).kp ((Kp.refl none _).alloc #[.int .u32 (key : Nat)] 40)
  have h2 := Has.new w1 #[.int .u32 (key : Nat)] 40
  have hwle : w.heap.size < w1.heap.size := (b0.kp k1 (by simp)).lt
  clear HK k0 k1 b0 T0
  go_wp2_with fail
  refine (HL.out _ T1).mono ?_
  rintro e w3 ⟨v, rfl, rfl, k3⟩
  have b3 := b1.kp k3 (by simp)
  have h3 := h2.kp k3 (by simp)
  have T3 := T1.kp k3
  have K3 := (K1.alloc #[.int .u32 (key : Nat)] 40).trans k3
  
  clear HL k3 b1 h2 T1 K1
  have hfn := nil_no
  go_wp2_with fail
  clear hfn
  have b3d := b3.drew
  refine wp_region_hd 3 (fun w' => w'.cell? ⟨w.heap.size, 0, none⟩ = some (.int .i64 op) ∧ w'.cell? ⟨w.heap.size, 1, none⟩ = some (.int .i64 rd) ∧ w'.cell? ⟨w.heap.size, 2, none⟩ = some (.int .i64 r1) ∧ w'.cell? ⟨w.heap.size, 3, none⟩ = some (.int .i64 r2) ∧ w'.cell? ⟨w.heap.size, 4, none⟩ = some (.int .i64 im) ∧ w'.cell? ⟨w.heap.size, 5, none⟩ = some (.int .i64 od) ∧ w'.cell? ⟨w.heap.size, 6, none⟩ = some (.int .i64 sz)) (by kernel_rfl) (by decide) ⟨b3d.cell 0, b3d.cell 1, b3d.cell 2, b3d.cell 3, b3d.cell 4, b3d.cell 5, b3d.cell 6⟩ (fun hHeld => ?_)
  refine wpHd_take (i := 0) (v := ?_) rfl (by kernel_rfl) (fun _ _ _ h => h) (Or.inl ⟨by rfl, ?hy⟩) hHeld ?_
  case hy => (intro w hSw; (try dsimp only at hSw); go_split_ands; go_simp; try (with_reducible rfl))
  (try simp only [Act.put, List.setIfInBounds_toArray, List.set_cons_zero, List.set_cons_succ])
  refine wpHd_take (i := 1) (v := ?_) rfl (by kernel_rfl) (fun _ _ _ h => h) (Or.inl ⟨by rfl, ?hy⟩) hHeld ?_
  case hy => (intro w hSw; (try dsimp only at hSw); go_split_ands; go_simp; try (with_reducible rfl))
  (try simp only [Act.put, List.setIfInBounds_toArray, List.set_cons_zero, List.set_cons_succ])
  clear hHeld
  refine wpHd_one (i := 2) rfl (by kernel_rfl) (fun K hK => ?_)
  go_simp
  refine (layer_any w1.heap.size _).mono ?_
  rintro e w4 ⟨rfl, hc4, k4⟩
  have b4 := b3d.kp k4 (by simp)
  have h4 := h3.drew.kp k4 (by simp)
  have T4 := T3.drew.kp k4
  have K4 := K3.drew.trans k4
  have hlt := h3.lt
  refine hK.out _ _ ⟨b4.cell 0, b4.cell 1, b4.cell 2, b4.cell 3, b4.cell 4, b4.cell 5, b4.cell 6⟩ (fun hHeld => ?_)
  clear hK K hHeld
  (try simp only [Act.put, List.setIfInBounds_toArray, List.set_cons_zero, List.set_cons_succ])
  refine ⟨by kernel_rfl, ?_⟩
  simp only [List.drop_succ_cons, List.drop_zero]
  go_wp2_with fail
  refine (immediate_lay op rd r1 r2 im od sz key _ w1.heap.size _ hs (Nat.ne_of_gt hlt) hc4 h4).mono ?_
  rintro e w5 ⟨rfl, h5, k5⟩
  have b5 := b4.kp k5 (by simp; omega)
  have K5 : Kp none w w5 := K4.drop k5 (fun i hi => by cases hi; omega)
  have T5 := hT.kp K5
  clear K4 T4 T3 K3 k5 k4 b4 h4 b3d hc4 b3 h3
  have c5 := h5.cell 0
  simp at c5
  go_wp2_with fail
  refine (decode_any (ly (ly (ly key rd 7 5 0) r1 15 5 0) im 20 12 0) _ (ly_lt (ly_lt (ly_lt hs (by omega)) (by omega)) (by omega)) T5).mono ?_
  rintro e w6 ⟨rfl, k6⟩
  have b6 := b5.kp k6 (by simp)
  have h6 := h5.kp k6 (by simp)
  have K6 := K5.trans k6
  clear k6 h5 b5 K5 T5 c5
  have c6 := h6.cell 0
  simp at c6
  obtain ⟨d0, d1, d2, d3, d4, d5, d6⟩ := b6.seven
  have n0 : ∀ o, (w6.alloc o).cell? ⟨w.heap.size, 0, none⟩ = some (.int .i64 op) := fun o => (b6.alloc o).cell 0
  have n1 : ∀ o, (w6.alloc o).cell? ⟨w.heap.size, 1, none⟩ = some (.int .i64 rd) := fun o => (b6.alloc o).cell 1
  have n2 : ∀ o, (w6.alloc o).cell? ⟨w.heap.size, 2, none⟩ = some (.int .i64 r1) := fun o => (b6.alloc o).cell 2
  have n3 : ∀ o, (w6.alloc o).cell? ⟨w.heap.size, 3, none⟩ = some (.int .i64 r2) := fun o => (b6.alloc o).cell 3
  have n4 : ∀ o, (w6.alloc o).cell? ⟨w.heap.size, 4, none⟩ = some (.int .i64 im) := fun o => (b6.alloc o).cell 4
  have n5 : ∀ o, (w6.alloc o).cell? ⟨w.heap.size, 5, none⟩ = some (.int .i64 od) := fun o => (b6.alloc o).cell 5
  have n6 : ∀ o, (w6.alloc o).cell? ⟨w.heap.size, 6, none⟩ = some (.int .i64 sz) := fun o => (b6.alloc o).cell 6
  have n7 : ∀ o, (w6.alloc o).cell? ⟨w1.heap.size, 0, none⟩ = some (.int .u32 ((ly (ly (ly key rd 7 5 0) r1 15 5 0) im 20 12 0) : Nat)) := fun o => (h6.alloc o).cell 0
  rw [hz, hd]
  go_wp2
  go_ret2
  exact ⟨rfl, K6.alloc _ _⟩

set_option maxHeartbeats 1000000 in
theorem encode_im_no (op rd r1 r2 im od sz : Int) (key : Nat) (w : World) (hT : Tabs w) (hs : key < 4294967296) (hk : keyW op = key) (hfm : fmW key = .im) (hz : decide (opW (ly (ly (ly key rd 7 5 0) r1 15 5 0) im 20 12 0) ≠ 0) = true) (e0 e1 e2 e3 e4 e5 e6 : Int) (hD : dec (ly (ly (ly key rd 7 5 0) r1 15 5 0) im 20 12 0) = ⟨e0, e1, e2, e3, e4, e5, e6⟩) (hd : (⟨e0, e1, e2, e3, e4, e5, e6⟩ : Ins) ≠ ⟨op, rd, r1, r2, im, od, sz⟩) :
    Calls Tryz.prog 25 #[.agg (I7 op rd r1 r2 im od sz)] w fun e w' => e = .returned (.tuple #[.int .u32 0, .bool false]) ∧ Kp none w w' := by
  have k0 := (Kp.refl none w).alloc (I7 op rd r1 r2 im od sz) 28
  have b0 := Has.new w (I7 op rd r1 r2 im od sz) 28
  have T0 := hT.kp k0
  have HK := Lib.hid (keyOf_any op _ T0)
  rw [hk] at HK
  have HL := Lib.hid (fun w h => look_any key w hs h)
  rw [hfm] at HL
  clear hk hfm
  generalize opW key = o at *
  go_enter Tryz.func25, Tryz.ntmps25
  go_wp2_with fail
  refine HK.out.mono ?_
  rintro e w1 ⟨rfl, k1⟩
  have K1 := k0.trans k1
  have b1 := (b0.kp k1 (by simp)).alloc (.cells #[.int .u32 (key : Nat)] 40)
  have T1 := (T0.kp k1).kp ((Kp.refl none _).alloc #[.int .u32 (key : Nat)] 40)
  have h2 := Has.new w1 #[.int .u32 (key : Nat)] 40
  have hwle : w.heap.size < w1.heap.size := (b0.kp k1 (by simp)).lt
  clear HK k0 k1 b0 T0
  go_wp2_with fail
  refine (HL.out _ T1).mono ?_
  rintro e w3 ⟨v, rfl, rfl, k3⟩
  have b3 := b1.kp k3 (by simp)
  have h3 := h2.kp k3 (by simp)
  have T3 := T1.kp k3
  have K3 := (K1.alloc #[.int .u32 (key : Nat)] 40).trans k3
  
  clear HL k3 b1 h2 T1 K1
  have hfn := nil_no
  go_wp2_with fail
  clear hfn
  have b3d := b3.drew
  refine wp_region_hd 3 (fun w' => w'.cell? ⟨w.heap.size, 0, none⟩ = some (.int .i64 op) ∧ w'.cell? ⟨w.heap.size, 1, none⟩ = some (.int .i64 rd) ∧ w'.cell? ⟨w.heap.size, 2, none⟩ = some (.int .i64 r1) ∧ w'.cell? ⟨w.heap.size, 3, none⟩ = some (.int .i64 r2) ∧ w'.cell? ⟨w.heap.size, 4, none⟩ = some (.int .i64 im) ∧ w'.cell? ⟨w.heap.size, 5, none⟩ = some (.int .i64 od) ∧ w'.cell? ⟨w.heap.size, 6, none⟩ = some (.int .i64 sz)) (by kernel_rfl) (by decide) ⟨b3d.cell 0, b3d.cell 1, b3d.cell 2, b3d.cell 3, b3d.cell 4, b3d.cell 5, b3d.cell 6⟩ (fun hHeld => ?_)
  refine wpHd_take (i := 0) (v := ?_) rfl (by kernel_rfl) (fun _ _ _ h => h) (Or.inl ⟨by rfl, ?hy⟩) hHeld ?_
  case hy => (intro w hSw; (try dsimp only at hSw); go_split_ands; go_simp; try (with_reducible rfl))
  (try simp only [Act.put, List.setIfInBounds_toArray, List.set_cons_zero, List.set_cons_succ])
  refine wpHd_take (i := 1) (v := ?_) rfl (by kernel_rfl) (fun _ _ _ h => h) (Or.inl ⟨by rfl, ?hy⟩) hHeld ?_
  case hy => (intro w hSw; (try dsimp only at hSw); go_split_ands; go_simp; try (with_reducible rfl))
  (try simp only [Act.put, List.setIfInBounds_toArray, List.set_cons_zero, List.set_cons_succ])
  clear hHeld
  refine wpHd_one (i := 2) rfl (by kernel_rfl) (fun K hK => ?_)
  go_simp
  refine (layer_any w1.heap.size _).mono ?_
  rintro e w4 ⟨rfl, hc4, k4⟩
  have b4 := b3d.kp k4 (by simp)
  have h4 := h3.drew.kp k4 (by simp)
  have T4 := T3.drew.kp k4
  have K4 := K3.drew.trans k4
  have hlt := h3.lt
  refine hK.out _ _ ⟨b4.cell 0, b4.cell 1, b4.cell 2, b4.cell 3, b4.cell 4, b4.cell 5, b4.cell 6⟩ (fun hHeld => ?_)
  clear hK K hHeld
  (try simp only [Act.put, List.setIfInBounds_toArray, List.set_cons_zero, List.set_cons_succ])
  refine ⟨by kernel_rfl, ?_⟩
  simp only [List.drop_succ_cons, List.drop_zero]
  go_wp2_with fail
  refine (immediate_lay op rd r1 r2 im od sz key _ w1.heap.size _ hs (Nat.ne_of_gt hlt) hc4 h4).mono ?_
  rintro e w5 ⟨rfl, h5, k5⟩
  have b5 := b4.kp k5 (by simp; omega)
  have K5 : Kp none w w5 := K4.drop k5 (fun i hi => by cases hi; omega)
  have T5 := hT.kp K5
  clear K4 T4 T3 K3 k5 k4 b4 h4 b3d hc4 b3 h3
  have c5 := h5.cell 0
  simp at c5
  go_wp2_with fail
  refine (decode_any (ly (ly (ly key rd 7 5 0) r1 15 5 0) im 20 12 0) _ (ly_lt (ly_lt (ly_lt hs (by omega)) (by omega)) (by omega)) T5).mono ?_
  rintro e w6 ⟨rfl, k6⟩
  have b6 := b5.kp k6 (by simp)
  have h6 := h5.kp k6 (by simp)
  have K6 := K5.trans k6
  clear k6 h5 b5 K5 T5 c5
  have c6 := h6.cell 0
  simp at c6
  obtain ⟨d0, d1, d2, d3, d4, d5, d6⟩ := b6.seven
  have n0 : ∀ o, (w6.alloc o).cell? ⟨w.heap.size, 0, none⟩ = some (.int .i64 op) := fun o => (b6.alloc o).cell 0
  have n1 : ∀ o, (w6.alloc o).cell? ⟨w.heap.size, 1, none⟩ = some (.int .i64 rd) := fun o => (b6.alloc o).cell 1
  have n2 : ∀ o, (w6.alloc o).cell? ⟨w.heap.size, 2, none⟩ = some (.int .i64 r1) := fun o => (b6.alloc o).cell 2
  have n3 : ∀ o, (w6.alloc o).cell? ⟨w.heap.size, 3, none⟩ = some (.int .i64 r2) := fun o => (b6.alloc o).cell 3
  have n4 : ∀ o, (w6.alloc o).cell? ⟨w.heap.size, 4, none⟩ = some (.int .i64 im) := fun o => (b6.alloc o).cell 4
  have n5 : ∀ o, (w6.alloc o).cell? ⟨w.heap.size, 5, none⟩ = some (.int .i64 od) := fun o => (b6.alloc o).cell 5
  have n6 : ∀ o, (w6.alloc o).cell? ⟨w.heap.size, 6, none⟩ = some (.int .i64 sz) := fun o => (b6.alloc o).cell 6
  have n7 : ∀ o, (w6.alloc o).cell? ⟨w1.heap.size, 0, none⟩ = some (.int .u32 ((ly (ly (ly key rd 7 5 0) r1 15 5 0) im 20 12 0) : Nat)) := fun o => (h6.alloc o).cell 0
  rw [hz, hD]
  have hq := neq_of hd
  clear hd
  go_wp2
  go_ret2
  exact ⟨rfl, K6.alloc _ _⟩

end Go.Proofs.YtionnhjldcpmjaaGreatDoor
