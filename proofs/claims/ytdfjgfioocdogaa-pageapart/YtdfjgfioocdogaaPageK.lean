/-
  Copy: the whole of it.
-/
import Derived.Test.YtdfjgfioocdogaaPageJ
set_option linter.unusedVariables false
set_option linter.unusedSimpArgs false
namespace Go.Proofs.Ytdfjgfioocdogaa
open Go.RowKit
set_option maxRecDepth 100000
theorem keepC {w w8 w9 : World} {b : Nat} {x y z : Value} (h : w8.cell? ⟨b, 1, none⟩ = some x ∧ w8.cell? ⟨b, 2, none⟩ = some y ∧ w8.cell? ⟨b, 3, none⟩ = some z ∧ Bl w w8) (k : Bl w8 w9) : w9.cell? ⟨b, 1, none⟩ = some x ∧ w9.cell? ⟨b, 2, none⟩ = some y ∧ w9.cell? ⟨b, 3, none⟩ = some z ∧ Bl w w9 := by
  obtain ⟨h1, h2, h3, h4⟩ := h
  exact ⟨by rw [k.cell (block_lt_of_cell h1)]; exact h1, by rw [k.cell (block_lt_of_cell h2)]; exact h2, by rw [k.cell (block_lt_of_cell h3)]; exact h3, h4.trans k⟩
/-- What a Copy leaves. -/
def CopyPost (w : World) (n : Nat) (M : Nat → Int) (e : Ending) (w' : World) : Prop :=
  ∃ cb f2 k2, e = .returned (addr0 cb) ∧ StoreAt (fun b => w.heap.size ≤ b) w' cb n f2 k2 M ∧ Bl w w'
theorem CP.start {w wr : World} {f : Nat → Option Nat} {M : Nat → Int} {left : Lit → Bool} (h : Bl (w.alloc (.map #[] 0)) wr) (hd : ∀ p, p < 2 ^ 64 → (f p).isSome = true → left (key p) = true) : CP w wr w.heap.size 0 f (fun _ => none) 0 M left := by
  refine ⟨(Bl.new w _).trans h, Nat.le_refl _, (PM.made w).of_block (h.block _ (by simp)), fun p b hb => (by cases hb), fun p q b hb => (by cases hb), fun p hp => ?_, fun p b hb => (by cases hb)⟩
  rcases hs : (f p).isSome with _ | _
  · simp
  · rw [hd p hp hs]; rfl
theorem SA.copied {S : Nat → Prop} {w W W' : World} {sb n n2 k k2 g : Nat} {f f2 : Nat → Option Nat} {M : Nat → Int} {pm sm sm' : Value} {c l : Int} {left : Lit → Bool} (h : SA S w sb n f k M pm sm c l) (hc : CP w W g n2 f f2 k2 M left) (hl : ∀ p, left (key p) = false) (hn : n2 ≤ n) (hb : Bl W W')
    (hs : SMV (fun b => W.heap.size ≤ b) W' sm' n) : SA (fun b => w.heap.size ≤ b) (W'.alloc (.cells #[.map (some g), sm', .int .u64 c, .int .u64 l] 42)) W'.heap.size n f2 k2 M (.map (some g)) sm' c l := by
  have hbb := hb.trans (Bl.new W' (.cells #[.map (some g), sm', .int .u64 c, .int .u64 l] 42))
  have hsz := hc.bl.size
  have hsz2 := hb.size
  refine ⟨heap_alloc_new W' _, by omega, h.lw, .inr ⟨g, rfl, hc.ge, (hc.pm.of_block (hbb.block g hc.pm.lt)).mono hn⟩, ?_, ?_, fun p b hb' => ⟨(hc.at_ p b hb').1, hbb.at_ (hc.at_ p b hb').2⟩, hc.inj, fun p o hp ho => ?_, hc.far⟩
  · rcases hs with rfl | ⟨B, D, rfl, h1, h2⟩
    · exact .inl rfl
    · exact .inr ⟨B, D, rfl, Nat.le_trans hsz h1, ownsMap_of_block h2 ((Bl.new W' _).block B h2.lt)⟩
  · intro B hB e
    cases hB
    rcases hs with h0 | ⟨B, D, h0, h1, h2⟩
    · rw [h0] at e; cases e
    · rw [h0] at e; cases e
      have := hc.pm.lt
      omega
  · by_cases hp64 : p < 2 ^ 64
    · have := hc.dom p hp64
      rw [hp, hl p] at this
      refine h.zero p o ?_ ho
      rcases hf : f p with _ | b
      · rfl
      · rw [hf] at this; cases this
    · refine h.zero p o ?_ ho
      rcases hf : f p with _ | b
      · rfl
      · have := h.lim p b hf; omega
set_option maxHeartbeats 4000000 in
theorem copy_none {S : Nat → Prop} {w : World} {sb n k : Nat} {f : Nat → Option Nat} {M : Nat → Int} {sm : Value} {c l : Int} (h : SA S w sb n f k M (.map none) sm c l) : Calls Try.prog 14 #[addr0 sb] w (CopyPost w n M) := by
  have hfn : ∀ p, f p = none := by
    rcases h.pages with ⟨_, h1, _⟩ | ⟨B, h0, _⟩
    · exact h1
    · cases h0
  have hlen := fun ty => h.pages.len ty
  have hmk := make39 w (k : Int)
  have h1 := h.bl (Bl.new w (.map #[] 0))
  obtain ⟨c0, c1, c2, c3⟩ := h.cell
  obtain ⟨d0, d1, d2, d3⟩ := h1.cell
  have hrg := run_range_nilMap (P := Try.prog) (w.alloc (.map #[] 0)) 39 27 44 Try.underlying39
  have hnx : ∀ ty, (Instr.next (.pointer (some ⟨(w.alloc (.map #[] 0)).heap.size, 0, none⟩)) false ty).run Try.prog ((w.alloc (.map #[] 0)).alloc (.mapIter none 0 #[] 0)) = _ := fun ty => run_next_nilMap (w.alloc (.map #[] 0)) ty 0 0 #[]
  rw [show (w.alloc (.map #[] 0)).heap.size = w.heap.size + 1 by simp] at hrg hnx
  have hcp : CP w ((w.alloc (.map #[] 0)).alloc (.mapIter none 0 #[] 0)) w.heap.size 0 f (fun _ => none) 0 M (fun _ => false) := CP.start (Bl.new _ _) (fun p _ hp => by rw [hfn p] at hp; cases hp)
  have H := Lib.hid h; clear h h1
  have HCP := Lib.hid hcp; clear hcp hfn
  unfold addr0
  go_enter Try.func14, Try.ntmps14
  go_wp2_with fail
  refine wp_loop_rounds 1 ?_
  rw [rounds_succ]
  go_wp2_with fail
  have hsw := H.out.bl HCP.out.bl
  have hcp := HCP.out
  have hn2 : 0 ≤ n := Nat.zero_le _
  clear c0 c1 c2 c3 d0 d1 d2 d3 hrg hnx hmk hlen HCP
  generalize (w.alloc (.map #[] 0)).alloc (.mapIter none 0 #[] 0) = W at *
  obtain ⟨c0, c1, c2, c3⟩ := hsw.cell
  have hsm := fun (W' : World) (hb : Bl W W') => clone_any (hsw.stamps.kept (fun B' hB' => by
    obtain ⟨_, es, q, h2⟩ := hsw.stamps.isMap hB'
    rw [hb.at_ h2, h2]))
  have HSM := Lib.hid hsm; clear hsm
  have HSW := Lib.hid hsw; clear hsw
  have HCP := Lib.hid hcp; clear hcp
  have C1 := Lib.hid c1
  have C2 := Lib.hid c2
  have C3 := Lib.hid c3
  clear c0 c1 c2 c3
  go_wp2_with fail
  go_region_held3 (fun w' => w'.cell? ⟨sb, 1, none⟩ = some sm ∧ w'.cell? ⟨sb, 2, none⟩ = some (.int .u64 c) ∧ w'.cell? ⟨sb, 3, none⟩ = some (.int .u64 l) ∧ Bl W w') (first | assumption | exact ⟨C1.out, C2.out, C3.out, Bl.refl _⟩ | exact ⟨C1.out, C2.out, C3.out, (Bl.refl _).drew⟩ | exact keepC hkk (Bl.new _ _)) (first | (go_at_call 28; refine (HSM.out _ (by assumption : _ ∧ _ ∧ _ ∧ Bl W _).2.2.2).mono ?_; rintro e w9 ⟨y, rfl, hs9, k9⟩; have hkk := keepC (by assumption) k9))
  go_wp2_with fail
  go_ret
  exact ⟨w9.heap.size, _, _, rfl, ⟨_, _, _, _, H.out.copied HCP.out (fun _ => rfl) hn2 hkk.2.2.2 hs9⟩, (HCP.out.bl.trans hkk.2.2.2).alloc _⟩
set_option maxHeartbeats 4000000 in
theorem copy_some {S : Nat → Prop} {w : World} {sb n k : Nat} {f : Nat → Option Nat} {M : Nat → Int} {B : Nat} {sm : Value} {c l : Int} (h : SA S w sb n f k M (.map (some B)) sm c l) (hn : n < 90000000) : Calls Try.prog 14 #[addr0 sb] w (CopyPost w n M) := by
  have hlen := fun ty => h.pages.len ty
  have hmk := make39 w (k : Int)
  have h1 := h.bl (Bl.new w (.map #[] 0))
  obtain ⟨c0, c1, c2, c3⟩ := h.cell
  obtain ⟨d0, d1, d2, d3⟩ := h1.cell
  have hkn := h.pm.k_le
  obtain ⟨D, hown, hDat, hDhas, hDsize⟩ := h1.pm
  have H := Lib.hid h; clear h h1
  have HOWN := Lib.hid hown; clear hown
  have HDH := Lib.hid hDhas; clear hDhas
  have HDS := Lib.hid hDsize; clear hDsize
  have HKN := Lib.hid hkn; clear hkn
  have HN := Lib.hid hn; clear hn
  clear hDat
  unfold addr0
  go_enter Try.func14, Try.ntmps14
  go_wp2_with (first
    | (at_range; refine wpList_range_own _ rfl _ 39 rfl 27 44 law27 Try.underlying39 _ B n _ rfl HOWN.out ?_; intro w5 hrg0 hg0 hs0)
    | go_in)
  go_frame
  have hr : (w.alloc (.map #[] 0)).heap.size = w.heap.size + 1 := by simp
  generalize (w.alloc (.map #[] 0)).heap.size = r at *
  have HR := Lib.hid hr; clear hr
  have bl5 := Bl.of_grown hg0
  have hcp0 : CP w w5 w.heap.size 0 f (fun _ => none) 0 M (Maps.has D) := CP.start bl5 (fun p hp hs => by rw [HDH.out p hp]; exact hs)
  clear c0 c1 c2 c3 d0 d1 d2 d3 hlen hmk hg0 hs0 bl5 HOWN HDH
  have HRG0 := Lib.hid hrg0; clear hrg0
  have HCP0 := Lib.hid hcp0; clear hcp0
  go_loopw [4, 5, 6] (fun _ _ _ wr => ∃ (left : Lit → Bool) (cnt n2 k2 : Nat) (f2 : Nat → Option Nat), wr.ranges Try.prog 27 ptrE B r n D left cnt ∧ CP w wr w.heap.size n2 f f2 k2 M left ∧ n2 + cnt ≤ n) (fun _ _ _ wr => wr.rangeLeft B r)
  case atStart => exact ⟨_, _, _, _, _, HRG0.out, HCP0.out, by have := HDS.out; have := HKN.out; omega⟩
  case round =>
    obtain ⟨left, cnt, n2, k2, f2, hrg, hcp, hn2c⟩ := hrel
    clear HRG0 HCP0 HDS
    have HRG := Lib.hid hrg; clear hrg
    have HCP := Lib.hid hcp; clear hcp
    go_wp2_with (first
      | (at_next; refine wpl_next_pages _ rfl _ rfl B r n _ _ _ rfl HRG.out ?_ ?_)
      | go_in)
    · intro _ hl0
      have hsw := H.out.bl HCP.out.bl
      have hcp := HCP.out
      have hn2 : n2 ≤ n := by omega
      have hl : ∀ p, left (key p) = false := fun p => hl0 _
      have HL := Lib.hid hl; clear hl
      clear HCP HRG hl0
      obtain ⟨W, hW⟩ : ∃ W, W = wr := ⟨_, rfl⟩
      subst hW
      obtain ⟨c0, c1, c2, c3⟩ := hsw.cell
      have hsm := fun (W' : World) (hb : Bl W W') => clone_any (hsw.stamps.kept (fun B' hB' => by
        obtain ⟨_, es, q, h2⟩ := hsw.stamps.isMap hB'
        rw [hb.at_ h2, h2]))
      have HSM := Lib.hid hsm; clear hsm
      have HSW := Lib.hid hsw; clear hsw
      have HCP := Lib.hid hcp; clear hcp
      have C1 := Lib.hid c1
      have C2 := Lib.hid c2
      have C3 := Lib.hid c3
      clear c0 c1 c2 c3
      go_wp2_with fail
      go_region_held3 (fun w' => w'.cell? ⟨sb, 1, none⟩ = some sm ∧ w'.cell? ⟨sb, 2, none⟩ = some (.int .u64 c) ∧ w'.cell? ⟨sb, 3, none⟩ = some (.int .u64 l) ∧ Bl W w') (first | assumption | exact ⟨C1.out, C2.out, C3.out, Bl.refl _⟩ | exact ⟨C1.out, C2.out, C3.out, (Bl.refl _).drew⟩ | exact keepC hkk (Bl.new _ _)) (first | (go_at_call 28; refine (HSM.out _ (by assumption : _ ∧ _ ∧ _ ∧ Bl W _).2.2.2).mono ?_; rintro e w9 ⟨y, rfl, hs9, k9⟩; have hkk := keepC (by assumption) k9))
      go_wp2_with fail
      go_ret
      exact ⟨w9.heap.size, _, _, rfl, ⟨_, _, _, _, H.out.copied HCP.out HL.out hn2 hkk.2.2.2 hs9⟩, (HCP.out.bl.trans hkk.2.2.2).alloc _⟩
    · intro p x w6 cnt1 hp hlx hat hrg1 hcl hg1 hs1 hen
      have hcp6 : CP w w6 w.heap.size n2 f f2 k2 M left := HCP.out.kept hg1 (by have := HR.out; omega) (by obtain ⟨_, _, since, seen, c0, _, _, _, _, hr, _⟩ := HRG.out; exact ⟨_, _, _, _, hr⟩)
      have hsa6 := H.out.bl hcp6.bl
      obtain ⟨b, rfl, hfb⟩ := hsa6.pm.step hrg1.owns hp hat
      have hplim := H.out.lim p b hfb
      obtain ⟨w8, k8, hput, hcp8, ht8⟩ := hcp6.step hplim hfb hlx (by have := HN.out; omega)
      have hload := load53 (hsa6.at_ p b hfb).2 (pageOf_length M p)
      have hstore := store53 w6 (pageOf M p) (pageOf_length M p)
      have hrg8 : w8.ranges Try.prog 27 ptrE B r n D (fun z => left z && !z.sameKey (key p)) cnt1 := by
        refine (hrg1.kept ((Bl.new w6 _).grownBy none) (by simp) (by simp)).kept ht8.grown (fun e => ?_) (fun e => ?_)
        · injection e with e
          have := H.out.pm.lt
          omega
        · injection e with e
          have := HR.out
          omega
      have hz := zero53
      have HRG8 := Lib.hid hrg8; clear hrg8 hrg1 ht8
      have HCP8 := Lib.hid hcp8; clear hcp8 hcp6 hsa6 hg1 hs1 hat hlx hfb hplim hp
      simp only [ptrOf, Option.map_some] at hen ⊢
      generalize pageOf M p = pg at *
      go_wp2_with (first
        | (refine wpl_load_run _ rfl (.tmp 26) 53 rfl _ _ rfl hload ?_)
        | (refine wpl_store_run _ rfl (.tmp 6) (.tmp 27) 53 rfl _ _ rfl rfl hstore ?_)
        | go_in)
      refine ⟨⟨_, cnt1, n2 + 1, k8, _, HRG8.out, HCP8.out, by omega⟩, ?_⟩
      rw [HRG8.out.left_eq, HRG.out.left_eq]
      exact hcl
theorem copy_any {S : Nat → Prop} {w : World} {sb n k : Nat} {f : Nat → Option Nat} {M : Nat → Int} (h : StoreAt S w sb n f k M) (hn : n < 90000000) : Calls Try.prog 14 #[addr0 sb] w (CopyPost w n M) := by
  obtain ⟨pm, sm, c, l, h⟩ := h
  rcases h.pages with ⟨rfl, _⟩ | ⟨B, rfl, _⟩
  · exact copy_none h
  · exact copy_some h hn
end Go.Proofs.Ytdfjgfioocdogaa
