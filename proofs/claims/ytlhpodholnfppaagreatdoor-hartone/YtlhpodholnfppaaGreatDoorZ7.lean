/-
  Part of the proof.
-/
import Derived.Test.YtlhpodholnfppaaGreatDoorZ5
set_option linter.unusedVariables false
set_option linter.unusedSimpArgs false
set_option maxHeartbeats 16000000
set_option maxRecDepth 100000
set_option linter.defProp false
open Go.Lib (hid)
namespace Go.Proofs.YtlhpodholnfppaaGreatDoor.Td
open Go.Proofs.Tryz
open Go.RowKit
theorem upper_take (op rd r1 r2 im od sz:Int) (s c:Nat) (w:World) (hs:s<4294967296) (hc:Has w c 39 #[.int .u32 s]) :
  Calls prog 196 #[.agg (I7 op rd r1 r2 im od sz),.func (.func 209) #[] #[.pointer (some ⟨c,0,none⟩)]] w fun e w' =>
   e=.returned (.agg (I7 op (tk s 7 5 0) r1 r2 (low (tk s 12 20 12) 32) od sz))∧Kp none w w':=by
 have f0:=FrT.start (I7 op rd r1 r2 im od sz) hc;go_enter func196,ntmps196;go_wp2_with fail;refine (zl _ s 7 5 0 c _ hs (by omega) (by omega) (by omega) (by omega) f0.mv).mono ?_;rintro e w1 ⟨rfl,k1⟩;have f1:=f0.call k1;obtain ⟨b0,b1,b2,b3,b4,b5,b6⟩:=f1.box.seven;have z:=f1.box.free;go_wp2_with fail;have f2:=f1.set 1 (.int .i64 (tk s 7 5 0));refine (zl _ s 12 20 12 c _ hs (by omega) (by omega) (by omega) (by omega) f2.mv).mono ?_;rintro e w2 ⟨rfl,k2⟩;have f3:=f2.call k2;clear b0 b1 b2 b3 b4 b5 b6 z;obtain ⟨b0,b1,b2,b3,b4,b5,b6⟩:=f3.box.seven;have z:=f3.box.free;obtain ⟨q0,q1,q2,q3,q4,q5,q6⟩:=f3.res.seven;have y:=f3.res.free;go_wp2_with fail;refine (zAj _ 32 _ (by omega) (by omega)).mono ?_;rintro e w' ⟨rfl,rfl⟩;go_wp2;have g:=f3.set 4 (.int .i64 (low (tk s 12 20 12) 32));refine zzb (Td.zAA rfl _ _ (w.heap.size+1) rfl (g.res.zA _ _ _ _ _ _ _) rfl) rfl ⟨rfl,?_⟩;exact g.kp.zA (Nat.le_succ _) _ _ _ _ _ _ _
theorem immediate_take (op rd r1 r2 im od sz:Int) (s c:Nat) (w:World) (hs:s<4294967296) (hc:Has w c 39 #[.int .u32 s]) :
  Calls prog 198 #[.agg (I7 op rd r1 r2 im od sz),.func (.func 209) #[] #[.pointer (some ⟨c,0,none⟩)]] w fun e w' =>
   e=.returned (.agg (I7 op (tk s 7 5 0) (tk s 15 5 0) r2 (low (tk s 20 12 0) 12) od sz))∧Kp none w w':=by
 have f0:=FrT.start (I7 op rd r1 r2 im od sz) hc;go_enter func198,ntmps198;go_wp2_with fail;refine (zl _ s 7 5 0 c _ hs (by omega) (by omega) (by omega) (by omega) f0.mv).mono ?_;rintro e w1 ⟨rfl,k1⟩;have f1:=f0.call k1;obtain ⟨b0,b1,b2,b3,b4,b5,b6⟩:=f1.box.seven;have z:=f1.box.free;go_wp2_with fail;have f2:=f1.set 1 (.int .i64 (tk s 7 5 0));refine (zl _ s 15 5 0 c _ hs (by omega) (by omega) (by omega) (by omega) f2.mv).mono ?_;rintro e w2 ⟨rfl,k2⟩;have f3:=f2.call k2;clear b0 b1 b2 b3 b4 b5 b6 z;obtain ⟨b0,b1,b2,b3,b4,b5,b6⟩:=f3.box.seven;have z:=f3.box.free;go_wp2_with fail;have f4:=f3.set 2 (.int .i64 (tk s 15 5 0));refine (zl _ s 20 12 0 c _ hs (by omega) (by omega) (by omega) (by omega) f4.mv).mono ?_;rintro e w3 ⟨rfl,k3⟩;have f5:=f4.call k3;clear b0 b1 b2 b3 b4 b5 b6 z;obtain ⟨b0,b1,b2,b3,b4,b5,b6⟩:=f5.box.seven;have z:=f5.box.free;obtain ⟨q0,q1,q2,q3,q4,q5,q6⟩:=f5.res.seven;have y:=f5.res.free;go_wp2_with fail;refine (zAj _ 12 _ (by omega) (by omega)).mono ?_;rintro e w' ⟨rfl,rfl⟩;go_wp2;have g:=f5.set 4 (.int .i64 (low (tk s 20 12 0) 12));refine zzb (Td.zAA rfl _ _ (w.heap.size+1) rfl (g.res.zA _ _ _ _ _ _ _) rfl) rfl ⟨rfl,?_⟩;exact g.kp.zA (Nat.le_succ _) _ _ _ _ _ _ _
theorem zDc (op rd r1 r2 im od sz:Int) (s c:Nat) (w:World) (hs:s<4294967296) (hc:Has w c 39 #[.int .u32 s]) :
  Calls prog 203 #[.agg (I7 op rd r1 r2 im od sz),.func (.func 209) #[] #[.pointer (some ⟨c,0,none⟩)]] w fun e w' =>
   e=.returned (.agg (I7 op (tk s 7 5 0) (tk s 15 5 0) (tk s 20 5 0) im od sz))∧Kp none w w':=by
 have f0:=FrT.start (I7 op rd r1 r2 im od sz) hc;go_enter func203,ntmps203;go_wp2_with fail;refine (zl _ s 7 5 0 c _ hs (by omega) (by omega) (by omega) (by omega) f0.mv).mono ?_;rintro e w1 ⟨rfl,k1⟩;have f1:=f0.call k1;obtain ⟨b0,b1,b2,b3,b4,b5,b6⟩:=f1.box.seven;have z:=f1.box.free;go_wp2_with fail;have f2:=f1.set 1 (.int .i64 (tk s 7 5 0));refine (zl _ s 15 5 0 c _ hs (by omega) (by omega) (by omega) (by omega) f2.mv).mono ?_;rintro e w2 ⟨rfl,k2⟩;have f3:=f2.call k2;clear b0 b1 b2 b3 b4 b5 b6 z;obtain ⟨b0,b1,b2,b3,b4,b5,b6⟩:=f3.box.seven;have z:=f3.box.free;go_wp2_with fail;have f4:=f3.set 2 (.int .i64 (tk s 15 5 0));refine (zl _ s 20 5 0 c _ hs (by omega) (by omega) (by omega) (by omega) f4.mv).mono ?_;rintro e w3 ⟨rfl,k3⟩;have f5:=f4.call k3;clear b0 b1 b2 b3 b4 b5 b6 z;obtain ⟨b0,b1,b2,b3,b4,b5,b6⟩:=f5.box.seven;have z:=f5.box.free;obtain ⟨q0,q1,q2,q3,q4,q5,q6⟩:=f5.res.seven;have y:=f5.res.free;go_wp2;have g:=f5.set 3 (.int .i64 (tk s 20 5 0));refine zzb (Td.zAA rfl _ _ (w.heap.size+1) rfl (g.res.zA _ _ _ _ _ _ _) rfl) rfl ⟨rfl,?_⟩;exact g.kp.zA (Nat.le_succ _) _ _ _ _ _ _ _
theorem jump_take (op rd r1 r2 im od sz:Int) (s c:Nat) (w:World) (hs:s<4294967296) (hc:Has w c 39 #[.int .u32 s]) :
  Calls prog 197 #[.agg (I7 op rd r1 r2 im od sz),.func (.func 209) #[] #[.pointer (some ⟨c,0,none⟩)]] w fun e w' =>
   e=.returned (.agg (I7 op (tk s 7 5 0) r1 r2 (low (bits .or .i64 (bits .or .i64 (bits .or .i64 (tk s 31 1 20) (tk s 12 8 12)) (tk s 20 1 11)) (tk s 21 10 1)) 21) od sz))∧Kp none w w':=by
 have f0:=FrT.start (I7 op rd r1 r2 im od sz) hc;go_enter func197,ntmps197;go_wp2_with fail;refine (zl _ s 7 5 0 c _ hs (by omega) (by omega) (by omega) (by omega) f0.mv).mono ?_;rintro e w1 ⟨rfl,k1⟩;have f1:=f0.call k1;obtain ⟨b0,b1,b2,b3,b4,b5,b6⟩:=f1.box.seven;have z:=f1.box.free;go_wp2_with fail;have f2:=f1.set 1 (.int .i64 (tk s 7 5 0));have f3:=f2.drew;refine zAC 20 (fun w'=>w'.cell? ⟨w.heap.size,4,none⟩=some (.int .i64 im)) (by kernel_rfl) (by decide) (f3.box.cell 4) (fun hH=>?_);refine zC (i:=0) (v:=?_) rfl (by kernel_rfl) (fun _ _ _ h=>h) (Or.inl ⟨by rfl,?hy⟩) hH ?_
 case hy=>(intro w hSw;(try dsimp only at hSw);go_split_ands;go_simp;try (with_reducible rfl))
 (try simp only [Act.put,qa])
 refine zC (i:=1) (v:=?_) rfl (by kernel_rfl) (fun _ _ _ h=>h) (Or.inl ⟨by rfl,?hy⟩) hH ?_
 case hy=>(intro w hSw;(try dsimp only at hSw);go_split_ands;go_simp;try (with_reducible rfl))
 (try simp only [Act.put,qa])
 refine zC (i:=2) (v:=?_) rfl (by kernel_rfl) (fun _ _ _ h=>h) (Or.inl ⟨by rfl,?hy⟩) hH ?_
 case hy=>(intro w hSw;(try dsimp only at hSw);go_split_ands;go_simp;try (with_reducible rfl))
 (try simp only [Act.put,qa])
 refine zC (i:=4) (v:=?_) rfl (by kernel_rfl) (fun _ _ _ h=>h) (Or.inl ⟨by rfl,?hy⟩) hH ?_
 case hy=>(intro w hSw;(try dsimp only at hSw);go_split_ands;go_simp;try (with_reducible rfl))
 (try simp only [Act.put,qa])
 refine zC (i:=5) (v:=?_) rfl (by kernel_rfl) (fun _ _ _ h=>h) (Or.inl ⟨by rfl,?hy⟩) hH ?_
 case hy=>(intro w hSw;(try dsimp only at hSw);go_split_ands;go_simp;try (with_reducible rfl))
 (try simp only [Act.put,qa])
 refine zC (i:=6) (v:=?_) rfl (by kernel_rfl) (fun _ _ _ h=>h) (Or.inl ⟨by rfl,?hy⟩) hH ?_
 case hy=>(intro w hSw;(try dsimp only at hSw);go_split_ands;go_simp;try (with_reducible rfl))
 (try simp only [Act.put,qa])
 refine zC (i:=9) (v:=?_) rfl (by kernel_rfl) (fun _ _ _ h=>h) (Or.inl ⟨by rfl,?hy⟩) hH ?_
 case hy=>(intro w hSw;(try dsimp only at hSw);go_split_ands;go_simp;try (with_reducible rfl))
 (try simp only [Act.put,qa])
 refine zC (i:=10) (v:=?_) rfl (by kernel_rfl) (fun _ _ _ h=>h) (Or.inl ⟨by rfl,?hy⟩) hH ?_
 case hy=>(intro w hSw;(try dsimp only at hSw);go_split_ands;go_simp;try (with_reducible rfl))
 (try simp only [Act.put,qa])
 refine zC (i:=11) (v:=?_) rfl (by kernel_rfl) (fun _ _ _ h=>h) (Or.inl ⟨by rfl,?hy⟩) hH ?_
 case hy=>(intro w hSw;(try dsimp only at hSw);go_split_ands;go_simp;try (with_reducible rfl))
 (try simp only [Act.put,qa])
 refine zC (i:=14) (v:=?_) rfl (by kernel_rfl) (fun _ _ _ h=>h) (Or.inl ⟨by rfl,?hy⟩) hH ?_
 case hy=>(intro w hSw;(try dsimp only at hSw);go_split_ands;go_simp;try (with_reducible rfl))
 (try simp only [Act.put,qa])
 refine zC (i:=15) (v:=?_) rfl (by kernel_rfl) (fun _ _ _ h=>h) (Or.inl ⟨by rfl,?hy⟩) hH ?_
 case hy=>(intro w hSw;(try dsimp only at hSw);go_split_ands;go_simp;try (with_reducible rfl))
 (try simp only [Act.put,qa])
 refine zC (i:=16) (v:=?_) rfl (by kernel_rfl) (fun _ _ _ h=>h) (Or.inl ⟨by rfl,?hy⟩) hH ?_
 case hy=>(intro w hSw;(try dsimp only at hSw);go_split_ands;go_simp;try (with_reducible rfl))
 (try simp only [Act.put,qa])
 refine zo (i:=3) rfl (by kernel_rfl) (fun K hK=>?_);go_simp;refine (zl _ s 31 1 20 c _ hs (by omega) (by omega) (by omega) (by omega) f3.mv).mono ?_;rintro e w2 ⟨rfl,k2⟩;have f4:=f3.call k2;refine hK.out _ _ (f4.box.cell 4) (fun hH=>?_);clear hK K;(try simp only [Act.put,qa])
 refine zo (i:=7) rfl (by kernel_rfl) (fun K hK=>?_);go_simp;refine (zl _ s 12 8 12 c _ hs (by omega) (by omega) (by omega) (by omega) f4.mv).mono ?_;rintro e w3 ⟨rfl,k3⟩;have f5:=f4.call k3;refine hK.out _ _ (f5.box.cell 4) (fun hH=>?_);clear hK K;(try simp only [Act.put,qa])
 refine zC (i:=8) (v:=?_) rfl (by kernel_rfl) (fun _ _ _ h=>h) (Or.inl ⟨by rfl,?hy⟩) hH ?_
 case hy=>(intro w hSw;(try dsimp only at hSw);go_split_ands;go_simp;try (with_reducible rfl))
 (try simp only [Act.put,qa])
 refine zo (i:=12) rfl (by kernel_rfl) (fun K hK=>?_);go_simp;refine (zl _ s 20 1 11 c _ hs (by omega) (by omega) (by omega) (by omega) f5.mv).mono ?_;rintro e w4 ⟨rfl,k4⟩;have f6:=f5.call k4;refine hK.out _ _ (f6.box.cell 4) (fun hH=>?_);clear hK K;(try simp only [Act.put,qa])
 refine zC (i:=13) (v:=?_) rfl (by kernel_rfl) (fun _ _ _ h=>h) (Or.inl ⟨by rfl,?hy⟩) hH ?_
 case hy=>(intro w hSw;(try dsimp only at hSw);go_split_ands;go_simp;try (with_reducible rfl))
 (try simp only [Act.put,qa])
 refine zo (i:=17) rfl (by kernel_rfl) (fun K hK=>?_);go_simp;refine (zl _ s 21 10 1 c _ hs (by omega) (by omega) (by omega) (by omega) f6.mv).mono ?_;rintro e w5 ⟨rfl,k5⟩;have f7:=f6.call k5;refine hK.out _ _ (f7.box.cell 4) (fun hH=>?_);clear hK K;(try simp only [Act.put,qa])
 refine zC (i:=18) (v:=?_) rfl (by kernel_rfl) (fun _ _ _ h=>h) (Or.inl ⟨by rfl,?hy⟩) hH ?_
 case hy=>(intro w hSw;(try dsimp only at hSw);go_split_ands;go_simp;try (with_reducible rfl))
 (try simp only [Act.put,qa])
 refine zo (i:=19) rfl (by kernel_rfl) (fun K hK=>?_);go_simp;refine (zAj _ 21 _ (by omega) (by omega)).mono ?_;rintro e w' ⟨rfl,rfl⟩;refine hK.out _ _ (f7.box.cell 4) (fun hH=>?_);clear hK K;(try simp only [Act.put,qa])
 refine ⟨by kernel_rfl,?_⟩;simp only [List.drop_succ_cons,List.drop_zero];clear b0 b1 b2 b3 b4 b5 b6 z;obtain ⟨b0,b1,b2,b3,b4,b5,b6⟩:=f7.box.seven;have z:=f7.box.free;obtain ⟨q0,q1,q2,q3,q4,q5,q6⟩:=f7.res.seven;have y:=f7.res.free;go_wp2;have g:=f7.set 4 (.int .i64 (low (bits .or .i64 (bits .or .i64 (bits .or .i64 (tk s 31 1 20) (tk s 12 8 12)) (tk s 20 1 11)) (tk s 21 10 1)) 21));refine zzb (Td.zAA rfl _ _ (w.heap.size+1) rfl (g.res.zA _ _ _ _ _ _ _) rfl) rfl ⟨rfl,?_⟩;exact g.kp.zA (Nat.le_succ _) _ _ _ _ _ _ _
theorem branch_take (op rd r1 r2 im od sz:Int) (s c:Nat) (w:World) (hs:s<4294967296) (hc:Has w c 39 #[.int .u32 s]) :
  Calls prog 199 #[.agg (I7 op rd r1 r2 im od sz),.func (.func 209) #[] #[.pointer (some ⟨c,0,none⟩)]] w fun e w' =>
   e=.returned (.agg (I7 op rd (tk s 15 5 0) (tk s 20 5 0) (low (bits .or .i64 (bits .or .i64 (bits .or .i64 (tk s 31 1 12) (tk s 7 1 11)) (tk s 25 6 5)) (tk s 8 4 1)) 13) od sz))∧Kp none w w':=by
 have f0:=FrT.start (I7 op rd r1 r2 im od sz) hc;go_enter func199,ntmps199;go_wp2_with fail;refine (zl _ s 15 5 0 c _ hs (by omega) (by omega) (by omega) (by omega) f0.mv).mono ?_;rintro e w1 ⟨rfl,k1⟩;have f1:=f0.call k1;obtain ⟨b0,b1,b2,b3,b4,b5,b6⟩:=f1.box.seven;have z:=f1.box.free;go_wp2_with fail;have f2:=f1.set 2 (.int .i64 (tk s 15 5 0));refine (zl _ s 20 5 0 c _ hs (by omega) (by omega) (by omega) (by omega) f2.mv).mono ?_;rintro e w2 ⟨rfl,k2⟩;have f3:=f2.call k2;clear b0 b1 b2 b3 b4 b5 b6 z;obtain ⟨b0,b1,b2,b3,b4,b5,b6⟩:=f3.box.seven;have z:=f3.box.free;go_wp2_with fail;have f4:=f3.set 3 (.int .i64 (tk s 20 5 0));have f5:=f4.drew;refine zAC 20 (fun w'=>w'.cell? ⟨w.heap.size,4,none⟩=some (.int .i64 im)) (by kernel_rfl) (by decide) (f5.box.cell 4) (fun hH=>?_);refine zC (i:=0) (v:=?_) rfl (by kernel_rfl) (fun _ _ _ h=>h) (Or.inl ⟨by rfl,?hy⟩) hH ?_
 case hy=>(intro w hSw;(try dsimp only at hSw);go_split_ands;go_simp;try (with_reducible rfl))
 (try simp only [Act.put,qa])
 refine zC (i:=1) (v:=?_) rfl (by kernel_rfl) (fun _ _ _ h=>h) (Or.inl ⟨by rfl,?hy⟩) hH ?_
 case hy=>(intro w hSw;(try dsimp only at hSw);go_split_ands;go_simp;try (with_reducible rfl))
 (try simp only [Act.put,qa])
 refine zC (i:=2) (v:=?_) rfl (by kernel_rfl) (fun _ _ _ h=>h) (Or.inl ⟨by rfl,?hy⟩) hH ?_
 case hy=>(intro w hSw;(try dsimp only at hSw);go_split_ands;go_simp;try (with_reducible rfl))
 (try simp only [Act.put,qa])
 refine zC (i:=4) (v:=?_) rfl (by kernel_rfl) (fun _ _ _ h=>h) (Or.inl ⟨by rfl,?hy⟩) hH ?_
 case hy=>(intro w hSw;(try dsimp only at hSw);go_split_ands;go_simp;try (with_reducible rfl))
 (try simp only [Act.put,qa])
 refine zC (i:=5) (v:=?_) rfl (by kernel_rfl) (fun _ _ _ h=>h) (Or.inl ⟨by rfl,?hy⟩) hH ?_
 case hy=>(intro w hSw;(try dsimp only at hSw);go_split_ands;go_simp;try (with_reducible rfl))
 (try simp only [Act.put,qa])
 refine zC (i:=6) (v:=?_) rfl (by kernel_rfl) (fun _ _ _ h=>h) (Or.inl ⟨by rfl,?hy⟩) hH ?_
 case hy=>(intro w hSw;(try dsimp only at hSw);go_split_ands;go_simp;try (with_reducible rfl))
 (try simp only [Act.put,qa])
 refine zC (i:=9) (v:=?_) rfl (by kernel_rfl) (fun _ _ _ h=>h) (Or.inl ⟨by rfl,?hy⟩) hH ?_
 case hy=>(intro w hSw;(try dsimp only at hSw);go_split_ands;go_simp;try (with_reducible rfl))
 (try simp only [Act.put,qa])
 refine zC (i:=10) (v:=?_) rfl (by kernel_rfl) (fun _ _ _ h=>h) (Or.inl ⟨by rfl,?hy⟩) hH ?_
 case hy=>(intro w hSw;(try dsimp only at hSw);go_split_ands;go_simp;try (with_reducible rfl))
 (try simp only [Act.put,qa])
 refine zC (i:=11) (v:=?_) rfl (by kernel_rfl) (fun _ _ _ h=>h) (Or.inl ⟨by rfl,?hy⟩) hH ?_
 case hy=>(intro w hSw;(try dsimp only at hSw);go_split_ands;go_simp;try (with_reducible rfl))
 (try simp only [Act.put,qa])
 refine zC (i:=14) (v:=?_) rfl (by kernel_rfl) (fun _ _ _ h=>h) (Or.inl ⟨by rfl,?hy⟩) hH ?_
 case hy=>(intro w hSw;(try dsimp only at hSw);go_split_ands;go_simp;try (with_reducible rfl))
 (try simp only [Act.put,qa])
 refine zC (i:=15) (v:=?_) rfl (by kernel_rfl) (fun _ _ _ h=>h) (Or.inl ⟨by rfl,?hy⟩) hH ?_
 case hy=>(intro w hSw;(try dsimp only at hSw);go_split_ands;go_simp;try (with_reducible rfl))
 (try simp only [Act.put,qa])
 refine zC (i:=16) (v:=?_) rfl (by kernel_rfl) (fun _ _ _ h=>h) (Or.inl ⟨by rfl,?hy⟩) hH ?_
 case hy=>(intro w hSw;(try dsimp only at hSw);go_split_ands;go_simp;try (with_reducible rfl))
 (try simp only [Act.put,qa])
 refine zo (i:=3) rfl (by kernel_rfl) (fun K hK=>?_);go_simp;refine (zl _ s 31 1 12 c _ hs (by omega) (by omega) (by omega) (by omega) f5.mv).mono ?_;rintro e w3 ⟨rfl,k3⟩;have f6:=f5.call k3;refine hK.out _ _ (f6.box.cell 4) (fun hH=>?_);clear hK K;(try simp only [Act.put,qa])
 refine zo (i:=7) rfl (by kernel_rfl) (fun K hK=>?_);go_simp;refine (zl _ s 7 1 11 c _ hs (by omega) (by omega) (by omega) (by omega) f6.mv).mono ?_;rintro e w4 ⟨rfl,k4⟩;have f7:=f6.call k4;refine hK.out _ _ (f7.box.cell 4) (fun hH=>?_);clear hK K;(try simp only [Act.put,qa])
 refine zC (i:=8) (v:=?_) rfl (by kernel_rfl) (fun _ _ _ h=>h) (Or.inl ⟨by rfl,?hy⟩) hH ?_
 case hy=>(intro w hSw;(try dsimp only at hSw);go_split_ands;go_simp;try (with_reducible rfl))
 (try simp only [Act.put,qa])
 refine zo (i:=12) rfl (by kernel_rfl) (fun K hK=>?_);go_simp;refine (zl _ s 25 6 5 c _ hs (by omega) (by omega) (by omega) (by omega) f7.mv).mono ?_;rintro e w5 ⟨rfl,k5⟩;have f8:=f7.call k5;refine hK.out _ _ (f8.box.cell 4) (fun hH=>?_);clear hK K;(try simp only [Act.put,qa])
 refine zC (i:=13) (v:=?_) rfl (by kernel_rfl) (fun _ _ _ h=>h) (Or.inl ⟨by rfl,?hy⟩) hH ?_
 case hy=>(intro w hSw;(try dsimp only at hSw);go_split_ands;go_simp;try (with_reducible rfl))
 (try simp only [Act.put,qa])
 refine zo (i:=17) rfl (by kernel_rfl) (fun K hK=>?_);go_simp;refine (zl _ s 8 4 1 c _ hs (by omega) (by omega) (by omega) (by omega) f8.mv).mono ?_;rintro e w6 ⟨rfl,k6⟩;have f9:=f8.call k6;refine hK.out _ _ (f9.box.cell 4) (fun hH=>?_);clear hK K;(try simp only [Act.put,qa])
 refine zC (i:=18) (v:=?_) rfl (by kernel_rfl) (fun _ _ _ h=>h) (Or.inl ⟨by rfl,?hy⟩) hH ?_
 case hy=>(intro w hSw;(try dsimp only at hSw);go_split_ands;go_simp;try (with_reducible rfl))
 (try simp only [Act.put,qa])
 refine zo (i:=19) rfl (by kernel_rfl) (fun K hK=>?_);go_simp;refine (zAj _ 13 _ (by omega) (by omega)).mono ?_;rintro e w' ⟨rfl,rfl⟩;refine hK.out _ _ (f9.box.cell 4) (fun hH=>?_);clear hK K;(try simp only [Act.put,qa])
 refine ⟨by kernel_rfl,?_⟩;simp only [List.drop_succ_cons,List.drop_zero];clear b0 b1 b2 b3 b4 b5 b6 z;obtain ⟨b0,b1,b2,b3,b4,b5,b6⟩:=f9.box.seven;have z:=f9.box.free;obtain ⟨q0,q1,q2,q3,q4,q5,q6⟩:=f9.res.seven;have y:=f9.res.free;go_wp2;have g:=f9.set 4 (.int .i64 (low (bits .or .i64 (bits .or .i64 (bits .or .i64 (tk s 31 1 12) (tk s 7 1 11)) (tk s 25 6 5)) (tk s 8 4 1)) 13));refine zzb (Td.zAA rfl _ _ (w.heap.size+1) rfl (g.res.zA _ _ _ _ _ _ _) rfl) rfl ⟨rfl,?_⟩;exact g.kp.zA (Nat.le_succ _) _ _ _ _ _ _ _
theorem store_take (op rd r1 r2 im od sz:Int) (s c:Nat) (w:World) (hs:s<4294967296) (hc:Has w c 39 #[.int .u32 s]) :
  Calls prog 200 #[.agg (I7 op rd r1 r2 im od sz),.func (.func 209) #[] #[.pointer (some ⟨c,0,none⟩)]] w fun e w' =>
   e=.returned (.agg (I7 op rd (tk s 15 5 0) (tk s 20 5 0) (low (bits .or .i64 (tk s 25 7 5) (tk s 7 5 0)) 12) od sz))∧Kp none w w':=by
 have f0:=FrT.start (I7 op rd r1 r2 im od sz) hc;go_enter func200,ntmps200;go_wp2_with fail;refine (zl _ s 15 5 0 c _ hs (by omega) (by omega) (by omega) (by omega) f0.mv).mono ?_;rintro e w1 ⟨rfl,k1⟩;have f1:=f0.call k1;obtain ⟨b0,b1,b2,b3,b4,b5,b6⟩:=f1.box.seven;have z:=f1.box.free;go_wp2_with fail;have f2:=f1.set 2 (.int .i64 (tk s 15 5 0));refine (zl _ s 20 5 0 c _ hs (by omega) (by omega) (by omega) (by omega) f2.mv).mono ?_;rintro e w2 ⟨rfl,k2⟩;have f3:=f2.call k2;clear b0 b1 b2 b3 b4 b5 b6 z;obtain ⟨b0,b1,b2,b3,b4,b5,b6⟩:=f3.box.seven;have z:=f3.box.free;go_wp2_with fail;have f4:=f3.set 3 (.int .i64 (tk s 20 5 0));have f5:=f4.drew;refine zAC 10 (fun w'=>w'.cell? ⟨w.heap.size,4,none⟩=some (.int .i64 im)) (by kernel_rfl) (by decide) (f5.box.cell 4) (fun hH=>?_);refine zC (i:=0) (v:=?_) rfl (by kernel_rfl) (fun _ _ _ h=>h) (Or.inl ⟨by rfl,?hy⟩) hH ?_
 case hy=>(intro w hSw;(try dsimp only at hSw);go_split_ands;go_simp;try (with_reducible rfl))
 (try simp only [Act.put,qa])
 refine zC (i:=1) (v:=?_) rfl (by kernel_rfl) (fun _ _ _ h=>h) (Or.inl ⟨by rfl,?hy⟩) hH ?_
 case hy=>(intro w hSw;(try dsimp only at hSw);go_split_ands;go_simp;try (with_reducible rfl))
 (try simp only [Act.put,qa])
 refine zC (i:=2) (v:=?_) rfl (by kernel_rfl) (fun _ _ _ h=>h) (Or.inl ⟨by rfl,?hy⟩) hH ?_
 case hy=>(intro w hSw;(try dsimp only at hSw);go_split_ands;go_simp;try (with_reducible rfl))
 (try simp only [Act.put,qa])
 refine zC (i:=4) (v:=?_) rfl (by kernel_rfl) (fun _ _ _ h=>h) (Or.inl ⟨by rfl,?hy⟩) hH ?_
 case hy=>(intro w hSw;(try dsimp only at hSw);go_split_ands;go_simp;try (with_reducible rfl))
 (try simp only [Act.put,qa])
 refine zC (i:=5) (v:=?_) rfl (by kernel_rfl) (fun _ _ _ h=>h) (Or.inl ⟨by rfl,?hy⟩) hH ?_
 case hy=>(intro w hSw;(try dsimp only at hSw);go_split_ands;go_simp;try (with_reducible rfl))
 (try simp only [Act.put,qa])
 refine zC (i:=6) (v:=?_) rfl (by kernel_rfl) (fun _ _ _ h=>h) (Or.inl ⟨by rfl,?hy⟩) hH ?_
 case hy=>(intro w hSw;(try dsimp only at hSw);go_split_ands;go_simp;try (with_reducible rfl))
 (try simp only [Act.put,qa])
 refine zo (i:=3) rfl (by kernel_rfl) (fun K hK=>?_);go_simp;refine (zl _ s 25 7 5 c _ hs (by omega) (by omega) (by omega) (by omega) f5.mv).mono ?_;rintro e w3 ⟨rfl,k3⟩;have f6:=f5.call k3;refine hK.out _ _ (f6.box.cell 4) (fun hH=>?_);clear hK K;(try simp only [Act.put,qa])
 refine zo (i:=7) rfl (by kernel_rfl) (fun K hK=>?_);go_simp;refine (zl _ s 7 5 0 c _ hs (by omega) (by omega) (by omega) (by omega) f6.mv).mono ?_;rintro e w4 ⟨rfl,k4⟩;have f7:=f6.call k4;refine hK.out _ _ (f7.box.cell 4) (fun hH=>?_);clear hK K;(try simp only [Act.put,qa])
 refine zC (i:=8) (v:=?_) rfl (by kernel_rfl) (fun _ _ _ h=>h) (Or.inl ⟨by rfl,?hy⟩) hH ?_
 case hy=>(intro w hSw;(try dsimp only at hSw);go_split_ands;go_simp;try (with_reducible rfl))
 (try simp only [Act.put,qa])
 refine zo (i:=9) rfl (by kernel_rfl) (fun K hK=>?_);go_simp;refine (zAj _ 12 _ (by omega) (by omega)).mono ?_;rintro e w' ⟨rfl,rfl⟩;refine hK.out _ _ (f7.box.cell 4) (fun hH=>?_);clear hK K;(try simp only [Act.put,qa])
 refine ⟨by kernel_rfl,?_⟩;simp only [List.drop_succ_cons,List.drop_zero];clear b0 b1 b2 b3 b4 b5 b6 z;obtain ⟨b0,b1,b2,b3,b4,b5,b6⟩:=f7.box.seven;have z:=f7.box.free;obtain ⟨q0,q1,q2,q3,q4,q5,q6⟩:=f7.res.seven;have y:=f7.res.free;go_wp2;have g:=f7.set 4 (.int .i64 (low (bits .or .i64 (tk s 25 7 5) (tk s 7 5 0)) 12));refine zzb (Td.zAA rfl _ _ (w.heap.size+1) rfl (g.res.zA _ _ _ _ _ _ _) rfl) rfl ⟨rfl,?_⟩;exact g.kp.zA (Nat.le_succ _) _ _ _ _ _ _ _
theorem shift_take (op rd r1 r2 im od sz:Int) (s c:Nat) (w:World) (hs:s<4294967296) (hc:Has w c 39 #[.int .u32 s]) (q Q:Nat) (hq20:q≤6) (hq:Has w Q 3 #[.int .i64 q]) :
  Calls prog 240 #[.agg (I7 op rd r1 r2 im od sz),.func (.func 209) #[] #[.pointer (some ⟨c,0,none⟩)],.pointer (some ⟨Q,0,none⟩)] w fun e w' =>
   e=.returned (.agg (I7 op (tk s 7 5 0) (tk s 15 5 0) r2 (tk s 20 q 0) od sz))∧Kp none w w':=by
 have f0:=FrT.start (I7 op rd r1 r2 im od sz) hc;go_enter func240,ntmps240;go_wp2_with fail;refine (zl _ s 7 5 0 c _ hs (by omega) (by omega) (by omega) (by omega) f0.mv).mono ?_;rintro e w1 ⟨rfl,k1⟩;have f1:=f0.call k1;obtain ⟨b0,b1,b2,b3,b4,b5,b6⟩:=f1.box.seven;have z:=f1.box.free;have qq:=(hq.kp f1.kp (by simp)).cell 0;simp at qq;go_wp2_with fail;have f2:=f1.set 1 (.int .i64 (tk s 7 5 0));refine (zl _ s 15 5 0 c _ hs (by omega) (by omega) (by omega) (by omega) f2.mv).mono ?_;rintro e w2 ⟨rfl,k2⟩;have f3:=f2.call k2;clear b0 b1 b2 b3 b4 b5 b6 z qq;obtain ⟨b0,b1,b2,b3,b4,b5,b6⟩:=f3.box.seven;have z:=f3.box.free;have qq:=(hq.kp f3.kp (by simp)).cell 0;simp at qq;go_wp2_with fail;have f4:=f3.set 2 (.int .i64 (tk s 15 5 0));refine (zl _ s 20 q 0 c _ hs (by omega) (by omega) (by omega) (by omega) f4.mv).mono ?_;rintro e w3 ⟨rfl,k3⟩;have f5:=f4.call k3;clear b0 b1 b2 b3 b4 b5 b6 z qq;obtain ⟨b0,b1,b2,b3,b4,b5,b6⟩:=f5.box.seven;have z:=f5.box.free;obtain ⟨q0,q1,q2,q3,q4,q5,q6⟩:=f5.res.seven;have y:=f5.res.free;have qq:=(hq.kp f5.kp (by simp)).cell 0;simp at qq;go_wp2;have g:=f5.set 4 (.int .i64 (tk s 20 q 0));refine zzb (Td.zAA rfl _ _ (w.heap.size+1) rfl (g.res.zA _ _ _ _ _ _ _) rfl) rfl ⟨rfl,?_⟩;exact g.kp.zA (Nat.le_succ _) _ _ _ _ _ _ _
theorem bare_any (op rd r1 r2 im od sz:Int) (m:Value) (w:World) :
  Calls prog 207 #[.agg (I7 op rd r1 r2 im od sz),m] w fun e w'=>e=.returned (.agg (I7 op rd r1 r2 im od sz))∧Kp none w w':=by
 go_enter func207,ntmps207;go_wp2;have g:=Has.new (w.alloc (.cells (I7 op rd r1 r2 im od sz) 38)) (I7 op rd r1 r2 im od sz) 38;have e:(w.alloc (.cells (I7 op rd r1 r2 im od sz) 38)).heap.size=w.heap.size+1:=by simp
 rw [e] at g;refine zzb (Td.zAA rfl _ _ (w.heap.size+1) rfl g rfl) rfl ⟨rfl,?_⟩;exact (((Kp.refl _ _).alloc _ _).alloc _ _)
theorem atomic_take (op rd r1 r2 im od sz:Int) (s c:Nat) (w:World) (hs:s<4294967296) (hc:Has w c 39 #[.int .u32 s]) :
  Calls prog 206 #[.agg (I7 op rd r1 r2 im od sz),.func (.func 209) #[] #[.pointer (some ⟨c,0,none⟩)]] w fun e w' =>
   e=.returned (.agg (I7 op (tk s 7 5 0) (tk s 15 5 0) (tk s 20 5 0) im (tk s 25 2 0) sz))∧Kp none w w':=by
 have f0:=FrT.start (I7 op rd r1 r2 im od sz) hc;go_enter func206,ntmps206;go_wp2_with fail;refine (zDc op rd r1 r2 im od sz s c _ hs f0.mv).mono ?_;rintro e w1 ⟨rfl,k1⟩;have f1:=f0.call k1;obtain ⟨b0,b1,b2,b3,b4,b5,b6⟩:=f1.box.seven;have z:=f1.box.free;go_wp2_with fail;have g0:=(((((((f1.set 0 (.int .i64 op)).set 1 (.int .i64 (tk s 7 5 0))).set 2 (.int .i64 (tk s 15 5 0))).set 3 (.int .i64 (tk s 20 5 0))).set 4 (.int .i64 im)).set 5 (.int .i64 od)).set 6 (.int .i64 sz));have f2:FrT w c s (I7 op (tk s 7 5 0) (tk s 15 5 0) (tk s 20 5 0) im od sz) _:=g0;refine (zl _ s 25 2 0 c _ hs (by omega) (by omega) (by omega) (by omega) f2.mv).mono ?_;rintro e w2 ⟨rfl,k2⟩;have f3:=f2.call k2;clear b0 b1 b2 b3 b4 b5 b6 z;obtain ⟨b0,b1,b2,b3,b4,b5,b6⟩:=f3.box.seven;have z:=f3.box.free;obtain ⟨q0,q1,q2,q3,q4,q5,q6⟩:=f3.res.seven;have y:=f3.res.free;go_wp2;have g:=f3.set 5 (.int .i64 (tk s 25 2 0));refine zzb (Td.zAA rfl _ _ (w.heap.size+1) rfl (g.res.zA _ _ _ _ _ _ _) rfl) rfl ⟨rfl,?_⟩;exact g.kp.zA (Nat.le_succ _) _ _ _ _ _ _ _
def Tab (w:World) (g:Nat) (zs:List Int):Prop:=∀ i,i<zs.length→w.cell? ⟨g,i,none⟩=some (.int .i64 (zs.getD i 0))
variable {zs:List Int} {b g:Nat} {w w':World}
theorem Tab.kp (h:Tab w g zs) (k:Kp none w w'):Tab w' g zs:=fun i hi=>by
 have h0:=h i hi;have hlt:g<w.heap.size:=by
  rcases Nat.lt_or_ge g w.heap.size with hl|hl
  ·exact hl
  ·simp [World.cell?,Array.getElem?_eq_none hl] at h0
 rw [World.cell?_of_block (w:=w) (k.block g hlt (by simp))];exact h0
structure Tabs (w:World):Prop where
 t0:Tab w 1 [4,0,0,0,0,0,0,0]
 t1:Tab w 2 [5,6,0,0,7,8,9,10]
 t2:Tab w 3 [11,12,13,14,15,16,17,0]
 t3:Tab w 4 [18,19,20,21,0,0,0,0]
 t4:Tab w 5 [31,33,34,35,36,37,39,40]
 t5:Tab w 6 [32,0,0,0,0,38,0,0]
 t6:Tab w 7 [50,51,52,53,54,55,56,57]
 t7:Tab w 8 [45,47,0,0,0,48,0,0]
 t8:Tab w 9 [46,0,0,0,0,49,0,0]
 t9:Tab w 10 [58,0,0,0,59,60,61,62]
 t10:Tab w 11 [85,86,0,0,0,0,0,0]
 t11:Tab w 12 [22,0,23,24,25,0,26,27]
 t12:Tab w 13 [0,28,0,0,0,29,0,0]
 t13:Tab w 14 [0,0,0,0,0,30,0,0]
 t14:Tab w 15 [41,0,0,0,0,0,0,0]
 t15:Tab w 16 [0,42,0,0,0,43,0,0]
 t16:Tab w 17 [0,0,0,0,0,44,0,0]
 t17:Tab w 18 [66,65,63,64,67,0,0,0,69,0,0,0,68,0,0,0,70,0,0,0,71,0,0,0,72,0,0,0,73,0,0,0]
 t18:Tab w 19 [77,76,74,75,78,0,0,0,80,0,0,0,79,0,0,0,81,0,0,0,82,0,0,0,83,0,0,0,84,0,0,0]
theorem Tabs.kp (h:Tabs w) (k:Kp none w w'):Tabs w':=
 ⟨h.t0.kp k,h.t1.kp k,h.t2.kp k,h.t3.kp k,h.t4.kp k,h.t5.kp k,h.t6.kp k,h.t7.kp k,h.t8.kp k,h.t9.kp k,h.t10.kp k,h.t11.kp k,h.t12.kp k,h.t13.kp k,h.t14.kp k,h.t15.kp k,h.t16.kp k,h.t17.kp k,h.t18.kp k⟩
theorem Tabs.drew (h:Tabs w):Tabs w.drew:=h.kp (Kp.refl _ _).drew
abbrev A8 (a0 a1 a2 a3 a4 a5 a6 a7:Int):Array Value:=#[.int .i64 a0,.int .i64 a1,.int .i64 a2,.int .i64 a3,.int .i64 a4,.int .i64 a5,.int .i64 a6,.int .i64 a7]
theorem zEK (f:Nat) (a0 a1 a2 a3 a4 a5 a6 a7 b0 b1 b2 b3 b4 b5 b6 b7 c0 c1 c2 c3 c4 c5 c6 c7:Int) (w:World) (hf:f=0) :
  Calls prog 202 #[.int .u32 f,.agg (A8 a0 a1 a2 a3 a4 a5 a6 a7),.agg (A8 b0 b1 b2 b3 b4 b5 b6 b7),.agg (A8 c0 c1 c2 c3 c4 c5 c6 c7)] w fun e w'=>e=.returned (.agg (A8 a0 a1 a2 a3 a4 a5 a6 a7))∧Kp none w w':=by
 subst hf;go_enter func202,ntmps202;go_wp2;have g:=Has.new (((w.alloc (.cells (A8 a0 a1 a2 a3 a4 a5 a6 a7) 209)).alloc (.cells (A8 b0 b1 b2 b3 b4 b5 b6 b7) 209)).alloc (.cells (A8 c0 c1 c2 c3 c4 c5 c6 c7) 209)) (A8 a0 a1 a2 a3 a4 a5 a6 a7) 209;have e:(((w.alloc (.cells (A8 a0 a1 a2 a3 a4 a5 a6 a7) 209)).alloc (.cells (A8 b0 b1 b2 b3 b4 b5 b6 b7) 209)).alloc (.cells (A8 c0 c1 c2 c3 c4 c5 c6 c7) 209)).heap.size=w.heap.size+1+1+1:=by simp
 rw [e] at g;refine zzb (results_cell_row rfl _ _ (w.heap.size+1+1+1) 209 _ (0,0) _ rfl g underlying209 rfl (by kernel_rfl)) rfl ⟨rfl,?_⟩;exact ((((Kp.refl _ _).alloc _ _).alloc _ _).alloc _ _).alloc _ _
theorem zDU (f:Nat) (a0 a1 a2 a3 a4 a5 a6 a7 b0 b1 b2 b3 b4 b5 b6 b7 c0 c1 c2 c3 c4 c5 c6 c7:Int) (w:World) (hf:f=32) :
  Calls prog 202 #[.int .u32 f,.agg (A8 a0 a1 a2 a3 a4 a5 a6 a7),.agg (A8 b0 b1 b2 b3 b4 b5 b6 b7),.agg (A8 c0 c1 c2 c3 c4 c5 c6 c7)] w fun e w'=>e=.returned (.agg (A8 b0 b1 b2 b3 b4 b5 b6 b7))∧Kp none w w':=by
 subst hf;go_enter func202,ntmps202;go_wp2;have g:=Has.new (((w.alloc (.cells (A8 a0 a1 a2 a3 a4 a5 a6 a7) 209)).alloc (.cells (A8 b0 b1 b2 b3 b4 b5 b6 b7) 209)).alloc (.cells (A8 c0 c1 c2 c3 c4 c5 c6 c7) 209)) (A8 b0 b1 b2 b3 b4 b5 b6 b7) 209;have e:(((w.alloc (.cells (A8 a0 a1 a2 a3 a4 a5 a6 a7) 209)).alloc (.cells (A8 b0 b1 b2 b3 b4 b5 b6 b7) 209)).alloc (.cells (A8 c0 c1 c2 c3 c4 c5 c6 c7) 209)).heap.size=w.heap.size+1+1+1:=by simp
 rw [e] at g;refine zzb (results_cell_row rfl _ _ (w.heap.size+1+1+1) 209 _ (0,0) _ rfl g underlying209 rfl (by kernel_rfl)) rfl ⟨rfl,?_⟩;exact ((((Kp.refl _ _).alloc _ _).alloc _ _).alloc _ _).alloc _ _
theorem zDH (f:Nat) (a0 a1 a2 a3 a4 a5 a6 a7 b0 b1 b2 b3 b4 b5 b6 b7 c0 c1 c2 c3 c4 c5 c6 c7:Int) (w:World) (hf:f=1) :
  Calls prog 202 #[.int .u32 f,.agg (A8 a0 a1 a2 a3 a4 a5 a6 a7),.agg (A8 b0 b1 b2 b3 b4 b5 b6 b7),.agg (A8 c0 c1 c2 c3 c4 c5 c6 c7)] w fun e w'=>e=.returned (.agg (A8 c0 c1 c2 c3 c4 c5 c6 c7))∧Kp none w w':=by
 subst hf;go_enter func202,ntmps202;go_wp2;have g:=Has.new (((w.alloc (.cells (A8 a0 a1 a2 a3 a4 a5 a6 a7) 209)).alloc (.cells (A8 b0 b1 b2 b3 b4 b5 b6 b7) 209)).alloc (.cells (A8 c0 c1 c2 c3 c4 c5 c6 c7) 209)) (A8 c0 c1 c2 c3 c4 c5 c6 c7) 209;have e:(((w.alloc (.cells (A8 a0 a1 a2 a3 a4 a5 a6 a7) 209)).alloc (.cells (A8 b0 b1 b2 b3 b4 b5 b6 b7) 209)).alloc (.cells (A8 c0 c1 c2 c3 c4 c5 c6 c7) 209)).heap.size=w.heap.size+1+1+1:=by simp
 rw [e] at g;refine zzb (results_cell_row rfl _ _ (w.heap.size+1+1+1) 209 _ (0,0) _ rfl g underlying209 rfl (by kernel_rfl)) rfl ⟨rfl,?_⟩;exact ((((Kp.refl _ _).alloc _ _).alloc _ _).alloc _ _).alloc _ _
theorem zEL (f:Nat) (a0 a1 a2 a3 a4 a5 a6 a7 b0 b1 b2 b3 b4 b5 b6 b7 c0 c1 c2 c3 c4 c5 c6 c7:Int) (w:World) (h0:((f:Int)==0)=false) (h1:((f:Int)==32)=false) (h2:((f:Int)==1)=false) :
  Calls prog 202 #[.int .u32 f,.agg (A8 a0 a1 a2 a3 a4 a5 a6 a7),.agg (A8 b0 b1 b2 b3 b4 b5 b6 b7),.agg (A8 c0 c1 c2 c3 c4 c5 c6 c7)] w fun e w'=>e=.returned (.agg (A8 0 0 0 0 0 0 0 0))∧Kp none w w':=by
 go_enter func202,ntmps202;go_wp2;have g:=Has.new (((w.alloc (.cells (A8 a0 a1 a2 a3 a4 a5 a6 a7) 209)).alloc (.cells (A8 b0 b1 b2 b3 b4 b5 b6 b7) 209)).alloc (.cells (A8 c0 c1 c2 c3 c4 c5 c6 c7) 209)) (A8 0 0 0 0 0 0 0 0) 209;have e:(((w.alloc (.cells (A8 a0 a1 a2 a3 a4 a5 a6 a7) 209)).alloc (.cells (A8 b0 b1 b2 b3 b4 b5 b6 b7) 209)).alloc (.cells (A8 c0 c1 c2 c3 c4 c5 c6 c7) 209)).heap.size=w.heap.size+1+1+1:=by simp
 rw [e] at g;refine zzb (results_cell_row rfl _ _ (w.heap.size+1+1+1) 209 _ (0,0) _ rfl g underlying209 rfl (by kernel_rfl)) rfl ⟨rfl,?_⟩;exact ((((Kp.refl _ _).alloc _ _).alloc _ _).alloc _ _).alloc _ _
def T17:List Int:=[66,65,63,64,67,0,0,0,69,0,0,0,68,0,0,0,70,0,0,0,71,0,0,0,72,0,0,0,73,0,0,0]
def T18:List Int:=[77,76,74,75,78,0,0,0,80,0,0,0,79,0,0,0,81,0,0,0,82,0,0,0,83,0,0,0,84,0,0,0]
def lrOf (o:Int) (p:Nat):Int:=if (o=63∨o=74)∧p≠0 then 0 else o
def opA (s f:Nat):Int:=lrOf (if f=2 then T17.getD (pc s 27 5) 0 else if f=3 then T18.getD (pc s 27 5) 0 else 0) (pc s 20 5)
theorem lookSystem_any (s:Nat) (w:World):Calls prog 208 #[.int .u32 s] w fun e w'=>e=.returned (.int .i64 (if s=115 then 87 else if s=1048691 then 88 else 0))∧w=w':=by
 by_cases h1:s=115
 ·subst h1;go_enter func208,ntmps208;go_wp2;go_ret;exact ⟨rfl,rfl⟩
 ·by_cases h2:s=1048691
  ·subst h2;go_enter func208,ntmps208;go_wp2;go_ret;exact ⟨rfl,rfl⟩
  ·rw [if_neg h1,if_neg h2];have e1:((s:Int)==115)=false:=by simp;omega
   have e2:((s:Int)==1048691)=false:=by simp;omega
   go_enter func208,ntmps208;go_wp2;go_ret;exact ⟨rfl,rfl⟩
theorem zHp (m:Nat) (w:World):Calls prog 234 #[.int .i64 m] w fun e w'=>e=.returned (.func (.func 240) #[] #[.pointer (some ⟨w.heap.size,0,none⟩)])∧Has w' w.heap.size 3 #[.int .i64 m]∧Kp none w w':=by
 have hmf:∀ (fn:Fn) (first cap:Array Value) (w:World),(Instr.makeFunc fn first cap).run prog w=.ok (.func fn first cap) w:=fun _ _ _ _=>rfl
 go_enter func234,ntmps234;go_wp2;go_ret;exact ⟨rfl,Has.new _ _ _,(Kp.refl _ _).alloc _ _⟩
theorem lookAtomic_w (s:Nat) (w:World) (hs:s<4294967296) (hT:Tabs w):Calls prog 205 #[.int .u32 s,.int .u32 2] w fun e w'=>e=.returned (.int .i64 (opA s 2))∧Kp none w w':=by
 have hf:=zF s 27 5;have hp:=pc_le s 20 5 hs;have hc:w.cell? ⟨18,pc s 27 5,none⟩=some (.int .i64 (T17.getD (pc s 27 5) 0)):=hT.t17 _ (by simpa using hf);have ho:opA s 2=lrOf (T17.getD (pc s 27 5) 0) (pc s 20 5):=rfl;rw [ho];clear ho hT;have P1:=fun w=>zAh s 27 5 w hs (by omega) (by omega)
 have P2:=fun w=>zAh s 20 5 w hs (by omega) (by omega)
 generalize T17.getD (pc s 27 5) 0=o at *;generalize pc s 27 5=f at *;generalize pc s 20 5=p at *;have hf0:(0:Int)≤(f:Int):=by omega
 have hf1:(f:Int)<32:=by omega
 have H1:=hid P1;have H2:=hid P2;clear P1 P2;by_cases ho:o=63∨o=74
 ·by_cases hp0:p=0
  ·subst hp0;have e1:lrOf o 0=o:=by simp [lrOf]
   rw [e1];clear e1;rcases ho with rfl|rfl;all_goals
    go_enter func205,ntmps205;go_wp2_with fail;refine (H1.out _).mono ?_;rintro e w1 ⟨rfl,q,rfl⟩;go_wp2_with fail;refine (H2.out _).mono ?_;rintro e w1 ⟨rfl,q2,rfl⟩;go_wp2;go_ret;exact ⟨rfl,(Kp.refl _ _).drewN _⟩
  ·have e1:lrOf o p=0:=by unfold lrOf;rw [if_pos ⟨ho,hp0⟩]
   have e2:((p:Int) != 0)=true:=by simp;omega
   rw [e1];clear e1;rcases ho with rfl|rfl;all_goals
    go_enter func205,ntmps205;go_wp2_with fail;refine (H1.out _).mono ?_;rintro e w1 ⟨rfl,q,rfl⟩;go_wp2_with fail;refine (H2.out _).mono ?_;rintro e w1 ⟨rfl,q2,rfl⟩;go_wp2;go_ret;exact ⟨rfl,(Kp.refl _ _).drewN _⟩
 ·have e1:lrOf o p=o:=by unfold lrOf;rw [if_neg (fun h=>ho h.1)]
  have e2:(o==63)=false:=by simp;intro h;exact ho (.inl h)
  have e3:(o==74)=false:=by simp;intro h;exact ho (.inr h)
  rw [e1];clear e1 ho;go_enter func205,ntmps205;go_wp2_with fail;refine (H1.out _).mono ?_;rintro e w1 ⟨rfl,q,rfl⟩;go_wp2;go_ret;exact ⟨rfl,(Kp.refl _ _).drewN _⟩
theorem lookAtomic_d (s:Nat) (w:World) (hs:s<4294967296) (hT:Tabs w):Calls prog 205 #[.int .u32 s,.int .u32 3] w fun e w'=>e=.returned (.int .i64 (opA s 3))∧Kp none w w':=by
 have hf:=zF s 27 5;have hp:=pc_le s 20 5 hs;have hc:w.cell? ⟨19,pc s 27 5,none⟩=some (.int .i64 (T18.getD (pc s 27 5) 0)):=hT.t18 _ (by simpa using hf);have ho:opA s 3=lrOf (T18.getD (pc s 27 5) 0) (pc s 20 5):=rfl;rw [ho];clear ho hT;have P1:=fun w=>zAh s 27 5 w hs (by omega) (by omega)
 have P2:=fun w=>zAh s 20 5 w hs (by omega) (by omega)
 generalize T18.getD (pc s 27 5) 0=o at *;generalize pc s 27 5=f at *;generalize pc s 20 5=p at *;have hf0:(0:Int)≤(f:Int):=by omega
 have hf1:(f:Int)<32:=by omega
 have H1:=hid P1;have H2:=hid P2;clear P1 P2;by_cases ho:o=63∨o=74
 ·by_cases hp0:p=0
  ·subst hp0;have e1:lrOf o 0=o:=by simp [lrOf]
   rw [e1];clear e1;rcases ho with rfl|rfl;all_goals
    go_enter func205,ntmps205;go_wp2_with fail;refine (H1.out _).mono ?_;rintro e w1 ⟨rfl,q,rfl⟩;go_wp2_with fail;refine (H2.out _).mono ?_;rintro e w1 ⟨rfl,q2,rfl⟩;go_wp2;go_ret;exact ⟨rfl,(Kp.refl _ _).drewN _⟩
  ·have e1:lrOf o p=0:=by unfold lrOf;rw [if_pos ⟨ho,hp0⟩]
   have e2:((p:Int) != 0)=true:=by simp;omega
   rw [e1];clear e1;rcases ho with rfl|rfl;all_goals
    go_enter func205,ntmps205;go_wp2_with fail;refine (H1.out _).mono ?_;rintro e w1 ⟨rfl,q,rfl⟩;go_wp2_with fail;refine (H2.out _).mono ?_;rintro e w1 ⟨rfl,q2,rfl⟩;go_wp2;go_ret;exact ⟨rfl,(Kp.refl _ _).drewN _⟩
 ·have e1:lrOf o p=o:=by unfold lrOf;rw [if_neg (fun h=>ho h.1)]
  have e2:(o==63)=false:=by simp;intro h;exact ho (.inl h)
  have e3:(o==74)=false:=by simp;intro h;exact ho (.inr h)
  rw [e1];clear e1 ho;go_enter func205,ntmps205;go_wp2_with fail;refine (H1.out _).mono ?_;rintro e w1 ⟨rfl,q,rfl⟩;go_wp2;go_ret;exact ⟨rfl,(Kp.refl _ _).drewN _⟩
theorem lookAtomic_no (s f:Nat) (w:World) (hs:s<4294967296) (h2:((f:Int)==2)=false) (h3:((f:Int)==3)=false):Calls prog 205 #[.int .u32 s,.int .u32 f] w fun e w'=>e=.returned (.int .i64 (opA s f))∧Kp none w w':=by
 have ho:opA s f=0:=by
  have h2':f≠2:=fun h=>by subst h;simp at h2
  have h3':f≠3:=fun h=>by subst h;simp at h3
  simp [opA,h2',h3',lrOf]
 rw [ho];clear ho;have P1:=fun w=>zAh s 27 5 w hs (by omega) (by omega)
 generalize pc s 27 5=g at *;have H1:=hid P1;clear P1;go_enter func205,ntmps205;go_wp2_with fail;refine (H1.out _).mono ?_;rintro e w1 ⟨rfl,q,rfl⟩;go_wp2;go_ret;exact ⟨rfl,(Kp.refl _ _).drewN _⟩
theorem lookAtomic_any (s f:Nat) (w:World) (hs:s<4294967296) (hT:Tabs w):Calls prog 205 #[.int .u32 s,.int .u32 f] w fun e w'=>e=.returned (.int .i64 (opA s f))∧Kp none w w':=by
 by_cases h2:f=2
 ·subst h2;exact lookAtomic_w s w hs hT
 ·by_cases h3:f=3
  ·subst h3;exact lookAtomic_d s w hs hT
  ·exact lookAtomic_no s f w hs (by simp;omega) (by simp;omega)
def T11:List Int:=[22,0,23,24,25,0,26,27]
def zCb (g:Nat) (a b c:List Int) (f:Nat):Int:=if g=0 then a.getD f 0 else if g=32 then b.getD f 0 else if g=1 then c.getD f 0 else 0
theorem lookImmediate_plain (f g:Nat) (w:World) (hT:Tabs w) (hf:f∈[0,2,3,4,6,7]):Calls prog 201 #[.int .u32 f,.int .u32 g] w fun e w'=>e=.returned (.tuple #[.int .i64 (T11.getD f 0),.func (.func 198) #[] #[]])∧w=w':=by
 have hc:w.cell? ⟨12,f,none⟩=some (.int .i64 (T11.getD f 0)):=hT.t11 f (by simp at hf;rcases hf with h|h|h|h|h|h<;>simp [h]);simp only [List.mem_cons,zzm,or_false] at hf;clear hT;rcases hf with rfl|rfl|rfl|rfl|rfl|rfl;all_goals
  simp [T11] at hc;go_enter func201,ntmps201;go_wp2;go_ret2;exact ⟨rfl,rfl⟩
theorem zBE (a0 a1 a2 a3 a4 a5 a6 a7:Int) (f:Nat) (hf:f<8) (w:World):(Instr.index 209 (.agg (A8 a0 a1 a2 a3 a4 a5 a6 a7)) (.int .u32 f)).run prog w=.ok (.int .i64 ([a0,a1,a2,a3,a4,a5,a6,a7].getD f 0)) w:=by
 have h:f=0∨f=1∨f=2∨f=3∨f=4∨f=5∨f=6∨f=7:=by omega
 rcases h with rfl|rfl|rfl|rfl|rfl|rfl|rfl|rfl<;>rfl
theorem andNot_one (g:Nat) (hg:g<128):bits .andNot .u32 (g:Int) 1=((g/2*2:Nat):Int):=by
 have h:=u32_andNot_nat g 1 (by omega) (by decide);have e:∀ g:Nat,g<128→g &&& (4294967295 - 1)=g/2*2:=by decide
 rw [e g hg] at h;exact h
theorem zBv (f g:Nat) (w:World) (hT:Tabs w) (hf:f<8) (hc:w.cell? ⟨12,f,none⟩=some (.int .i64 0)) (hg:g<128) (G:Nat) (hb:bits .andNot .u32 (g:Int) 1=(G:Int)) (r0 r1 r2 r3 r4 r5 r6 r7:Int) (H:∀ w,Calls prog 202 #[.int .u32 (G:Int),.agg (A8 0 28 0 0 0 29 0 0),.agg (A8 0 0 0 0 0 30 0 0),.agg (A8 0 0 0 0 0 0 0 0)] w fun e w'=>e=.returned (.agg (A8 r0 r1 r2 r3 r4 r5 r6 r7))∧Kp none w w') :
  Calls prog 201 #[.int .u32 f,.int .u32 g] w fun e w'=>∃ Q,e=.returned (.tuple #[.int .i64 ([r0,r1,r2,r3,r4,r5,r6,r7].getD f 0),.func (.func 240) #[] #[.pointer (some ⟨Q,0,none⟩)]])∧Has w' Q 3 #[.int .i64 6]∧Kp none w w'∧w.heap.size≤Q:=by
 have hf0:(0:Int)≤(f:Int):=by omega
 have hf1:(f:Int)<8:=by omega
 have hix:=fun w=>zBE r0 r1 r2 r3 r4 r5 r6 r7 f hf w
 generalize ([r0,r1,r2,r3,r4,r5,r6,r7]:List Int).getD f 0=o at *;have HB:=hid H;clear H;go_enter func201,ntmps201;go_wp2_with fail;refine zAC 9 (fun w'=>w'.cell? ⟨13,0,none⟩=some (.int .i64 0)∧w'.cell? ⟨13,1,none⟩=some (.int .i64 28)∧w'.cell? ⟨13,2,none⟩=some (.int .i64 0)∧w'.cell? ⟨13,3,none⟩=some (.int .i64 0)∧w'.cell? ⟨13,4,none⟩=some (.int .i64 0)∧w'.cell? ⟨13,5,none⟩=some (.int .i64 29)∧w'.cell? ⟨13,6,none⟩=some (.int .i64 0)∧w'.cell? ⟨13,7,none⟩=some (.int .i64 0)∧w'.cell? ⟨14,0,none⟩=some (.int .i64 0)∧w'.cell? ⟨14,1,none⟩=some (.int .i64 0)∧w'.cell? ⟨14,2,none⟩=some (.int .i64 0)∧w'.cell? ⟨14,3,none⟩=some (.int .i64 0)∧w'.cell? ⟨14,4,none⟩=some (.int .i64 0)∧w'.cell? ⟨14,5,none⟩=some (.int .i64 30)∧w'.cell? ⟨14,6,none⟩=some (.int .i64 0)∧w'.cell? ⟨14,7,none⟩=some (.int .i64 0)) (by kernel_rfl) (by decide) ⟨hT.drew.t12 0 (by decide),hT.drew.t12 1 (by decide),hT.drew.t12 2 (by decide),hT.drew.t12 3 (by decide),hT.drew.t12 4 (by decide),hT.drew.t12 5 (by decide),hT.drew.t12 6 (by decide),hT.drew.t12 7 (by decide),hT.drew.t13 0 (by decide),hT.drew.t13 1 (by decide),hT.drew.t13 2 (by decide),hT.drew.t13 3 (by decide),hT.drew.t13 4 (by decide),hT.drew.t13 5 (by decide),hT.drew.t13 6 (by decide),hT.drew.t13 7 (by decide)⟩ (fun hH=>?_);refine zC (i:=0) (v:=?_) rfl (by kernel_rfl) (fun _ _ _ h=>h) (Or.inl ⟨by rfl,?hy⟩) hH ?_
 case hy=>(intro w hSw;(try dsimp only at hSw);go_split_ands;go_simp;try (with_reducible rfl))
 (try simp only [Act.put,qa])
 refine zC (i:=1) (v:=?_) rfl (by kernel_rfl) (fun _ _ _ h=>h) (Or.inl ⟨by rfl,?hy⟩) hH ?_
 case hy=>(intro w hSw;(try dsimp only at hSw);go_split_ands;go_simp;try (with_reducible rfl))
 (try simp only [Act.put,qa])
 refine zC (i:=2) (v:=?_) rfl (by kernel_rfl) (fun _ _ _ h=>h) (Or.inl ⟨by rfl,?hy⟩) hH ?_
 case hy=>(intro w hSw;(try dsimp only at hSw);go_split_ands;go_simp;try (with_reducible rfl))
 (try simp only [Act.put,qa])
 refine zC (i:=3) (v:=?_) rfl (by kernel_rfl) (fun _ _ _ h=>h) (Or.inl ⟨by rfl,?hy⟩) hH ?_
 case hy=>(intro w hSw;(try dsimp only at hSw);go_split_ands;go_simp;try (with_reducible rfl))
 (try simp only [Act.put,qa])
 refine zC (i:=4) (v:=?_) rfl (by kernel_rfl) (fun _ _ _ h=>h) (Or.inl ⟨by rfl,?hy⟩) hH ?_
 case hy=>(intro w hSw;(try dsimp only at hSw);go_split_ands;go_simp;try (with_reducible rfl))
 (try simp only [Act.put,qa])
 refine zC (i:=6) (v:=?_) rfl (by kernel_rfl) (fun _ _ _ h=>h) (Or.inl ⟨by rfl,?hy⟩) hH ?_
 case hy=>(intro w hSw;(try dsimp only at hSw);go_split_ands;go_simp;try (with_reducible rfl))
 (try simp only [Act.put,qa])
 clear hH;refine zo (i:=5) rfl (by kernel_rfl) (fun K hK=>?_);go_simp;refine (HB.out _).mono ?_;rintro e w1 ⟨rfl,k1⟩;have hT1:=hT.drew.kp k1;refine hK.out _ _ ⟨hT1.t12 0 (by decide),hT1.t12 1 (by decide),hT1.t12 2 (by decide),hT1.t12 3 (by decide),hT1.t12 4 (by decide),hT1.t12 5 (by decide),hT1.t12 6 (by decide),hT1.t12 7 (by decide),hT1.t13 0 (by decide),hT1.t13 1 (by decide),hT1.t13 2 (by decide),hT1.t13 3 (by decide),hT1.t13 4 (by decide),hT1.t13 5 (by decide),hT1.t13 6 (by decide),hT1.t13 7 (by decide)⟩ (fun hH=>?_);clear hK K;(try simp only [Act.put,qa])
 refine zC (i:=7) (v:=?_) rfl (by kernel_rfl) (fun _ _ _ h=>h) (Or.inl ⟨by rfl,?hy⟩) hH ?_
 case hy=>(intro w hSw;(try dsimp only at hSw);go_split_ands;go_simp;try (with_reducible rfl))
 (try simp only [Act.put,qa])
 clear hH;refine zo (i:=8) rfl (by kernel_rfl) (fun K hK=>?_);go_simp;refine (zHp 6 _).mono ?_;rintro e w2 ⟨rfl,h2,k2⟩;have hT2:=hT1.kp k2;refine hK.out _ _ ⟨hT2.t12 0 (by decide),hT2.t12 1 (by decide),hT2.t12 2 (by decide),hT2.t12 3 (by decide),hT2.t12 4 (by decide),hT2.t12 5 (by decide),hT2.t12 6 (by decide),hT2.t12 7 (by decide),hT2.t13 0 (by decide),hT2.t13 1 (by decide),hT2.t13 2 (by decide),hT2.t13 3 (by decide),hT2.t13 4 (by decide),hT2.t13 5 (by decide),hT2.t13 6 (by decide),hT2.t13 7 (by decide)⟩ (fun hH=>?_);clear hK K hH;(try simp only [Act.put,qa])
 refine ⟨by kernel_rfl,?_⟩;simp only [List.drop_succ_cons,List.drop_zero];go_wp2;go_ret2;exact ⟨_,rfl,h2,((Kp.refl _ _).drew.trans k1).trans k2,k1.size⟩
def lookImmediate_a (f g:Nat) (w:World) (hT:Tabs w) (hf:f<8) (hc:w.cell? ⟨12,f,none⟩=some (.int .i64 0)) (hg:g<128) (h:(g/2*2)=0):=zBv f g w hT hf hc hg 0 (by rw [andNot_one g hg,h]) 0 28 0 0 0 29 0 0 (fun w=>zEK 0 0 28 0 0 0 29 0 0 0 0 0 0 0 30 0 0 0 0 0 0 0 0 0 0 w rfl)
def lookImmediate_b (f g:Nat) (w:World) (hT:Tabs w) (hf:f<8) (hc:w.cell? ⟨12,f,none⟩=some (.int .i64 0)) (hg:g<128) (h:(g/2*2)=32):=zBv f g w hT hf hc hg 32 (by rw [andNot_one g hg,h]) 0 0 0 0 0 30 0 0 (fun w=>zDU 32 0 28 0 0 0 29 0 0 0 0 0 0 0 30 0 0 0 0 0 0 0 0 0 0 w rfl)
def lookImmediate_c (f g:Nat) (w:World) (hT:Tabs w) (hf:f<8) (hc:w.cell? ⟨12,f,none⟩=some (.int .i64 0)) (hg:g<128) (G:Nat) (h:(g/2*2)=G) (h0:((G:Int)==0)=false) (h1:((G:Int)==32)=false) (h2:((G:Int)==1)=false):=zBv f g w hT hf hc hg G (by rw [andNot_one g hg,h]) 0 0 0 0 0 0 0 0 (fun w=>zEL G 0 28 0 0 0 29 0 0 0 0 0 0 0 30 0 0 0 0 0 0 0 0 0 0 w h0 h1 h2)
theorem zBH (f g:Nat) (w:World) (hT:Tabs w) (hf:f<8) (hc:w.cell? ⟨15,f,none⟩=some (.int .i64 0)) (hg:g<128) (r0 r1 r2 r3 r4 r5 r6 r7:Int) (H:∀ w,Calls prog 202 #[.int .u32 (g:Int),.agg (A8 0 42 0 0 0 43 0 0),.agg (A8 0 0 0 0 0 44 0 0),.agg (A8 0 0 0 0 0 0 0 0)] w fun e w'=>e=.returned (.agg (A8 r0 r1 r2 r3 r4 r5 r6 r7))∧Kp none w w') :
  Calls prog 204 #[.int .u32 f,.int .u32 g] w fun e w'=>∃ Q,e=.returned (.tuple #[.int .i64 ([r0,r1,r2,r3,r4,r5,r6,r7].getD f 0),.func (.func 240) #[] #[.pointer (some ⟨Q,0,none⟩)]])∧Has w' Q 3 #[.int .i64 5]∧Kp none w w'∧w.heap.size≤Q:=by
 have hf0:(0:Int)≤(f:Int):=by omega
 have hf1:(f:Int)<8:=by omega
 have hix:=fun w=>zBE r0 r1 r2 r3 r4 r5 r6 r7 f hf w
 generalize ([r0,r1,r2,r3,r4,r5,r6,r7]:List Int).getD f 0=o at *;have HB:=hid H;clear H;go_enter func204,ntmps204;go_wp2_with fail;refine zAC 8 (fun w'=>w'.cell? ⟨16,0,none⟩=some (.int .i64 0)∧w'.cell? ⟨16,1,none⟩=some (.int .i64 42)∧w'.cell? ⟨16,2,none⟩=some (.int .i64 0)∧w'.cell? ⟨16,3,none⟩=some (.int .i64 0)∧w'.cell? ⟨16,4,none⟩=some (.int .i64 0)∧w'.cell? ⟨16,5,none⟩=some (.int .i64 43)∧w'.cell? ⟨16,6,none⟩=some (.int .i64 0)∧w'.cell? ⟨16,7,none⟩=some (.int .i64 0)∧w'.cell? ⟨17,0,none⟩=some (.int .i64 0)∧w'.cell? ⟨17,1,none⟩=some (.int .i64 0)∧w'.cell? ⟨17,2,none⟩=some (.int .i64 0)∧w'.cell? ⟨17,3,none⟩=some (.int .i64 0)∧w'.cell? ⟨17,4,none⟩=some (.int .i64 0)∧w'.cell? ⟨17,5,none⟩=some (.int .i64 44)∧w'.cell? ⟨17,6,none⟩=some (.int .i64 0)∧w'.cell? ⟨17,7,none⟩=some (.int .i64 0)) (by kernel_rfl) (by decide) ⟨hT.drew.t15 0 (by decide),hT.drew.t15 1 (by decide),hT.drew.t15 2 (by decide),hT.drew.t15 3 (by decide),hT.drew.t15 4 (by decide),hT.drew.t15 5 (by decide),hT.drew.t15 6 (by decide),hT.drew.t15 7 (by decide),hT.drew.t16 0 (by decide),hT.drew.t16 1 (by decide),hT.drew.t16 2 (by decide),hT.drew.t16 3 (by decide),hT.drew.t16 4 (by decide),hT.drew.t16 5 (by decide),hT.drew.t16 6 (by decide),hT.drew.t16 7 (by decide)⟩ (fun hH=>?_);refine zC (i:=0) (v:=?_) rfl (by kernel_rfl) (fun _ _ _ h=>h) (Or.inl ⟨by rfl,?hy⟩) hH ?_
 case hy=>(intro w hSw;(try dsimp only at hSw);go_split_ands;go_simp;try (with_reducible rfl))
 (try simp only [Act.put,qa])
 refine zC (i:=1) (v:=?_) rfl (by kernel_rfl) (fun _ _ _ h=>h) (Or.inl ⟨by rfl,?hy⟩) hH ?_
 case hy=>(intro w hSw;(try dsimp only at hSw);go_split_ands;go_simp;try (with_reducible rfl))
 (try simp only [Act.put,qa])
 refine zC (i:=2) (v:=?_) rfl (by kernel_rfl) (fun _ _ _ h=>h) (Or.inl ⟨by rfl,?hy⟩) hH ?_
 case hy=>(intro w hSw;(try dsimp only at hSw);go_split_ands;go_simp;try (with_reducible rfl))
 (try simp only [Act.put,qa])
 refine zC (i:=3) (v:=?_) rfl (by kernel_rfl) (fun _ _ _ h=>h) (Or.inl ⟨by rfl,?hy⟩) hH ?_
 case hy=>(intro w hSw;(try dsimp only at hSw);go_split_ands;go_simp;try (with_reducible rfl))
 (try simp only [Act.put,qa])
 refine zC (i:=5) (v:=?_) rfl (by kernel_rfl) (fun _ _ _ h=>h) (Or.inl ⟨by rfl,?hy⟩) hH ?_
 case hy=>(intro w hSw;(try dsimp only at hSw);go_split_ands;go_simp;try (with_reducible rfl))
 (try simp only [Act.put,qa])
 clear hH;refine zo (i:=4) rfl (by kernel_rfl) (fun K hK=>?_);go_simp;refine (HB.out _).mono ?_;rintro e w1 ⟨rfl,k1⟩;have hT1:=hT.drew.kp k1;refine hK.out _ _ ⟨hT1.t15 0 (by decide),hT1.t15 1 (by decide),hT1.t15 2 (by decide),hT1.t15 3 (by decide),hT1.t15 4 (by decide),hT1.t15 5 (by decide),hT1.t15 6 (by decide),hT1.t15 7 (by decide),hT1.t16 0 (by decide),hT1.t16 1 (by decide),hT1.t16 2 (by decide),hT1.t16 3 (by decide),hT1.t16 4 (by decide),hT1.t16 5 (by decide),hT1.t16 6 (by decide),hT1.t16 7 (by decide)⟩ (fun hH=>?_);clear hK K;(try simp only [Act.put,qa])
 refine zC (i:=6) (v:=?_) rfl (by kernel_rfl) (fun _ _ _ h=>h) (Or.inl ⟨by rfl,?hy⟩) hH ?_
 case hy=>(intro w hSw;(try dsimp only at hSw);go_split_ands;go_simp;try (with_reducible rfl))
 (try simp only [Act.put,qa])
 clear hH;refine zo (i:=7) rfl (by kernel_rfl) (fun K hK=>?_);go_simp;refine (zHp 5 _).mono ?_;rintro e w2 ⟨rfl,h2,k2⟩;have hT2:=hT1.kp k2;refine hK.out _ _ ⟨hT2.t15 0 (by decide),hT2.t15 1 (by decide),hT2.t15 2 (by decide),hT2.t15 3 (by decide),hT2.t15 4 (by decide),hT2.t15 5 (by decide),hT2.t15 6 (by decide),hT2.t15 7 (by decide),hT2.t16 0 (by decide),hT2.t16 1 (by decide),hT2.t16 2 (by decide),hT2.t16 3 (by decide),hT2.t16 4 (by decide),hT2.t16 5 (by decide),hT2.t16 6 (by decide),hT2.t16 7 (by decide)⟩ (fun hH=>?_);clear hK K hH;(try simp only [Act.put,qa])
 refine ⟨by kernel_rfl,?_⟩;simp only [List.drop_succ_cons,List.drop_zero];go_wp2;go_ret2;exact ⟨_,rfl,h2,((Kp.refl _ _).drew.trans k1).trans k2,k1.size⟩
def lookImmediateW_a (f g:Nat) (w:World) (hT:Tabs w) (hf:f<8) (hc:w.cell? ⟨15,f,none⟩=some (.int .i64 0)) (hg:g<128) (h:g=0):=zBH f g w hT hf hc hg 0 42 0 0 0 43 0 0 (fun w=>zEK g 0 42 0 0 0 43 0 0 0 0 0 0 0 44 0 0 0 0 0 0 0 0 0 0 w h)
def lookImmediateW_b (f g:Nat) (w:World) (hT:Tabs w) (hf:f<8) (hc:w.cell? ⟨15,f,none⟩=some (.int .i64 0)) (hg:g<128) (h:g=32):=zBH f g w hT hf hc hg 0 0 0 0 0 44 0 0 (fun w=>zDU g 0 42 0 0 0 43 0 0 0 0 0 0 0 44 0 0 0 0 0 0 0 0 0 0 w h)
def lookImmediateW_p (f g:Nat) (w:World) (hT:Tabs w) (hf:f<8) (hc:w.cell? ⟨15,f,none⟩=some (.int .i64 0)) (hg:g<128) (h:g=1):=zBH f g w hT hf hc hg 0 0 0 0 0 0 0 0 (fun w=>zDH g 0 42 0 0 0 43 0 0 0 0 0 0 0 44 0 0 0 0 0 0 0 0 0 0 w h)
def lookImmediateW_c (f g:Nat) (w:World) (hT:Tabs w) (hf:f<8) (hc:w.cell? ⟨15,f,none⟩=some (.int .i64 0)) (hg:g<128) (G:Nat) (h:g=G) (h0:((G:Int)==0)=false) (h1:((G:Int)==32)=false) (h2:((G:Int)==1)=false):=zBH f g w hT hf hc hg 0 0 0 0 0 0 0 0 (fun w=>zEL g 0 42 0 0 0 43 0 0 0 0 0 0 0 44 0 0 0 0 0 0 0 0 0 0 w (h▸h0) (h▸h1) (h▸h2))
theorem lookImmediateW_plain (g:Nat) (w:World) (hT:Tabs w):Calls prog 204 #[.int .u32 0,.int .u32 g] w fun e w'=>e=.returned (.tuple #[.int .i64 41,.func (.func 198) #[] #[]])∧w=w':=by
 have hc:w.cell? ⟨15,0,none⟩=some (.int .i64 41):=hT.t14 0 (by decide);clear hT;go_enter func204,ntmps204;go_wp2;go_ret2;exact ⟨rfl,rfl⟩
inductive Fm|up|jp|im|sh (m:Nat)|br|st|rg|am|ba|no
def FormV (b:Nat) (w:World):Fm→Value→Prop
 | .up,v=>v=.func (.func 196) #[] #[]
 | .jp,v=>v=.func (.func 197) #[] #[]
 | .im,v=>v=.func (.func 198) #[] #[]
 | .br,v=>v=.func (.func 199) #[] #[]
 | .st,v=>v=.func (.func 200) #[] #[]
 | .rg,v=>v=.func (.func 203) #[] #[]
 | .am,v=>v=.func (.func 206) #[] #[]
 | .ba,v=>v=.func (.func 207) #[] #[]
 | .no,v=>v=.nilFunc
 | .sh m,v=>∃ Q,v=.func (.func 240) #[] #[.pointer (some ⟨Q,0,none⟩)]∧Has w Q 3 #[.int .i64 m]∧b≤Q
def T0:List Int:=[4,0,0,0,0,0,0,0]
def T1:List Int:=[5,6,0,0,7,8,9,10]
def T2:List Int:=[11,12,13,14,15,16,17,0]
def T3:List Int:=[18,19,20,21,0,0,0,0]
def T4:List Int:=[31,33,34,35,36,37,39,40]
def T5:List Int:=[32,0,0,0,0,38,0,0]
def T6:List Int:=[50,51,52,53,54,55,56,57]
def T7:List Int:=[45,47,0,0,0,48,0,0]
def T8:List Int:=[46,0,0,0,0,49,0,0]
def T9:List Int:=[58,0,0,0,59,60,61,62]
def T10:List Int:=[85,86,0,0,0,0,0,0]
def T12:List Int:=[0,28,0,0,0,29,0,0]
def T13:List Int:=[0,0,0,0,0,30,0,0]
def T15:List Int:=[0,42,0,0,0,43,0,0]
def T16:List Int:=[0,0,0,0,0,44,0,0]
abbrev zQ (s:Nat) (w:World) (o:Int) (fm:Fm):Ending→World→Prop:=fun e w'=>∃ v,e=.returned (.tuple #[.int .i64 o,v])∧FormV w.heap.size w' fm v∧Kp none w w'
theorem zIl (hT:Tabs w):w.cell? ⟨5,0,none⟩=some (.int .i64 31)∧w.cell? ⟨5,1,none⟩=some (.int .i64 33)∧w.cell? ⟨5,2,none⟩=some (.int .i64 34)∧w.cell? ⟨5,3,none⟩=some (.int .i64 35)∧w.cell? ⟨5,4,none⟩=some (.int .i64 36)∧w.cell? ⟨5,5,none⟩=some (.int .i64 37)∧w.cell? ⟨5,6,none⟩=some (.int .i64 39)∧w.cell? ⟨5,7,none⟩=some (.int .i64 40)∧w.cell? ⟨6,0,none⟩=some (.int .i64 32)∧w.cell? ⟨6,1,none⟩=some (.int .i64 0)∧w.cell? ⟨6,2,none⟩=some (.int .i64 0)∧w.cell? ⟨6,3,none⟩=some (.int .i64 0)∧w.cell? ⟨6,4,none⟩=some (.int .i64 0)∧w.cell? ⟨6,5,none⟩=some (.int .i64 38)∧w.cell? ⟨6,6,none⟩=some (.int .i64 0)∧w.cell? ⟨6,7,none⟩=some (.int .i64 0)∧w.cell? ⟨7,0,none⟩=some (.int .i64 50)∧w.cell? ⟨7,1,none⟩=some (.int .i64 51)∧w.cell? ⟨7,2,none⟩=some (.int .i64 52)∧w.cell? ⟨7,3,none⟩=some (.int .i64 53)∧w.cell? ⟨7,4,none⟩=some (.int .i64 54)∧w.cell? ⟨7,5,none⟩=some (.int .i64 55)∧w.cell? ⟨7,6,none⟩=some (.int .i64 56)∧w.cell? ⟨7,7,none⟩=some (.int .i64 57):=
 ⟨hT.t4 0 (by decide),hT.t4 1 (by decide),hT.t4 2 (by decide),hT.t4 3 (by decide),hT.t4 4 (by decide),hT.t4 5 (by decide),hT.t4 6 (by decide),hT.t4 7 (by decide),hT.t5 0 (by decide),hT.t5 1 (by decide),hT.t5 2 (by decide),hT.t5 3 (by decide),hT.t5 4 (by decide),hT.t5 5 (by decide),hT.t5 6 (by decide),hT.t5 7 (by decide),hT.t6 0 (by decide),hT.t6 1 (by decide),hT.t6 2 (by decide),hT.t6 3 (by decide),hT.t6 4 (by decide),hT.t6 5 (by decide),hT.t6 6 (by decide),hT.t6 7 (by decide)⟩
theorem zIk (hT:Tabs w):w.cell? ⟨8,0,none⟩=some (.int .i64 45)∧w.cell? ⟨8,1,none⟩=some (.int .i64 47)∧w.cell? ⟨8,2,none⟩=some (.int .i64 0)∧w.cell? ⟨8,3,none⟩=some (.int .i64 0)∧w.cell? ⟨8,4,none⟩=some (.int .i64 0)∧w.cell? ⟨8,5,none⟩=some (.int .i64 48)∧w.cell? ⟨8,6,none⟩=some (.int .i64 0)∧w.cell? ⟨8,7,none⟩=some (.int .i64 0)∧w.cell? ⟨9,0,none⟩=some (.int .i64 46)∧w.cell? ⟨9,1,none⟩=some (.int .i64 0)∧w.cell? ⟨9,2,none⟩=some (.int .i64 0)∧w.cell? ⟨9,3,none⟩=some (.int .i64 0)∧w.cell? ⟨9,4,none⟩=some (.int .i64 0)∧w.cell? ⟨9,5,none⟩=some (.int .i64 49)∧w.cell? ⟨9,6,none⟩=some (.int .i64 0)∧w.cell? ⟨9,7,none⟩=some (.int .i64 0)∧w.cell? ⟨10,0,none⟩=some (.int .i64 58)∧w.cell? ⟨10,1,none⟩=some (.int .i64 0)∧w.cell? ⟨10,2,none⟩=some (.int .i64 0)∧w.cell? ⟨10,3,none⟩=some (.int .i64 0)∧w.cell? ⟨10,4,none⟩=some (.int .i64 59)∧w.cell? ⟨10,5,none⟩=some (.int .i64 60)∧w.cell? ⟨10,6,none⟩=some (.int .i64 61)∧w.cell? ⟨10,7,none⟩=some (.int .i64 62):=
 ⟨hT.t7 0 (by decide),hT.t7 1 (by decide),hT.t7 2 (by decide),hT.t7 3 (by decide),hT.t7 4 (by decide),hT.t7 5 (by decide),hT.t7 6 (by decide),hT.t7 7 (by decide),hT.t8 0 (by decide),hT.t8 1 (by decide),hT.t8 2 (by decide),hT.t8 3 (by decide),hT.t8 4 (by decide),hT.t8 5 (by decide),hT.t8 6 (by decide),hT.t8 7 (by decide),hT.t9 0 (by decide),hT.t9 1 (by decide),hT.t9 2 (by decide),hT.t9 3 (by decide),hT.t9 4 (by decide),hT.t9 5 (by decide),hT.t9 6 (by decide),hT.t9 7 (by decide)⟩
def zAY (s:Nat) (hs:s<4294967296):=And.intro (hid (fun w=>zAh s 12 3 w hs (by omega) (by omega))) (And.intro (hid (fun w=>zAh s 25 7 w hs (by omega) (by omega))) (And.intro (hid (fun w=>zAh s 0 7 w hs (by omega) (by omega))) (And.intro (show pc s 12 3<8 from zF s 12 3) (show pc s 25 7<128 from zF s 25 7))))
theorem zEx:∀ f:Nat,f<8→f≠0→([41,0,0,0,0,0,0,0]:List Int).getD f 0=0:=by decide
theorem look_lui (s:Nat) (w:World) (hs:s<4294967296) (hT:Tabs w) (hc:pc s 0 7=55) :
  Calls prog 171 #[.int .u32 s] w (zQ s w 1 .up):=by
 obtain ⟨P1,P2,P3,hf,hg⟩:=zAY s hs;rw [hc] at P3;clear hc;generalize pc s 12 3=f at *;generalize pc s 25 7=g at *;have hf0:(0:Int)≤(f:Int):=by omega
 have hf1:(f:Int)<8:=by omega
 clear hT;go_enter func171,ntmps171;go_wp2_with fail;refine (P1.out _).mono ?_;rintro e w1 ⟨rfl,q1,rfl⟩;go_wp2_with fail;refine (P2.out _).mono ?_;rintro e w1 ⟨rfl,q2,rfl⟩;go_wp2_with fail;refine (P3.out _).mono ?_;rintro e w1 ⟨rfl,q3,rfl⟩;go_wp2;go_ret2;exact ⟨_,rfl,rfl,(Kp.refl _ _).drewN _⟩
theorem look_auipc (s:Nat) (w:World) (hs:s<4294967296) (hT:Tabs w) (hc:pc s 0 7=23) :
  Calls prog 171 #[.int .u32 s] w (zQ s w 2 .up):=by
 obtain ⟨P1,P2,P3,hf,hg⟩:=zAY s hs;rw [hc] at P3;clear hc;generalize pc s 12 3=f at *;generalize pc s 25 7=g at *;have hf0:(0:Int)≤(f:Int):=by omega
 have hf1:(f:Int)<8:=by omega
 clear hT;go_enter func171,ntmps171;go_wp2_with fail;refine (P1.out _).mono ?_;rintro e w1 ⟨rfl,q1,rfl⟩;go_wp2_with fail;refine (P2.out _).mono ?_;rintro e w1 ⟨rfl,q2,rfl⟩;go_wp2_with fail;refine (P3.out _).mono ?_;rintro e w1 ⟨rfl,q3,rfl⟩;go_wp2;go_ret2;exact ⟨_,rfl,rfl,(Kp.refl _ _).drewN _⟩
theorem look_jal (s:Nat) (w:World) (hs:s<4294967296) (hT:Tabs w) (hc:pc s 0 7=111) :
  Calls prog 171 #[.int .u32 s] w (zQ s w 3 .jp):=by
 obtain ⟨P1,P2,P3,hf,hg⟩:=zAY s hs;rw [hc] at P3;clear hc;generalize pc s 12 3=f at *;generalize pc s 25 7=g at *;have hf0:(0:Int)≤(f:Int):=by omega
 have hf1:(f:Int)<8:=by omega
 clear hT;go_enter func171,ntmps171;go_wp2_with fail;refine (P1.out _).mono ?_;rintro e w1 ⟨rfl,q1,rfl⟩;go_wp2_with fail;refine (P2.out _).mono ?_;rintro e w1 ⟨rfl,q2,rfl⟩;go_wp2_with fail;refine (P3.out _).mono ?_;rintro e w1 ⟨rfl,q3,rfl⟩;go_wp2;go_ret2;exact ⟨_,rfl,rfl,(Kp.refl _ _).drewN _⟩
theorem look_jalr (s:Nat) (w:World) (hs:s<4294967296) (hT:Tabs w) (hc:pc s 0 7=103) :
  Calls prog 171 #[.int .u32 s] w (zQ s w (T0.getD (pc s 12 3) 0) .im):=by
 have ht:w.cell? ⟨1,pc s 12 3,none⟩=some (.int .i64 (T0.getD (pc s 12 3) 0)):=hT.t0 _ (zF s 12 3);generalize T0.getD (pc s 12 3) 0=o at *;obtain ⟨P1,P2,P3,hf,hg⟩:=zAY s hs;rw [hc] at P3;clear hc;generalize pc s 12 3=f at *;generalize pc s 25 7=g at *;have hf0:(0:Int)≤(f:Int):=by omega
 have hf1:(f:Int)<8:=by omega
 clear hT;go_enter func171,ntmps171;go_wp2_with fail;refine (P1.out _).mono ?_;rintro e w1 ⟨rfl,q1,rfl⟩;go_wp2_with fail;refine (P2.out _).mono ?_;rintro e w1 ⟨rfl,q2,rfl⟩;go_wp2_with fail;refine (P3.out _).mono ?_;rintro e w1 ⟨rfl,q3,rfl⟩;go_wp2;go_ret2;exact ⟨_,rfl,rfl,(Kp.refl _ _).drewN _⟩
theorem look_branch (s:Nat) (w:World) (hs:s<4294967296) (hT:Tabs w) (hc:pc s 0 7=99) :
  Calls prog 171 #[.int .u32 s] w (zQ s w (T1.getD (pc s 12 3) 0) .br):=by
 have ht:w.cell? ⟨2,pc s 12 3,none⟩=some (.int .i64 (T1.getD (pc s 12 3) 0)):=hT.t1 _ (zF s 12 3);generalize T1.getD (pc s 12 3) 0=o at *;obtain ⟨P1,P2,P3,hf,hg⟩:=zAY s hs;rw [hc] at P3;clear hc;generalize pc s 12 3=f at *;generalize pc s 25 7=g at *;have hf0:(0:Int)≤(f:Int):=by omega
 have hf1:(f:Int)<8:=by omega
 clear hT;go_enter func171,ntmps171;go_wp2_with fail;refine (P1.out _).mono ?_;rintro e w1 ⟨rfl,q1,rfl⟩;go_wp2_with fail;refine (P2.out _).mono ?_;rintro e w1 ⟨rfl,q2,rfl⟩;go_wp2_with fail;refine (P3.out _).mono ?_;rintro e w1 ⟨rfl,q3,rfl⟩;go_wp2;go_ret2;exact ⟨_,rfl,rfl,(Kp.refl _ _).drewN _⟩
theorem look_load (s:Nat) (w:World) (hs:s<4294967296) (hT:Tabs w) (hc:pc s 0 7=3) :
  Calls prog 171 #[.int .u32 s] w (zQ s w (T2.getD (pc s 12 3) 0) .im):=by
 have ht:w.cell? ⟨3,pc s 12 3,none⟩=some (.int .i64 (T2.getD (pc s 12 3) 0)):=hT.t2 _ (zF s 12 3);generalize T2.getD (pc s 12 3) 0=o at *;obtain ⟨P1,P2,P3,hf,hg⟩:=zAY s hs;rw [hc] at P3;clear hc;generalize pc s 12 3=f at *;generalize pc s 25 7=g at *;have hf0:(0:Int)≤(f:Int):=by omega
 have hf1:(f:Int)<8:=by omega
 clear hT;go_enter func171,ntmps171;go_wp2_with fail;refine (P1.out _).mono ?_;rintro e w1 ⟨rfl,q1,rfl⟩;go_wp2_with fail;refine (P2.out _).mono ?_;rintro e w1 ⟨rfl,q2,rfl⟩;go_wp2_with fail;refine (P3.out _).mono ?_;rintro e w1 ⟨rfl,q3,rfl⟩;go_wp2;go_ret2;exact ⟨_,rfl,rfl,(Kp.refl _ _).drewN _⟩
theorem look_store (s:Nat) (w:World) (hs:s<4294967296) (hT:Tabs w) (hc:pc s 0 7=35) :
  Calls prog 171 #[.int .u32 s] w (zQ s w (T3.getD (pc s 12 3) 0) .st):=by
 have ht:w.cell? ⟨4,pc s 12 3,none⟩=some (.int .i64 (T3.getD (pc s 12 3) 0)):=hT.t3 _ (zF s 12 3);generalize T3.getD (pc s 12 3) 0=o at *;obtain ⟨P1,P2,P3,hf,hg⟩:=zAY s hs;rw [hc] at P3;clear hc;generalize pc s 12 3=f at *;generalize pc s 25 7=g at *;have hf0:(0:Int)≤(f:Int):=by omega
 have hf1:(f:Int)<8:=by omega
 clear hT;go_enter func171,ntmps171;go_wp2_with fail;refine (P1.out _).mono ?_;rintro e w1 ⟨rfl,q1,rfl⟩;go_wp2_with fail;refine (P2.out _).mono ?_;rintro e w1 ⟨rfl,q2,rfl⟩;go_wp2_with fail;refine (P3.out _).mono ?_;rintro e w1 ⟨rfl,q3,rfl⟩;go_wp2;go_ret2;exact ⟨_,rfl,rfl,(Kp.refl _ _).drewN _⟩
theorem look_fence (s:Nat) (w:World) (hs:s<4294967296) (hT:Tabs w) (hc:pc s 0 7=15) :
  Calls prog 171 #[.int .u32 s] w (zQ s w (T10.getD (pc s 12 3) 0) .ba):=by
 have ht:w.cell? ⟨11,pc s 12 3,none⟩=some (.int .i64 (T10.getD (pc s 12 3) 0)):=hT.t10 _ (zF s 12 3);generalize T10.getD (pc s 12 3) 0=o at *;obtain ⟨P1,P2,P3,hf,hg⟩:=zAY s hs;rw [hc] at P3;clear hc;generalize pc s 12 3=f at *;generalize pc s 25 7=g at *;have hf0:(0:Int)≤(f:Int):=by omega
 have hf1:(f:Int)<8:=by omega
 clear hT;go_enter func171,ntmps171;go_wp2_with fail;refine (P1.out _).mono ?_;rintro e w1 ⟨rfl,q1,rfl⟩;go_wp2_with fail;refine (P2.out _).mono ?_;rintro e w1 ⟨rfl,q2,rfl⟩;go_wp2_with fail;refine (P3.out _).mono ?_;rintro e w1 ⟨rfl,q3,rfl⟩;go_wp2;go_ret2;exact ⟨_,rfl,rfl,(Kp.refl _ _).drewN _⟩
theorem look_system (s:Nat) (w:World) (hs:s<4294967296) (hT:Tabs w) (hc:pc s 0 7=115) :
  Calls prog 171 #[.int .u32 s] w (zQ s w (if s=115 then 87 else if s=1048691 then 88 else 0) .ba):=by
 obtain ⟨P1,P2,P3,hf,hg⟩:=zAY s hs;rw [hc] at P3;clear hc;generalize pc s 12 3=f at *;generalize pc s 25 7=g at *;have hf0:(0:Int)≤(f:Int):=by omega
 have hf1:(f:Int)<8:=by omega
 clear hT;have LS:=hid (lookSystem_any s);generalize (if s=115 then (87:Int) else if s=1048691 then 88 else 0)=o at *;go_enter func171,ntmps171;go_wp2_with fail;refine (P1.out _).mono ?_;rintro e w1 ⟨rfl,q1,rfl⟩;go_wp2_with fail;refine (P2.out _).mono ?_;rintro e w1 ⟨rfl,q2,rfl⟩;go_wp2_with fail;refine (P3.out _).mono ?_;rintro e w1 ⟨rfl,q3,rfl⟩;go_wp2_with fail;refine (LS.out _).mono ?_;rintro e w1 ⟨rfl,rfl⟩;go_wp2;go_ret2;exact ⟨_,rfl,rfl,(Kp.refl _ _).drewN _⟩
theorem look_atomic (s:Nat) (w:World) (hs:s<4294967296) (hT:Tabs w) (hc:pc s 0 7=47) :
  Calls prog 171 #[.int .u32 s] w (zQ s w (opA s (pc s 12 3)) .am):=by
 have LA:=hid (fun w (h:Tabs w)=>lookAtomic_any s (pc s 12 3) w hs h);generalize opA s (pc s 12 3)=o at *;obtain ⟨P1,P2,P3,hf,hg⟩:=zAY s hs;rw [hc] at P3;clear hc;generalize pc s 12 3=f at *;generalize pc s 25 7=g at *;have hf0:(0:Int)≤(f:Int):=by omega
 have hf1:(f:Int)<8:=by omega
 have HT:=hid hT;clear hT;go_enter func171,ntmps171;go_wp2_with fail;refine (P1.out _).mono ?_;rintro e w1 ⟨rfl,q1,rfl⟩;go_wp2_with fail;refine (P2.out _).mono ?_;rintro e w1 ⟨rfl,q2,rfl⟩;go_wp2_with fail;refine (P3.out _).mono ?_;rintro e w1 ⟨rfl,q3,rfl⟩;go_wp2_with fail;refine (LA.out _ (HT.out.kp ((Kp.refl _ _).drewN _))).mono ?_;rintro e w1 ⟨rfl,k1⟩;go_wp2;go_ret2;exact ⟨_,rfl,rfl,((Kp.refl _ _).drewN _).trans k1⟩
theorem look_plain_a (s:Nat) (w:World) (hs:s<4294967296) (hT:Tabs w) (hc:pc s 0 7=51) (h:pc s 25 7=0) :
  Calls prog 171 #[.int .u32 s] w (zQ s w ([31,33,34,35,36,37,39,40].getD (pc s 12 3) 0) .rg):=by
 have hix:=fun w=>zBE 31 33 34 35 36 37 39 40 (pc s 12 3) (zF s 12 3) w
 generalize ([31,33,34,35,36,37,39,40]:List Int).getD (pc s 12 3) 0=o at *;obtain ⟨c4_0,c4_1,c4_2,c4_3,c4_4,c4_5,c4_6,c4_7,c5_0,c5_1,c5_2,c5_3,c5_4,c5_5,c5_6,c5_7,c6_0,c6_1,c6_2,c6_3,c6_4,c6_5,c6_6,c6_7⟩:=zIl hT;obtain ⟨P1,P2,P3,hf,hg⟩:=zAY s hs;rw [hc] at P3;clear hc;generalize pc s 12 3=f at *;generalize pc s 25 7=g at *;have hf0:(0:Int)≤(f:Int):=by omega
 have hf1:(f:Int)<8:=by omega
 subst h;clear hT;go_enter func171,ntmps171;go_wp2_with fail;refine (P1.out _).mono ?_;rintro e w1 ⟨rfl,q1,rfl⟩;go_wp2_with fail;refine (P2.out _).mono ?_;rintro e w1 ⟨rfl,q2,rfl⟩;go_wp2_with fail;refine (P3.out _).mono ?_;rintro e w1 ⟨rfl,q3,rfl⟩;go_wp2_with fail;refine (zEK 0 31 33 34 35 36 37 39 40 32 0 0 0 0 38 0 0 50 51 52 53 54 55 56 57 _ rfl).mono ?_;rintro e w1 ⟨rfl,k1⟩;go_wp2;go_ret2;exact ⟨_,rfl,rfl,((Kp.refl _ _).drewN _).trans k1⟩
theorem look_plain_b (s:Nat) (w:World) (hs:s<4294967296) (hT:Tabs w) (hc:pc s 0 7=51) (h:pc s 25 7=32) :
  Calls prog 171 #[.int .u32 s] w (zQ s w ([32,0,0,0,0,38,0,0].getD (pc s 12 3) 0) .rg):=by
 have hix:=fun w=>zBE 32 0 0 0 0 38 0 0 (pc s 12 3) (zF s 12 3) w
 generalize ([32,0,0,0,0,38,0,0]:List Int).getD (pc s 12 3) 0=o at *;obtain ⟨c4_0,c4_1,c4_2,c4_3,c4_4,c4_5,c4_6,c4_7,c5_0,c5_1,c5_2,c5_3,c5_4,c5_5,c5_6,c5_7,c6_0,c6_1,c6_2,c6_3,c6_4,c6_5,c6_6,c6_7⟩:=zIl hT;obtain ⟨P1,P2,P3,hf,hg⟩:=zAY s hs;rw [hc] at P3;clear hc;generalize pc s 12 3=f at *;generalize pc s 25 7=g at *;have hf0:(0:Int)≤(f:Int):=by omega
 have hf1:(f:Int)<8:=by omega
 subst h;clear hT;go_enter func171,ntmps171;go_wp2_with fail;refine (P1.out _).mono ?_;rintro e w1 ⟨rfl,q1,rfl⟩;go_wp2_with fail;refine (P2.out _).mono ?_;rintro e w1 ⟨rfl,q2,rfl⟩;go_wp2_with fail;refine (P3.out _).mono ?_;rintro e w1 ⟨rfl,q3,rfl⟩;go_wp2_with fail;refine (zDU 32 31 33 34 35 36 37 39 40 32 0 0 0 0 38 0 0 50 51 52 53 54 55 56 57 _ rfl).mono ?_;rintro e w1 ⟨rfl,k1⟩;go_wp2;go_ret2;exact ⟨_,rfl,rfl,((Kp.refl _ _).drewN _).trans k1⟩
theorem look_plain_p (s:Nat) (w:World) (hs:s<4294967296) (hT:Tabs w) (hc:pc s 0 7=51) (h:pc s 25 7=1) :
  Calls prog 171 #[.int .u32 s] w (zQ s w ([50,51,52,53,54,55,56,57].getD (pc s 12 3) 0) .rg):=by
 have hix:=fun w=>zBE 50 51 52 53 54 55 56 57 (pc s 12 3) (zF s 12 3) w
 generalize ([50,51,52,53,54,55,56,57]:List Int).getD (pc s 12 3) 0=o at *;obtain ⟨c4_0,c4_1,c4_2,c4_3,c4_4,c4_5,c4_6,c4_7,c5_0,c5_1,c5_2,c5_3,c5_4,c5_5,c5_6,c5_7,c6_0,c6_1,c6_2,c6_3,c6_4,c6_5,c6_6,c6_7⟩:=zIl hT;obtain ⟨P1,P2,P3,hf,hg⟩:=zAY s hs;rw [hc] at P3;clear hc;generalize pc s 12 3=f at *;generalize pc s 25 7=g at *;have hf0:(0:Int)≤(f:Int):=by omega
 have hf1:(f:Int)<8:=by omega
 subst h;clear hT;go_enter func171,ntmps171;go_wp2_with fail;refine (P1.out _).mono ?_;rintro e w1 ⟨rfl,q1,rfl⟩;go_wp2_with fail;refine (P2.out _).mono ?_;rintro e w1 ⟨rfl,q2,rfl⟩;go_wp2_with fail;refine (P3.out _).mono ?_;rintro e w1 ⟨rfl,q3,rfl⟩;go_wp2_with fail;refine (zDH 1 31 33 34 35 36 37 39 40 32 0 0 0 0 38 0 0 50 51 52 53 54 55 56 57 _ rfl).mono ?_;rintro e w1 ⟨rfl,k1⟩;go_wp2;go_ret2;exact ⟨_,rfl,rfl,((Kp.refl _ _).drewN _).trans k1⟩
theorem look_plain_c (s:Nat) (w:World) (hs:s<4294967296) (hT:Tabs w) (hc:pc s 0 7=51) (h0:((pc s 25 7:Int)==0)=false) (h1:((pc s 25 7:Int)==32)=false) (h2:((pc s 25 7:Int)==1)=false) :
  Calls prog 171 #[.int .u32 s] w (zQ s w ([0,0,0,0,0,0,0,0].getD (pc s 12 3) 0) .rg):=by
 have hix:=fun w=>zBE 0 0 0 0 0 0 0 0 (pc s 12 3) (zF s 12 3) w
 generalize ([0,0,0,0,0,0,0,0]:List Int).getD (pc s 12 3) 0=o at *;obtain ⟨c4_0,c4_1,c4_2,c4_3,c4_4,c4_5,c4_6,c4_7,c5_0,c5_1,c5_2,c5_3,c5_4,c5_5,c5_6,c5_7,c6_0,c6_1,c6_2,c6_3,c6_4,c6_5,c6_6,c6_7⟩:=zIl hT;obtain ⟨P1,P2,P3,hf,hg⟩:=zAY s hs;rw [hc] at P3;clear hc;generalize pc s 12 3=f at *;generalize pc s 25 7=g at *;have hf0:(0:Int)≤(f:Int):=by omega
 have hf1:(f:Int)<8:=by omega
 clear hT;go_enter func171,ntmps171;go_wp2_with fail;refine (P1.out _).mono ?_;rintro e w1 ⟨rfl,q1,rfl⟩;go_wp2_with fail;refine (P2.out _).mono ?_;rintro e w1 ⟨rfl,q2,rfl⟩;go_wp2_with fail;refine (P3.out _).mono ?_;rintro e w1 ⟨rfl,q3,rfl⟩;go_wp2_with fail;refine (zEL g 31 33 34 35 36 37 39 40 32 0 0 0 0 38 0 0 50 51 52 53 54 55 56 57 _ h0 h1 h2).mono ?_;rintro e w1 ⟨rfl,k1⟩;go_wp2;go_ret2;exact ⟨_,rfl,rfl,((Kp.refl _ _).drewN _).trans k1⟩
theorem look_narrow_a (s:Nat) (w:World) (hs:s<4294967296) (hT:Tabs w) (hc:pc s 0 7=59) (h:pc s 25 7=0) :
  Calls prog 171 #[.int .u32 s] w (zQ s w ([45,47,0,0,0,48,0,0].getD (pc s 12 3) 0) .rg):=by
 have hix:=fun w=>zBE 45 47 0 0 0 48 0 0 (pc s 12 3) (zF s 12 3) w
 generalize ([45,47,0,0,0,48,0,0]:List Int).getD (pc s 12 3) 0=o at *;obtain ⟨c7_0,c7_1,c7_2,c7_3,c7_4,c7_5,c7_6,c7_7,c8_0,c8_1,c8_2,c8_3,c8_4,c8_5,c8_6,c8_7,c9_0,c9_1,c9_2,c9_3,c9_4,c9_5,c9_6,c9_7⟩:=zIk hT;obtain ⟨P1,P2,P3,hf,hg⟩:=zAY s hs;rw [hc] at P3;clear hc;generalize pc s 12 3=f at *;generalize pc s 25 7=g at *;have hf0:(0:Int)≤(f:Int):=by omega
 have hf1:(f:Int)<8:=by omega
 subst h;clear hT;go_enter func171,ntmps171;go_wp2_with fail;refine (P1.out _).mono ?_;rintro e w1 ⟨rfl,q1,rfl⟩;go_wp2_with fail;refine (P2.out _).mono ?_;rintro e w1 ⟨rfl,q2,rfl⟩;go_wp2_with fail;refine (P3.out _).mono ?_;rintro e w1 ⟨rfl,q3,rfl⟩;go_wp2_with fail;refine (zEK 0 45 47 0 0 0 48 0 0 46 0 0 0 0 49 0 0 58 0 0 0 59 60 61 62 _ rfl).mono ?_;rintro e w1 ⟨rfl,k1⟩;go_wp2;go_ret2;exact ⟨_,rfl,rfl,((Kp.refl _ _).drewN _).trans k1⟩
theorem look_narrow_b (s:Nat) (w:World) (hs:s<4294967296) (hT:Tabs w) (hc:pc s 0 7=59) (h:pc s 25 7=32) :
  Calls prog 171 #[.int .u32 s] w (zQ s w ([46,0,0,0,0,49,0,0].getD (pc s 12 3) 0) .rg):=by
 have hix:=fun w=>zBE 46 0 0 0 0 49 0 0 (pc s 12 3) (zF s 12 3) w
 generalize ([46,0,0,0,0,49,0,0]:List Int).getD (pc s 12 3) 0=o at *;obtain ⟨c7_0,c7_1,c7_2,c7_3,c7_4,c7_5,c7_6,c7_7,c8_0,c8_1,c8_2,c8_3,c8_4,c8_5,c8_6,c8_7,c9_0,c9_1,c9_2,c9_3,c9_4,c9_5,c9_6,c9_7⟩:=zIk hT;obtain ⟨P1,P2,P3,hf,hg⟩:=zAY s hs;rw [hc] at P3;clear hc;generalize pc s 12 3=f at *;generalize pc s 25 7=g at *;have hf0:(0:Int)≤(f:Int):=by omega
 have hf1:(f:Int)<8:=by omega
 subst h;clear hT;go_enter func171,ntmps171;go_wp2_with fail;refine (P1.out _).mono ?_;rintro e w1 ⟨rfl,q1,rfl⟩;go_wp2_with fail;refine (P2.out _).mono ?_;rintro e w1 ⟨rfl,q2,rfl⟩;go_wp2_with fail;refine (P3.out _).mono ?_;rintro e w1 ⟨rfl,q3,rfl⟩;go_wp2_with fail;refine (zDU 32 45 47 0 0 0 48 0 0 46 0 0 0 0 49 0 0 58 0 0 0 59 60 61 62 _ rfl).mono ?_;rintro e w1 ⟨rfl,k1⟩;go_wp2;go_ret2;exact ⟨_,rfl,rfl,((Kp.refl _ _).drewN _).trans k1⟩
theorem look_narrow_p (s:Nat) (w:World) (hs:s<4294967296) (hT:Tabs w) (hc:pc s 0 7=59) (h:pc s 25 7=1) :
  Calls prog 171 #[.int .u32 s] w (zQ s w ([58,0,0,0,59,60,61,62].getD (pc s 12 3) 0) .rg):=by
 have hix:=fun w=>zBE 58 0 0 0 59 60 61 62 (pc s 12 3) (zF s 12 3) w
 generalize ([58,0,0,0,59,60,61,62]:List Int).getD (pc s 12 3) 0=o at *;obtain ⟨c7_0,c7_1,c7_2,c7_3,c7_4,c7_5,c7_6,c7_7,c8_0,c8_1,c8_2,c8_3,c8_4,c8_5,c8_6,c8_7,c9_0,c9_1,c9_2,c9_3,c9_4,c9_5,c9_6,c9_7⟩:=zIk hT;obtain ⟨P1,P2,P3,hf,hg⟩:=zAY s hs;rw [hc] at P3;clear hc;generalize pc s 12 3=f at *;generalize pc s 25 7=g at *;have hf0:(0:Int)≤(f:Int):=by omega
 have hf1:(f:Int)<8:=by omega
 subst h;clear hT;go_enter func171,ntmps171;go_wp2_with fail;refine (P1.out _).mono ?_;rintro e w1 ⟨rfl,q1,rfl⟩;go_wp2_with fail;refine (P2.out _).mono ?_;rintro e w1 ⟨rfl,q2,rfl⟩;go_wp2_with fail;refine (P3.out _).mono ?_;rintro e w1 ⟨rfl,q3,rfl⟩;go_wp2_with fail;refine (zDH 1 45 47 0 0 0 48 0 0 46 0 0 0 0 49 0 0 58 0 0 0 59 60 61 62 _ rfl).mono ?_;rintro e w1 ⟨rfl,k1⟩;go_wp2;go_ret2;exact ⟨_,rfl,rfl,((Kp.refl _ _).drewN _).trans k1⟩
theorem look_narrow_c (s:Nat) (w:World) (hs:s<4294967296) (hT:Tabs w) (hc:pc s 0 7=59) (h0:((pc s 25 7:Int)==0)=false) (h1:((pc s 25 7:Int)==32)=false) (h2:((pc s 25 7:Int)==1)=false) :
  Calls prog 171 #[.int .u32 s] w (zQ s w ([0,0,0,0,0,0,0,0].getD (pc s 12 3) 0) .rg):=by
 have hix:=fun w=>zBE 0 0 0 0 0 0 0 0 (pc s 12 3) (zF s 12 3) w
 generalize ([0,0,0,0,0,0,0,0]:List Int).getD (pc s 12 3) 0=o at *;obtain ⟨c7_0,c7_1,c7_2,c7_3,c7_4,c7_5,c7_6,c7_7,c8_0,c8_1,c8_2,c8_3,c8_4,c8_5,c8_6,c8_7,c9_0,c9_1,c9_2,c9_3,c9_4,c9_5,c9_6,c9_7⟩:=zIk hT;obtain ⟨P1,P2,P3,hf,hg⟩:=zAY s hs;rw [hc] at P3;clear hc;generalize pc s 12 3=f at *;generalize pc s 25 7=g at *;have hf0:(0:Int)≤(f:Int):=by omega
 have hf1:(f:Int)<8:=by omega
 clear hT;go_enter func171,ntmps171;go_wp2_with fail;refine (P1.out _).mono ?_;rintro e w1 ⟨rfl,q1,rfl⟩;go_wp2_with fail;refine (P2.out _).mono ?_;rintro e w1 ⟨rfl,q2,rfl⟩;go_wp2_with fail;refine (P3.out _).mono ?_;rintro e w1 ⟨rfl,q3,rfl⟩;go_wp2_with fail;refine (zEL g 45 47 0 0 0 48 0 0 46 0 0 0 0 49 0 0 58 0 0 0 59 60 61 62 _ h0 h1 h2).mono ?_;rintro e w1 ⟨rfl,k1⟩;go_wp2;go_ret2;exact ⟨_,rfl,rfl,((Kp.refl _ _).drewN _).trans k1⟩
theorem look_imm (s:Nat) (w:World) (hs:s<4294967296) (hT:Tabs w) (hc:pc s 0 7=19) (hf:pc s 12 3∈[0,2,3,4,6,7]) :
  Calls prog 171 #[.int .u32 s] w (zQ s w (T11.getD (pc s 12 3) 0) .im):=by
 have LI:=hid (fun w (hT:Tabs w)=>lookImmediate_plain (pc s 12 3) (pc s 25 7) w hT hf);generalize (T11.getD (pc s 12 3) 0)=o at *;obtain ⟨P1,P2,P3,hf,hg⟩:=zAY s hs;rw [hc] at P3;clear hc;generalize pc s 12 3=f at *;generalize pc s 25 7=g at *;have hf0:(0:Int)≤(f:Int):=by omega
 have hf1:(f:Int)<8:=by omega
 have HT:=hid hT;clear hT;go_enter func171,ntmps171;go_wp2_with fail;refine (P1.out _).mono ?_;rintro e w1 ⟨rfl,q1,rfl⟩;go_wp2_with fail;refine (P2.out _).mono ?_;rintro e w1 ⟨rfl,q2,rfl⟩;go_wp2_with fail;refine (P3.out _).mono ?_;rintro e w1 ⟨rfl,q3,rfl⟩;go_wp2_with fail;refine (LI.out _ (HT.out.kp ((Kp.refl _ _).drewN _))).mono ?_;rintro e w1 ⟨rfl,rfl⟩;go_wp2;go_ret2;exact ⟨_,rfl,rfl,(Kp.refl _ _).drewN _⟩
theorem look_imm_a (s:Nat) (w:World) (hs:s<4294967296) (hT:Tabs w) (hc:pc s 0 7=19) (hf5:pc s 12 3=1∨pc s 12 3=5) (h:pc s 25 7/2*2=0) :
  Calls prog 171 #[.int .u32 s] w (zQ s w ([0,28,0,0,0,29,0,0].getD (pc s 12 3) 0:Int) (.sh 6)):=by
 have LI:=hid (fun w (hT:Tabs w)=>lookImmediate_a (pc s 12 3) (pc s 25 7) w hT (zF s 12 3) (by rw [hT.t11 _ (zF s 12 3)];rcases hf5 with h|h<;>rw [h]<;>rfl) (zF s 25 7) h);generalize ([0,28,0,0,0,29,0,0].getD (pc s 12 3) 0:Int)=o at *;obtain ⟨P1,P2,P3,hf,hg⟩:=zAY s hs;rw [hc] at P3;clear hc;generalize pc s 12 3=f at *;generalize pc s 25 7=g at *;have hf0:(0:Int)≤(f:Int):=by omega
 have hf1:(f:Int)<8:=by omega
 have HT:=hid hT;clear hT;go_enter func171,ntmps171;go_wp2_with fail;refine (P1.out _).mono ?_;rintro e w1 ⟨rfl,q1,rfl⟩;go_wp2_with fail;refine (P2.out _).mono ?_;rintro e w1 ⟨rfl,q2,rfl⟩;go_wp2_with fail;refine (P3.out _).mono ?_;rintro e w1 ⟨rfl,q3,rfl⟩;go_wp2_with fail;refine (LI.out _ (HT.out.kp ((Kp.refl _ _).drewN _))).mono ?_;rintro e w1 ⟨Q,rfl,hq,k1,hQ⟩;go_wp2;go_ret2;exact ⟨_,rfl,⟨Q,rfl,hq,hQ⟩,((Kp.refl _ _).drewN _).trans k1⟩
theorem look_imm_b (s:Nat) (w:World) (hs:s<4294967296) (hT:Tabs w) (hc:pc s 0 7=19) (hf5:pc s 12 3=1∨pc s 12 3=5) (h:pc s 25 7/2*2=32) :
  Calls prog 171 #[.int .u32 s] w (zQ s w ([0,0,0,0,0,30,0,0].getD (pc s 12 3) 0:Int) (.sh 6)):=by
 have LI:=hid (fun w (hT:Tabs w)=>lookImmediate_b (pc s 12 3) (pc s 25 7) w hT (zF s 12 3) (by rw [hT.t11 _ (zF s 12 3)];rcases hf5 with h|h<;>rw [h]<;>rfl) (zF s 25 7) h);generalize ([0,0,0,0,0,30,0,0].getD (pc s 12 3) 0:Int)=o at *;obtain ⟨P1,P2,P3,hf,hg⟩:=zAY s hs;rw [hc] at P3;clear hc;generalize pc s 12 3=f at *;generalize pc s 25 7=g at *;have hf0:(0:Int)≤(f:Int):=by omega
 have hf1:(f:Int)<8:=by omega
 have HT:=hid hT;clear hT;go_enter func171,ntmps171;go_wp2_with fail;refine (P1.out _).mono ?_;rintro e w1 ⟨rfl,q1,rfl⟩;go_wp2_with fail;refine (P2.out _).mono ?_;rintro e w1 ⟨rfl,q2,rfl⟩;go_wp2_with fail;refine (P3.out _).mono ?_;rintro e w1 ⟨rfl,q3,rfl⟩;go_wp2_with fail;refine (LI.out _ (HT.out.kp ((Kp.refl _ _).drewN _))).mono ?_;rintro e w1 ⟨Q,rfl,hq,k1,hQ⟩;go_wp2;go_ret2;exact ⟨_,rfl,⟨Q,rfl,hq,hQ⟩,((Kp.refl _ _).drewN _).trans k1⟩
theorem look_imm_c (s:Nat) (w:World) (hs:s<4294967296) (hT:Tabs w) (hc:pc s 0 7=19) (hf5:pc s 12 3=1∨pc s 12 3=5) (h0:(((pc s 25 7/2*2:Nat):Int)==0)=false) (h1:(((pc s 25 7/2*2:Nat):Int)==32)=false) (h2:(((pc s 25 7/2*2:Nat):Int)==1)=false) :
  Calls prog 171 #[.int .u32 s] w (zQ s w ([0,0,0,0,0,0,0,0].getD (pc s 12 3) 0:Int) (.sh 6)):=by
 have LI:=hid (fun w (hT:Tabs w)=>lookImmediate_c (pc s 12 3) (pc s 25 7) w hT (zF s 12 3) (by rw [hT.t11 _ (zF s 12 3)];rcases hf5 with h|h<;>rw [h]<;>rfl) (zF s 25 7) _ rfl h0 h1 h2);generalize ([0,0,0,0,0,0,0,0].getD (pc s 12 3) 0:Int)=o at *;obtain ⟨P1,P2,P3,hf,hg⟩:=zAY s hs;rw [hc] at P3;clear hc;generalize pc s 12 3=f at *;generalize pc s 25 7=g at *;have hf0:(0:Int)≤(f:Int):=by omega
 have hf1:(f:Int)<8:=by omega
 have HT:=hid hT;clear hT;go_enter func171,ntmps171;go_wp2_with fail;refine (P1.out _).mono ?_;rintro e w1 ⟨rfl,q1,rfl⟩;go_wp2_with fail;refine (P2.out _).mono ?_;rintro e w1 ⟨rfl,q2,rfl⟩;go_wp2_with fail;refine (P3.out _).mono ?_;rintro e w1 ⟨rfl,q3,rfl⟩;go_wp2_with fail;refine (LI.out _ (HT.out.kp ((Kp.refl _ _).drewN _))).mono ?_;rintro e w1 ⟨Q,rfl,hq,k1,hQ⟩;go_wp2;go_ret2;exact ⟨_,rfl,⟨Q,rfl,hq,hQ⟩,((Kp.refl _ _).drewN _).trans k1⟩
theorem look_immW (s:Nat) (w:World) (hs:s<4294967296) (hT:Tabs w) (hc:pc s 0 7=27) (hz:pc s 12 3=0) :
  Calls prog 171 #[.int .u32 s] w (zQ s w 41 .im):=by
 have LI:=hid (fun g w (hT:Tabs w)=>lookImmediateW_plain g w hT);obtain ⟨P1,P2,P3,hf,hg⟩:=zAY s hs;rw [hc] at P3;clear hc;generalize pc s 12 3=f at *;generalize pc s 25 7=g at *;have hf0:(0:Int)≤(f:Int):=by omega
 have hf1:(f:Int)<8:=by omega
 subst hz;have HT:=hid hT;clear hT;go_enter func171,ntmps171;go_wp2_with fail;refine (P1.out _).mono ?_;rintro e w1 ⟨rfl,q1,rfl⟩;go_wp2_with fail;refine (P2.out _).mono ?_;rintro e w1 ⟨rfl,q2,rfl⟩;go_wp2_with fail;refine (P3.out _).mono ?_;rintro e w1 ⟨rfl,q3,rfl⟩;go_wp2_with fail;refine (LI.out _ _ (HT.out.kp ((Kp.refl _ _).drewN _))).mono ?_;rintro e w1 ⟨rfl,rfl⟩;go_wp2;go_ret2;exact ⟨_,rfl,rfl,(Kp.refl _ _).drewN _⟩
theorem look_immW_a (s:Nat) (w:World) (hs:s<4294967296) (hT:Tabs w) (hc:pc s 0 7=27) (hz:pc s 12 3≠0) (h:pc s 25 7=0) :
  Calls prog 171 #[.int .u32 s] w (zQ s w ([0,42,0,0,0,43,0,0].getD (pc s 12 3) 0:Int) (.sh 5)):=by
 have LI:=hid (fun w (hT:Tabs w)=>lookImmediateW_a (pc s 12 3) (pc s 25 7) w hT (zF s 12 3) (by rw [hT.t14 _ (zF s 12 3)];exact congrArg _ (congrArg _ (zEx _ (zF s 12 3) hz))) (zF s 25 7) h);generalize ([0,42,0,0,0,43,0,0].getD (pc s 12 3) 0:Int)=o at *;obtain ⟨P1,P2,P3,hf,hg⟩:=zAY s hs;rw [hc] at P3;clear hc;generalize pc s 12 3=f at *;generalize pc s 25 7=g at *;have hf0:(0:Int)≤(f:Int):=by omega
 have hf1:(f:Int)<8:=by omega
 subst h;have HT:=hid hT;clear hT;go_enter func171,ntmps171;go_wp2_with fail;refine (P1.out _).mono ?_;rintro e w1 ⟨rfl,q1,rfl⟩;go_wp2_with fail;refine (P2.out _).mono ?_;rintro e w1 ⟨rfl,q2,rfl⟩;go_wp2_with fail;refine (P3.out _).mono ?_;rintro e w1 ⟨rfl,q3,rfl⟩;go_wp2_with fail;refine (LI.out _ (HT.out.kp ((Kp.refl _ _).drewN _))).mono ?_;rintro e w1 ⟨Q,rfl,hq,k1,hQ⟩;go_wp2;go_ret2;exact ⟨_,rfl,⟨Q,rfl,hq,hQ⟩,((Kp.refl _ _).drewN _).trans k1⟩
theorem look_immW_b (s:Nat) (w:World) (hs:s<4294967296) (hT:Tabs w) (hc:pc s 0 7=27) (hz:pc s 12 3≠0) (h:pc s 25 7=32) :
  Calls prog 171 #[.int .u32 s] w (zQ s w ([0,0,0,0,0,44,0,0].getD (pc s 12 3) 0:Int) (.sh 5)):=by
 have LI:=hid (fun w (hT:Tabs w)=>lookImmediateW_b (pc s 12 3) (pc s 25 7) w hT (zF s 12 3) (by rw [hT.t14 _ (zF s 12 3)];exact congrArg _ (congrArg _ (zEx _ (zF s 12 3) hz))) (zF s 25 7) h);generalize ([0,0,0,0,0,44,0,0].getD (pc s 12 3) 0:Int)=o at *;obtain ⟨P1,P2,P3,hf,hg⟩:=zAY s hs;rw [hc] at P3;clear hc;generalize pc s 12 3=f at *;generalize pc s 25 7=g at *;have hf0:(0:Int)≤(f:Int):=by omega
 have hf1:(f:Int)<8:=by omega
 subst h;have HT:=hid hT;clear hT;go_enter func171,ntmps171;go_wp2_with fail;refine (P1.out _).mono ?_;rintro e w1 ⟨rfl,q1,rfl⟩;go_wp2_with fail;refine (P2.out _).mono ?_;rintro e w1 ⟨rfl,q2,rfl⟩;go_wp2_with fail;refine (P3.out _).mono ?_;rintro e w1 ⟨rfl,q3,rfl⟩;go_wp2_with fail;refine (LI.out _ (HT.out.kp ((Kp.refl _ _).drewN _))).mono ?_;rintro e w1 ⟨Q,rfl,hq,k1,hQ⟩;go_wp2;go_ret2;exact ⟨_,rfl,⟨Q,rfl,hq,hQ⟩,((Kp.refl _ _).drewN _).trans k1⟩
theorem look_immW_p (s:Nat) (w:World) (hs:s<4294967296) (hT:Tabs w) (hc:pc s 0 7=27) (hz:pc s 12 3≠0) (h:pc s 25 7=1) :
  Calls prog 171 #[.int .u32 s] w (zQ s w ([0,0,0,0,0,0,0,0].getD (pc s 12 3) 0:Int) (.sh 5)):=by
 have LI:=hid (fun w (hT:Tabs w)=>lookImmediateW_p (pc s 12 3) (pc s 25 7) w hT (zF s 12 3) (by rw [hT.t14 _ (zF s 12 3)];exact congrArg _ (congrArg _ (zEx _ (zF s 12 3) hz))) (zF s 25 7) h);generalize ([0,0,0,0,0,0,0,0].getD (pc s 12 3) 0:Int)=o at *;obtain ⟨P1,P2,P3,hf,hg⟩:=zAY s hs;rw [hc] at P3;clear hc;generalize pc s 12 3=f at *;generalize pc s 25 7=g at *;have hf0:(0:Int)≤(f:Int):=by omega
 have hf1:(f:Int)<8:=by omega
 subst h;have HT:=hid hT;clear hT;go_enter func171,ntmps171;go_wp2_with fail;refine (P1.out _).mono ?_;rintro e w1 ⟨rfl,q1,rfl⟩;go_wp2_with fail;refine (P2.out _).mono ?_;rintro e w1 ⟨rfl,q2,rfl⟩;go_wp2_with fail;refine (P3.out _).mono ?_;rintro e w1 ⟨rfl,q3,rfl⟩;go_wp2_with fail;refine (LI.out _ (HT.out.kp ((Kp.refl _ _).drewN _))).mono ?_;rintro e w1 ⟨Q,rfl,hq,k1,hQ⟩;go_wp2;go_ret2;exact ⟨_,rfl,⟨Q,rfl,hq,hQ⟩,((Kp.refl _ _).drewN _).trans k1⟩
theorem look_immW_c (s:Nat) (w:World) (hs:s<4294967296) (hT:Tabs w) (hc:pc s 0 7=27) (hz:pc s 12 3≠0) (h0:((pc s 25 7:Int)==0)=false) (h1:((pc s 25 7:Int)==32)=false) (h2:((pc s 25 7:Int)==1)=false) :
  Calls prog 171 #[.int .u32 s] w (zQ s w ([0,0,0,0,0,0,0,0].getD (pc s 12 3) 0:Int) (.sh 5)):=by
 have LI:=hid (fun w (hT:Tabs w)=>lookImmediateW_c (pc s 12 3) (pc s 25 7) w hT (zF s 12 3) (by rw [hT.t14 _ (zF s 12 3)];exact congrArg _ (congrArg _ (zEx _ (zF s 12 3) hz))) (zF s 25 7) _ rfl h0 h1 h2);generalize ([0,0,0,0,0,0,0,0].getD (pc s 12 3) 0:Int)=o at *;obtain ⟨P1,P2,P3,hf,hg⟩:=zAY s hs;rw [hc] at P3;clear hc;generalize pc s 12 3=f at *;generalize pc s 25 7=g at *;have hf0:(0:Int)≤(f:Int):=by omega
 have hf1:(f:Int)<8:=by omega
 have HT:=hid hT;clear hT;go_enter func171,ntmps171;go_wp2_with fail;refine (P1.out _).mono ?_;rintro e w1 ⟨rfl,q1,rfl⟩;go_wp2_with fail;refine (P2.out _).mono ?_;rintro e w1 ⟨rfl,q2,rfl⟩;go_wp2_with fail;refine (P3.out _).mono ?_;rintro e w1 ⟨rfl,q3,rfl⟩;go_wp2_with fail;refine (LI.out _ (HT.out.kp ((Kp.refl _ _).drewN _))).mono ?_;rintro e w1 ⟨Q,rfl,hq,k1,hQ⟩;go_wp2;go_ret2;exact ⟨_,rfl,⟨Q,rfl,hq,hQ⟩,((Kp.refl _ _).drewN _).trans k1⟩
theorem look_none (s:Nat) (w:World) (hs:s<4294967296) (n55:((pc s 0 7:Int)==55)=false) (n23:((pc s 0 7:Int)==23)=false) (n111:((pc s 0 7:Int)==111)=false) (n103:((pc s 0 7:Int)==103)=false) (n99:((pc s 0 7:Int)==99)=false) (n3:((pc s 0 7:Int)==3)=false) (n35:((pc s 0 7:Int)==35)=false) (n19:((pc s 0 7:Int)==19)=false) (n51:((pc s 0 7:Int)==51)=false) (n27:((pc s 0 7:Int)==27)=false) (n59:((pc s 0 7:Int)==59)=false) (n47:((pc s 0 7:Int)==47)=false) (n15:((pc s 0 7:Int)==15)=false) (n115:((pc s 0 7:Int)==115)=false) :
  Calls prog 171 #[.int .u32 s] w (zQ s w 0 .no):=by
 have P1:=hid (fun w=>zAh s 12 3 w hs (by omega) (by omega));have P2:=hid (fun w=>zAh s 25 7 w hs (by omega) (by omega));have P3:=hid (fun w=>zAh s 0 7 w hs (by omega) (by omega));generalize pc s 12 3=f at *;generalize pc s 25 7=g at *;generalize pc s 0 7=c at *;go_enter func171,ntmps171;go_wp2_with fail;refine (P1.out _).mono ?_;rintro e w1 ⟨rfl,q1,rfl⟩;go_wp2_with fail;refine (P2.out _).mono ?_;rintro e w1 ⟨rfl,q2,rfl⟩;go_wp2_with fail;refine (P3.out _).mono ?_;rintro e w1 ⟨rfl,q3,rfl⟩;go_wp2;go_ret2;exact ⟨_,rfl,rfl,(Kp.refl _ _).drewN _⟩
structure Ins where
 op:Int
 rd:Int
 r1:Int
 r2:Int
 im:Int
 od:Int
 sz:Int
deriving DecidableEq
abbrev Ins.cells (i:Ins):Array Value:=I7 i.op i.rd i.r1 i.r2 i.im i.od i.sz
def zDh:Ins:=⟨0,0,0,0,0,0,0⟩
def parts (o:Int) (s:Nat):Fm→Ins
 | .up=>⟨o,(tk s 7 5 0),0,0,(low (tk s 12 20 12) 32),0,4⟩
 | .jp=>⟨o,(tk s 7 5 0),0,0,(low (bits .or .i64 (bits .or .i64 (bits .or .i64 (tk s 31 1 20) (tk s 12 8 12)) (tk s 20 1 11)) (tk s 21 10 1)) 21),0,4⟩
 | .im=>⟨o,(tk s 7 5 0),(tk s 15 5 0),0,(low (tk s 20 12 0) 12),0,4⟩
 | .br=>⟨o,0,(tk s 15 5 0),(tk s 20 5 0),(low (bits .or .i64 (bits .or .i64 (bits .or .i64 (tk s 31 1 12) (tk s 7 1 11)) (tk s 25 6 5)) (tk s 8 4 1)) 13),0,4⟩
 | .st=>⟨o,0,(tk s 15 5 0),(tk s 20 5 0),(low (bits .or .i64 (tk s 25 7 5) (tk s 7 5 0)) 12),0,4⟩
 | .rg=>⟨o,(tk s 7 5 0),(tk s 15 5 0),(tk s 20 5 0),0,0,4⟩
 | .am=>⟨o,(tk s 7 5 0),(tk s 15 5 0),(tk s 20 5 0),0,(tk s 25 2 0),4⟩
 | .ba=>⟨o,0,0,0,0,0,4⟩
 | .sh m=>⟨o,(tk s 7 5 0),(tk s 15 5 0),0,(tk s 20 m 0),0,4⟩
 | .no=>zDh
variable {fn:Func} {u:Tmp}
theorem zR {p:Tmp} (h:fn.results=#[.cell p 38,.tmp u]) (tmps:Array Value) (w:World) (g:Nat) (v0 v1 v2 v3 v4 v5 v6:Value)
 (hp:tmps.getD p undef=.pointer (some ⟨g,0,none⟩)) (hg:Has w g 38 #[v0,v1,v2,v3,v4,v5,v6]):
  (results fn tmps).run prog w=.ok (.tuple #[.agg #[v0,v1,v2,v3,v4,v5,v6],tmps.getD u undef]) w:=by
 have hr:=run_loadVar_row (P:=prog) w g 38 38 #[v0,v1,v2,v3,v4,v5,v6] (0,0) _ hg underlying38 rfl (by kernel_rfl);rw [results_cell_tmp h,hp];simp [asAddr,Result.andThen,hr]
theorem decode_zero (s:Nat) (w:World) (fm:Fm) (hT:Tabs w) (hl:∀ w,Tabs w→Calls prog 171 #[.int .u32 s] w (zQ s w 0 fm)) :
  Calls prog 152 #[.int .u32 s] w fun e w'=>e=.returned (.tuple #[.agg (I7 0 0 0 0 0 0 0),.bool false])∧Kp none w w':=by
 have HL:=hid hl;clear hl;have k0:=(Kp.refl none w).alloc (I7 0 0 0 0 0 0 0) 38;have h0:=Has.new w (I7 0 0 0 0 0 0 0) 38;have T0:=hT.kp k0;clear hT;go_enter func152,ntmps152;go_wp2_with fail;refine (HL.out _ T0).mono ?_;rintro e w1 ⟨v,rfl,_,k1⟩;have h1:=h0.kp k1 (by simp);have K1:=k0.trans k1;clear k0 k1 h0 T0;obtain ⟨b0,b1,b2,b3,b4,b5,b6⟩:=h1.seven;have z:=h1.free;go_wp2;refine zzb (zR rfl _ _ w.heap.size _ _ _ _ _ _ _ rfl (h1.zA _ _ _ _ _ _ _)) rfl ⟨rfl,?_⟩;exact K1.zA (zzr _) _ _ _ _ _ _ _
theorem zCQ (s:Nat) (w:World) (o:Int) (fn:Nat) (hfn:fn=196∨fn=197∨fn=198∨fn=199∨fn=200∨fn=203∨fn=206∨fn=207) (A1 A2 A3 A4 A5:Int) (hs:s<4294967296) (ho:(o==0)=false) (hT:Tabs w) (hl:∀ w,Tabs w→Calls prog 171 #[.int .u32 s] w fun e w'=>∃ v,e=.returned (.tuple #[.int .i64 o,v])∧v=.func (.func fn) #[] #[]∧Kp none w w')
  (H:∀ c w,Has w c 39 #[.int .u32 s]→Calls prog fn #[.agg (I7 o 0 0 0 0 0 4),.func (.func 209) #[] #[.pointer (some ⟨c,0,none⟩)]] w fun e w'=>e=.returned (.agg (I7 o A1 A2 A3 A4 A5 4))∧Kp none w w') :
  Calls prog 152 #[.int .u32 s] w fun e w'=>e=.returned (.tuple #[.agg (I7 o A1 A2 A3 A4 A5 4),.bool true])∧Kp none w w':=by
 have HH:=hid H;clear H;have HL:=hid hl;clear hl;have k0:=(Kp.refl none w).alloc (I7 0 0 0 0 0 0 0) 38;have h0:=Has.new w (I7 0 0 0 0 0 0 0) 38;have T0:=hT.kp k0;clear hT;go_enter func152,ntmps152;go_wp2_with fail;refine (HL.out _ T0).mono ?_;rintro e w1 ⟨v,rfl,rfl,k1⟩;have h1:=h0.kp k1 (by simp);have K1:=k0.trans k1;clear k0 k1 h0 T0;go_wp2_with fail;refine (zHk s _).mono ?_;rintro e w2 ⟨rfl,h2,k2⟩;rcases hfn with rfl|rfl|rfl|rfl|rfl|rfl|rfl|rfl;all_goals (
  go_wp2_with fail;refine (HH.out _ _ h2).mono ?_;rintro e w3 ⟨rfl,k3⟩;have h3:=(h1.kp k2 (by simp)).kp k3 (by simp);have K3:=(K1.trans k2).trans k3;clear k2 k3 h1 h2 K1;obtain ⟨b0,b1,b2,b3,b4,b5,b6⟩:=h3.seven;have z:=h3.free;go_wp2;refine zzb (zR rfl _ _ w.heap.size _ _ _ _ _ _ _ rfl (h3.zA _ _ _ _ _ _ _)) rfl ⟨rfl,?_⟩;exact K3.zA (zzr _) _ _ _ _ _ _ _)
def decode_up (s:Nat) (w:World) (o:Int) (hs:s<4294967296) (ho:(o==0)=false) (hT:Tabs w) (hl:∀ w,Tabs w→Calls prog 171 #[.int .u32 s] w (zQ s w o .up)):=zCQ s w o 196 (by decide) _ _ _ _ _ hs ho hT hl (fun c w h=>upper_take o 0 0 0 0 0 4 s c w hs h)
def decode_jp (s:Nat) (w:World) (o:Int) (hs:s<4294967296) (ho:(o==0)=false) (hT:Tabs w) (hl:∀ w,Tabs w→Calls prog 171 #[.int .u32 s] w (zQ s w o .jp)):=zCQ s w o 197 (by decide) _ _ _ _ _ hs ho hT hl (fun c w h=>jump_take o 0 0 0 0 0 4 s c w hs h)
def decode_im (s:Nat) (w:World) (o:Int) (hs:s<4294967296) (ho:(o==0)=false) (hT:Tabs w) (hl:∀ w,Tabs w→Calls prog 171 #[.int .u32 s] w (zQ s w o .im)):=zCQ s w o 198 (by decide) _ _ _ _ _ hs ho hT hl (fun c w h=>immediate_take o 0 0 0 0 0 4 s c w hs h)
def decode_br (s:Nat) (w:World) (o:Int) (hs:s<4294967296) (ho:(o==0)=false) (hT:Tabs w) (hl:∀ w,Tabs w→Calls prog 171 #[.int .u32 s] w (zQ s w o .br)):=zCQ s w o 199 (by decide) _ _ _ _ _ hs ho hT hl (fun c w h=>branch_take o 0 0 0 0 0 4 s c w hs h)
def decode_st (s:Nat) (w:World) (o:Int) (hs:s<4294967296) (ho:(o==0)=false) (hT:Tabs w) (hl:∀ w,Tabs w→Calls prog 171 #[.int .u32 s] w (zQ s w o .st)):=zCQ s w o 200 (by decide) _ _ _ _ _ hs ho hT hl (fun c w h=>store_take o 0 0 0 0 0 4 s c w hs h)
def decode_rg (s:Nat) (w:World) (o:Int) (hs:s<4294967296) (ho:(o==0)=false) (hT:Tabs w) (hl:∀ w,Tabs w→Calls prog 171 #[.int .u32 s] w (zQ s w o .rg)):=zCQ s w o 203 (by decide) _ _ _ _ _ hs ho hT hl (fun c w h=>zDc o 0 0 0 0 0 4 s c w hs h)
def decode_am (s:Nat) (w:World) (o:Int) (hs:s<4294967296) (ho:(o==0)=false) (hT:Tabs w) (hl:∀ w,Tabs w→Calls prog 171 #[.int .u32 s] w (zQ s w o .am)):=zCQ s w o 206 (by decide) _ _ _ _ _ hs ho hT hl (fun c w h=>atomic_take o 0 0 0 0 0 4 s c w hs h)
def decode_ba (s:Nat) (w:World) (o:Int) (hs:s<4294967296) (ho:(o==0)=false) (hT:Tabs w) (hl:∀ w,Tabs w→Calls prog 171 #[.int .u32 s] w (zQ s w o .ba)):=zCQ s w o 207 (by decide) _ _ _ _ _ hs ho hT hl (fun c w h=>bare_any o 0 0 0 0 0 4 _ w)
theorem decode_sh (s:Nat) (w:World) (o:Int) (m:Nat) (hm:m≤6) (hs:s<4294967296) (ho:(o==0)=false) (hT:Tabs w) (hl:∀ w,Tabs w→Calls prog 171 #[.int .u32 s] w (zQ s w o (.sh m))) :
  Calls prog 152 #[.int .u32 s] w fun e w'=>e=.returned (.tuple #[.agg (I7 o (tk s 7 5 0) (tk s 15 5 0) 0 (tk s 20 m 0) 0 4),.bool true])∧Kp none w w':=by
 have HL:=hid hl;clear hl;have k0:=(Kp.refl none w).alloc (I7 0 0 0 0 0 0 0) 38;have h0:=Has.new w (I7 0 0 0 0 0 0 0) 38;have T0:=hT.kp k0;clear hT;go_enter func152,ntmps152;go_wp2_with fail;refine (HL.out _ T0).mono ?_;rintro e w1 ⟨v,rfl,⟨Q,rfl,hq,_⟩,k1⟩;have h1:=h0.kp k1 (by simp);have K1:=k0.trans k1;clear k0 k1 h0 T0;go_wp2_with fail;refine (zHk s _).mono ?_;rintro e w2 ⟨rfl,h2,k2⟩;go_wp2_with fail;refine (shift_take o 0 0 0 0 0 4 s _ _ hs h2 m Q hm (hq.kp k2 (by simp))).mono ?_;rintro e w3 ⟨rfl,k3⟩;have h3:=(h1.kp k2 (by simp)).kp k3 (by simp);have K3:=(K1.trans k2).trans k3;clear k2 k3 h1 h2 K1;obtain ⟨b0,b1,b2,b3,b4,b5,b6⟩:=h3.seven;have z:=h3.free;go_wp2;refine zzb (zR rfl _ _ w.heap.size _ _ _ _ _ _ _ rfl (h3.zA _ _ _ _ _ _ _)) rfl ⟨rfl,?_⟩;exact K3.zA (zzr _) _ _ _ _ _ _ _
def Z8:List Int:=[0,0,0,0,0,0,0,0]
def opC (c f g s:Nat):Int:=
 if c=55 then 1 else if c=23 then 2 else if c=111 then 3 else if c=103 then T0.getD f 0 else if c=99 then T1.getD f 0 else if c=3 then T2.getD f 0 else if c=35 then T3.getD f 0
 else if c=19 then (if f=1∨f=5 then zCb (g/2*2) T12 T13 Z8 f else T11.getD f 0)
 else if c=51 then zCb g T4 T5 T6 f
 else if c=27 then (if f=0 then 41 else zCb g T15 T16 Z8 f)
 else if c=59 then zCb g T7 T8 T9 f
 else if c=47 then opA s f else if c=15 then T10.getD f 0
 else if c=115 then (if s=115 then 87 else if s=1048691 then 88 else 0) else 0
def fmC (c f:Nat):Fm:=
 if c=55 then .up else if c=23 then .up else if c=111 then .jp else if c=103 then .im else if c=99 then .br else if c=3 then .im else if c=35 then .st
 else if c=19 then (if f=1∨f=5 then .sh 6 else .im) else if c=51 then .rg else if c=27 then (if f=0 then .im else .sh 5) else if c=59 then .rg
 else if c=47 then .am else if c=15 then .ba else if c=115 then .ba else .no
def opW (s:Nat):Int:=opC (pc s 0 7) (pc s 12 3) (pc s 25 7) s
def fmW (s:Nat):Fm:=fmC (pc s 0 7) (pc s 12 3)
def dec (s:Nat):Ins:=if opW s=0 then zDh else parts (opW s) s (fmW s)
theorem z8:∀ f:Nat,f<8→Z8.getD f 0=0:=by decide
theorem zEq {f:Nat} {a b c:List Int} (h:g=0):zCb g a b c f=a.getD f 0:=by unfold zCb;rw [if_pos h]
theorem zEp {f:Nat} {a b c:List Int} (h:g=32):zCb g a b c f=b.getD f 0:=by unfold zCb;rw [if_neg (by omega),if_pos h]
theorem zGo {f:Nat} {a b c:List Int} (h:g=1):zCb g a b c f=c.getD f 0:=by unfold zCb;rw [if_neg (by omega),if_neg (by omega),if_pos h]
theorem zEo {f:Nat} {a b c:List Int} (h0:g≠0) (h1:g≠32) (h2:g≠1) (hf:f<8):zCb g a b c f=Z8.getD f 0:=by unfold zCb;rw [if_neg h0,if_neg h1,if_neg h2,z8 f hf]
theorem nb {a:Nat} (h:a≠b):((a:Int)==(b:Int))=false:=by simp;omega
theorem look_any (s:Nat) (w:World) (hs:s<4294967296) (hT:Tabs w):Calls prog 171 #[.int .u32 s] w (zQ s w (opW s) (fmW s)):=by
 have hf:=zF s 12 3;have hg:=zF s 25 7;unfold opW fmW;by_cases h55:pc s 0 7=55
 ·rw [h55];exact look_lui s w hs hT h55
 by_cases h23:pc s 0 7=23
 ·rw [h23];exact look_auipc s w hs hT h23
 by_cases h111:pc s 0 7=111
 ·rw [h111];exact look_jal s w hs hT h111
 by_cases h103:pc s 0 7=103
 ·rw [h103];exact look_jalr s w hs hT h103
 by_cases h99:pc s 0 7=99
 ·rw [h99];exact look_branch s w hs hT h99
 by_cases h3:pc s 0 7=3
 ·rw [h3];exact look_load s w hs hT h3
 by_cases h35:pc s 0 7=35
 ·rw [h35];exact look_store s w hs hT h35
 by_cases h47:pc s 0 7=47
 ·rw [h47];exact look_atomic s w hs hT h47
 by_cases h15:pc s 0 7=15
 ·rw [h15];exact look_fence s w hs hT h15
 by_cases h115:pc s 0 7=115
 ·rw [h115];exact look_system s w hs hT h115
 by_cases h51:pc s 0 7=51
 ·rw [h51];show Calls prog 171 #[.int .u32 s] w (zQ s w (zCb (pc s 25 7) T4 T5 T6 (pc s 12 3)) .rg);by_cases ha:pc s 25 7=0
  ·rw [zEq ha];exact look_plain_a s w hs hT h51 ha
  by_cases hb:pc s 25 7=32
  ·rw [zEp hb];exact look_plain_b s w hs hT h51 hb
  by_cases hp:pc s 25 7=1
  ·rw [zGo hp];exact look_plain_p s w hs hT h51 hp
  rw [zEo ha hb hp hf];exact look_plain_c s w hs hT h51 (nb ha) (nb hb) (nb hp)
 by_cases h59:pc s 0 7=59
 ·rw [h59];show Calls prog 171 #[.int .u32 s] w (zQ s w (zCb (pc s 25 7) T7 T8 T9 (pc s 12 3)) .rg);by_cases ha:pc s 25 7=0
  ·rw [zEq ha];exact look_narrow_a s w hs hT h59 ha
  by_cases hb:pc s 25 7=32
  ·rw [zEp hb];exact look_narrow_b s w hs hT h59 hb
  by_cases hp:pc s 25 7=1
  ·rw [zGo hp];exact look_narrow_p s w hs hT h59 hp
  rw [zEo ha hb hp hf];exact look_narrow_c s w hs hT h59 (nb ha) (nb hb) (nb hp)
 by_cases h19:pc s 0 7=19
 ·rw [h19];by_cases h5:pc s 12 3=1∨pc s 12 3=5
  ·have e1:opC 19 (pc s 12 3) (pc s 25 7) s=zCb (pc s 25 7/2*2) T12 T13 Z8 (pc s 12 3):=if_pos h5;have e2:fmC 19 (pc s 12 3)=.sh 6:=if_pos h5;rw [e1,e2];by_cases ha:pc s 25 7/2*2=0
   ·rw [zEq ha];exact look_imm_a s w hs hT h19 h5 ha
   by_cases hb:pc s 25 7/2*2=32
   ·rw [zEp hb];exact look_imm_b s w hs hT h19 h5 hb
   have hp:pc s 25 7/2*2≠1:=by omega
   rw [zEo ha hb hp hf];exact look_imm_c s w hs hT h19 h5 (nb ha) (nb hb) (nb hp)
  ·have e1:opC 19 (pc s 12 3) (pc s 25 7) s=T11.getD (pc s 12 3) 0:=if_neg h5;have e2:fmC 19 (pc s 12 3)=.im:=if_neg h5;rw [e1,e2];exact look_imm s w hs hT h19 (by simp;omega)
 by_cases h27:pc s 0 7=27
 ·rw [h27];by_cases hz:pc s 12 3=0
  ·have e1:opC 27 (pc s 12 3) (pc s 25 7) s=41:=if_pos hz;have e2:fmC 27 (pc s 12 3)=.im:=if_pos hz;rw [e1,e2];exact look_immW s w hs hT h27 hz
  ·have e1:opC 27 (pc s 12 3) (pc s 25 7) s=zCb (pc s 25 7) T15 T16 Z8 (pc s 12 3):=if_neg hz;have e2:fmC 27 (pc s 12 3)=.sh 5:=if_neg hz;rw [e1,e2];by_cases ha:pc s 25 7=0
   ·rw [zEq ha];exact look_immW_a s w hs hT h27 hz ha
   by_cases hb:pc s 25 7=32
   ·rw [zEp hb];exact look_immW_b s w hs hT h27 hz hb
   by_cases hp:pc s 25 7=1
   ·rw [zGo hp];exact look_immW_p s w hs hT h27 hz hp
   rw [zEo ha hb hp hf];exact look_immW_c s w hs hT h27 hz (nb ha) (nb hb) (nb hp)
 have e1:opC (pc s 0 7) (pc s 12 3) (pc s 25 7) s=0:=by unfold opC;rw [if_neg h55,if_neg h23,if_neg h111,if_neg h103,if_neg h99,if_neg h3,if_neg h35,if_neg h19,if_neg h51,if_neg h27,if_neg h59,if_neg h47,if_neg h15,if_neg h115]
 have e2:fmC (pc s 0 7) (pc s 12 3)=.no:=by unfold fmC;rw [if_neg h55,if_neg h23,if_neg h111,if_neg h103,if_neg h99,if_neg h3,if_neg h35,if_neg h19,if_neg h51,if_neg h27,if_neg h59,if_neg h47,if_neg h15,if_neg h115]
 rw [e1,e2];exact look_none s w hs (nb h55) (nb h23) (nb h111) (nb h103) (nb h99) (nb h3) (nb h35) (nb h19) (nb h51) (nb h27) (nb h59) (nb h47) (nb h15) (nb h115)
theorem fm_sh (c f m:Nat) (h:fmC c f=.sh m):m≤6:=by
 by_cases h55:c=55
 ·subst h55;cases h
 by_cases h23:c=23
 ·subst h23;cases h
 by_cases h111:c=111
 ·subst h111;cases h
 by_cases h103:c=103
 ·subst h103;cases h
 by_cases h99:c=99
 ·subst h99;cases h
 by_cases h3:c=3
 ·subst h3;cases h
 by_cases h35:c=35
 ·subst h35;cases h
 by_cases h19:c=19
 ·subst h19;by_cases h5:f=1∨f=5
  ·have e:fmC 19 f=.sh 6:=if_pos h5;rw [e] at h;(injection h with h;omega)
  ·have e:fmC 19 f=.im:=if_neg h5;rw [e] at h;cases h
 by_cases h51:c=51
 ·subst h51;cases h
 by_cases h27:c=27
 ·subst h27;by_cases h5:f=0
  ·have e:fmC 27 f=.im:=if_pos h5;rw [e] at h;cases h
  ·have e:fmC 27 f=.sh 5:=if_neg h5;rw [e] at h;(injection h with h;omega)
 by_cases h59:c=59
 ·subst h59;cases h
 by_cases h47:c=47
 ·subst h47;cases h
 by_cases h15:c=15
 ·subst h15;cases h
 by_cases h115:c=115
 ·subst h115;cases h
 have e2:fmC c f=.no:=by unfold fmC;rw [if_neg h55,if_neg h23,if_neg h111,if_neg h103,if_neg h99,if_neg h3,if_neg h35,if_neg h19,if_neg h51,if_neg h27,if_neg h59,if_neg h47,if_neg h15,if_neg h115]
 rw [e2] at h;cases h
theorem no_zero (c f g s:Nat) (h:fmC c f=.no):opC c f g s=0:=by
 by_cases h55:c=55
 ·subst h55;cases h
 by_cases h23:c=23
 ·subst h23;cases h
 by_cases h111:c=111
 ·subst h111;cases h
 by_cases h103:c=103
 ·subst h103;cases h
 by_cases h99:c=99
 ·subst h99;cases h
 by_cases h3:c=3
 ·subst h3;cases h
 by_cases h35:c=35
 ·subst h35;cases h
 by_cases h19:c=19
 ·subst h19;by_cases h5:f=1∨f=5
  ·have e:fmC 19 f=.sh 6:=if_pos h5;rw [e] at h;cases h
  ·have e:fmC 19 f=.im:=if_neg h5;rw [e] at h;cases h
 by_cases h51:c=51
 ·subst h51;cases h
 by_cases h27:c=27
 ·subst h27;by_cases h5:f=0
  ·have e:fmC 27 f=.im:=if_pos h5;rw [e] at h;cases h
  ·have e:fmC 27 f=.sh 5:=if_neg h5;rw [e] at h;cases h
 by_cases h59:c=59
 ·subst h59;cases h
 by_cases h47:c=47
 ·subst h47;cases h
 by_cases h15:c=15
 ·subst h15;cases h
 by_cases h115:c=115
 ·subst h115;cases h
 unfold opC;rw [if_neg h55,if_neg h23,if_neg h111,if_neg h103,if_neg h99,if_neg h3,if_neg h35,if_neg h19,if_neg h51,if_neg h27,if_neg h59,if_neg h47,if_neg h15,if_neg h115]
theorem decode_any (s:Nat) (w:World) (hs:s<4294967296) (hT:Tabs w) :
  Calls prog 152 #[.int .u32 s] w fun e w'=>e=.returned (.tuple #[.agg (dec s).cells,.bool (decide (opW s≠0))])∧Kp none w w':=by
 have hl:=fun w hT=>look_any s w hs hT
 by_cases h0:opW s=0
 ·have e:dec s=zDh:=if_pos h0;rw [e];have e2:decide (opW s≠0)=false:=by simp [h0]
  rw [e2];rw [h0] at hl;exact decode_zero s w _ hT hl
 ·have e:dec s=parts (opW s) s (fmW s):=if_neg h0;rw [e];have e2:decide (opW s≠0)=true:=by simp [h0]
  have ho:(opW s==0)=false:=by simp [h0]
  rw [e2];have hm:=fm_sh (pc s 0 7) (pc s 12 3);have ef:fmC (pc s 0 7) (pc s 12 3)=fmW s:=rfl;rw [ef] at hm;have hno:fmW s=.no→opW s=0:=fun h=>no_zero _ _ _ _ h
  generalize fmW s=fm at *;cases fm with
  | up=>exact decode_up s w _ hs ho hT hl
  | jp=>exact decode_jp s w _ hs ho hT hl
  | im=>exact decode_im s w _ hs ho hT hl
  | br=>exact decode_br s w _ hs ho hT hl
  | st=>exact decode_st s w _ hs ho hT hl
  | rg=>exact decode_rg s w _ hs ho hT hl
  | am=>exact decode_am s w _ hs ho hT hl
  | ba=>exact decode_ba s w _ hs ho hT hl
  | sh m=>exact decode_sh s w _ m (hm m rfl) hs ho hT hl
  | no=>exact absurd (hno rfl) h0
end Go.Proofs.YtlhpodholnfppaaGreatDoor.Td
