/- Mirrors of code, stage 1. -/
import Derived.Test.YtkgcicbipcifdaaL1s
namespace Go.Proofs.Ytkgcicbipcifdaa.Ab
open Go
attribute [local irreducible] arun



/-! minecontrol/plan.part -/
noncomputable def plan_part_l7_step (u7_2 : Sq SPlace) (u7_3 : Sq SRoad) (u7_5 : Sq Int) (u7_7 : Int) (u7_1 : Sq Bool) (u7_4 : Sq Int) (u7_6 : Int) : DT (LR ((Sq Bool) × (Sq Int) × Int) ((Sq Bool) × (Sq Int)) (Unit)) :=
 .ite (decide (u7_6 < ((u7_5.n : Nat) : Int))) (
 .ite (decide ((0 : Int) ≤ u7_6 ∧ u7_6 < ((u7_5.n : Nat) : Int))) (
 .ite (decide ((0 : Int) ≤ u7_7 ∧ u7_7 < ((u7_4.n : Nat) : Int))) (
 .bind (plan_Other (SMine.mk u7_2 u7_3) (u7_5.f (Int.toNat u7_6)) (u7_4.f (Int.toNat u7_7))) fun z0 =>
 .ite (decide ((0 : Int) ≤ (u7_5.f (Int.toNat u7_6)) ∧ (u7_5.f (Int.toNat u7_6)) < ((u7_3.n : Nat) : Int))) (
 .ite (!(u7_3.f (Int.toNat (u7_5.f (Int.toNat u7_6)))).Closed) (
 .ite (decide ((0 : Int) ≤ z0 ∧ z0 < ((u7_1.n : Nat) : Int))) (
 .ite (!(u7_1.f (Int.toNat z0))) (
 .ite (decide ((0 : Int) ≤ z0 ∧ z0 < ((u7_1.n : Nat) : Int))) (
 .ite (decide ((u7_4.n + 1) * 8 ≤ 140737488355328 ∧ (u7_4.n + 1) ≤ 1099511627776)) (
 .leaf (.next ((Sq.mk u7_1.n (fun k0 => (cond (Nat.beq k0 (Int.toNat z0)) true (u7_1.f k0)))), (Sq.mk (u7_4.n + 1) (fun k1 => (cond (Nat.blt k1 u7_4.n) (u7_4.f k1) z0))), (wr (u7_6 + (1 : Int)))))) (
 .fail)) (
 .fail)) (
 .leaf (.next (u7_1, u7_4, (wr (u7_6 + (1 : Int))))))) (
 .fail)) (
 .leaf (.next (u7_1, u7_4, (wr (u7_6 + (1 : Int))))))) (
 .fail)) (
 .fail)) (
 .fail)) (
 .leaf (.l (u7_1, u7_4)))
noncomputable def plan_part_l7_m : LpM := ⟨(Sq SPlace) × (Sq SRoad) × (Sq Int) × Int, (Sq Bool) × (Sq Int) × Int, (Sq Bool) × (Sq Int), Unit, fun p => ⟨[(2, .own 0 0), (3, .ptr 1 0), (7, .own 193 0), (8, .int .i64 p.1.2.2.2), (28, .own 1217 0), (29, .int .i64 ((p.1.2.2.1.n : Nat) : Int)), (30, .int .i64 p.2.2.2)], [(0, rowA 0 1 4 eO p.2.1), (1, .var [sqA 2 SPlace.enc p.1.1, sqA 10 SRoad.enc p.1.2.1]), (193, rowA 0 1 3 (eI .i64) p.2.2.1), (1217, rowA 0 1 3 (eI .i64) p.1.2.2.1)], 1409⟩, fun f v => plan_part_l7_step f.1 f.2.1 f.2.2.1 f.2.2.2 v.1 v.2.1 v.2.2, true, (.exit 2), (fun x a => ⟨[(2, .own 0 0), (3, .ptr 1 0), (7, .own 193 0), (8, aget x.tm 8)], [(0, rowA 0 1 4 eO a.1), (1, blkS x 1), (193, rowA 0 1 3 (eI .i64) a.2), (1217, blkS x 1217)], 1409⟩), .ret, (fun _ _ => ⟨[], [], 0⟩), c1, c1k⟩
noncomputable def plan_part_l7 (u7_2 : Sq SPlace) (u7_3 : Sq SRoad) (u7_5 : Sq Int) (u7_7 : Int) (u7_1 : Sq Bool) (u7_4 : Sq Int) (u7_6 : Int) : Option (((Sq Bool) × (Sq Int)) ⊕ (Unit)) := plan_part_l7_m.val ((u7_2, u7_3, u7_5, u7_7), (u7_1, u7_4, u7_6))
theorem plan_part_l7_eq (u7_2 : Sq SPlace) (u7_3 : Sq SRoad) (u7_5 : Sq Int) (u7_7 : Int) (u7_1 : Sq Bool) (u7_4 : Sq Int) (u7_6 : Int) : plan_part_l7 u7_2 u7_3 u7_5 u7_7 u7_1 u7_4 u7_6 = fixO (fun v : (Sq Bool) × (Sq Int) × Int => plan_part_l7_step u7_2 u7_3 u7_5 u7_7 v.1 v.2.1 v.2.2) (u7_1, u7_4, u7_6) := plan_part_l7_m.val_eq (fun x => ((sqD SPlace.dec (cellS x 1 0), sqD SRoad.dec (cellS x 1 1), sqB dI (blkS x 1217), intA (aget x.tm 8)), (sqB dO (blkS x 0), sqB dI (blkS x 193), intA (aget x.tm 30)))) (fun p => by kernel_rfl) ((u7_2, u7_3, u7_5, u7_7), (u7_1, u7_4, u7_6))
noncomputable def plan_part_l4_step (u4_1 : Sq SPlace) (u4_2 : Sq SRoad) (u4_0 : Sq Bool) (u4_3 : Sq Int) (u4_4 : Int) : DT (LR ((Sq Bool) × (Sq Int) × Int) ((Sq Bool) × (Sq Int)) (Unit)) :=
 .ite (decide (u4_4 < ((u4_3.n : Nat) : Int))) (
 .ite (decide ((0 : Int) ≤ u4_4 ∧ u4_4 < ((u4_3.n : Nat) : Int))) (
 .bind (plan_Roads (SMine.mk u4_1 u4_2) (u4_3.f (Int.toNat u4_4))) fun z1 =>
 .sum (plan_part_l7 u4_1 u4_2 z1 u4_4 u4_0 u4_3 (0 : Int)) (fun y0 =>
 .leaf (.next (y0.1, y0.2, (wr (u4_4 + (1 : Int)))))) (fun _ => .fail)) (
 .fail)) (
 .leaf (.l (u4_0, u4_3)))
noncomputable def plan_part_l4_m : LpM := ⟨(Sq SPlace) × (Sq SRoad), (Sq Bool) × (Sq Int) × Int, (Sq Bool) × (Sq Int), Unit, fun p => ⟨[(2, .own 0 0), (3, .ptr 1 0), (7, .own 193 0), (8, .int .i64 p.2.2.2)], [(0, rowA 0 1 4 eO p.2.1), (1, .var [sqA 2 SPlace.enc p.1.1, sqA 10 SRoad.enc p.1.2]), (193, rowA 0 1 3 (eI .i64) p.2.2.1)], 641⟩, fun f v => plan_part_l4_step f.1 f.2 v.1 v.2.1 v.2.2, true, (.exit 0), (fun x a => ⟨[(7, .own 193 0)], [(0, rowA 0 1 4 eO a.1), (1, blkS x 1), (193, rowA 0 1 3 (eI .i64) a.2)], 641⟩), .ret, (fun _ _ => ⟨[], [], 0⟩), c1, c1k⟩
noncomputable def plan_part_l4 (u4_1 : Sq SPlace) (u4_2 : Sq SRoad) (u4_0 : Sq Bool) (u4_3 : Sq Int) (u4_4 : Int) : Option (((Sq Bool) × (Sq Int)) ⊕ (Unit)) := plan_part_l4_m.val ((u4_1, u4_2), (u4_0, u4_3, u4_4))
theorem plan_part_l4_eq (u4_1 : Sq SPlace) (u4_2 : Sq SRoad) (u4_0 : Sq Bool) (u4_3 : Sq Int) (u4_4 : Int) : plan_part_l4 u4_1 u4_2 u4_0 u4_3 u4_4 = fixO (fun v : (Sq Bool) × (Sq Int) × Int => plan_part_l4_step u4_1 u4_2 v.1 v.2.1 v.2.2) (u4_0, u4_3, u4_4) := plan_part_l4_m.val_eq (fun x => ((sqD SPlace.dec (cellS x 1 0), sqD SRoad.dec (cellS x 1 1)), (sqB dO (blkS x 0), sqB dI (blkS x 193), intA (aget x.tm 8)))) (fun p => by kernel_rfl) ((u4_1, u4_2), (u4_0, u4_3, u4_4))
noncomputable def plan_part_t (m : SMine) (first : Int) (seen : Sq Bool) : DT ((Sq Int) × (Sq Bool)) :=
 .ite (decide ((0 : Int) ≤ first ∧ first < ((seen.n : Nat) : Int))) (
 .sum (plan_part_l4 m.Places m.Roads (Sq.mk seen.n (fun k2 => (cond (Nat.beq k2 (Int.toNat first)) true (seen.f k2)))) (Sq.mk 1 (fun _ => first)) (0 : Int)) (fun y1 =>
 .bind (slices_Sort y1.2) fun z2 =>
 .leaf (z2, y1.1)) (fun _ => .fail)) (
 .fail)
noncomputable def plan_part_m : FnM := nfM (SMine × Int × (Sq Bool)) ((Sq Int) × (Sq Bool)) (fun p => ([.agg (SMine.enc p.1), .int .i64 p.2.1, .own 0 0], [rowA 0 1 4 eO p.2.2])) (fun p => plan_part_t p.1 p.2.1 p.2.2) (fun _ => .own 1 0) (fun _ r => [rowA 0 1 4 eO r.2, rowA 0 1 3 (eI .i64) r.1])
noncomputable def plan_part_env : Env := envM [(8, plan_Roads_m.c), (10, plan_Other_m.c), (25, slices_Sort_m.c)] [(7, [2, 3, 7, 8, 28, 29, 30], [2, 3, 7, 8]), (4, [2, 3, 7, 8], [7]), (2000025, [], [])] [(7, plan_part_l7_m.c), (4, plan_part_l4_m.c)] [] [(7, [0, 1, 193, 1217]), (4, [0, 1, 193])] 1
noncomputable def plan_part_e : Env := { plan_part_env with nt := 66 }
theorem plan_part_l7_tells : LoopTells plan_part_e (loopOf 7 Try.f29) plan_part_l7_m.c := plan_part_l7_m.tells 1409 (fun _ => by kernel_rfl) (fun _ _ _ _ => by kernel_rfl) (fun _ _ _ _ => by kernel_rfl) fun R f v N K => by kernel_rfl
theorem plan_part_l4_tells : LoopTells plan_part_e (loopOf 4 Try.f29) plan_part_l4_m.c := plan_part_l4_m.tells 641 (fun _ => by kernel_rfl) (fun _ _ _ _ => by kernel_rfl) (fun _ _ _ _ => by kernel_rfl) fun R f v N K => by kernel_rfl
theorem plan_part_tells : Tells Try.prog 29 plan_part_m.c := plan_part_m.tells Try.func29 (show ∀ p, arun plan_part_env Try.f29 (plan_part_m.enc p).1 (plan_part_m.enc p).2 = _ from fun p => by kernel_rfl) (loopsL [loopOf 4 Try.f29, loopOf 7 Try.f29] (by kernel_rfl) ⟨lpT (by kernel_rfl) plan_part_l4_tells, ⟨lpT (by kernel_rfl) plan_part_l7_tells, trivial⟩⟩) (.cons plan_Roads_tells (.cons plan_Other_tells (.cons slices_Sort_tells .nil)))
noncomputable def plan_part (m : SMine) (first : Int) (seen : Sq Bool) : Option ((Sq Int) × (Sq Bool)) := plan_part_m.val (m, first, seen)
theorem plan_part_eq (m : SMine) (first : Int) (seen : Sq Bool) : plan_part m first seen = (plan_part_t m first seen).get := plan_part_m.val_eq (fun x => (SMine.dec (aggL (gd x.1 0)), intA (gd x.1 1), sqB dO (dB x.2 0))) (fun p => by kernel_rfl) (m, first, seen)

/-! minecontrol/plan.Parts -/
noncomputable def plan_Parts_l6_step (u6_1 : Sq SPlace) (u6_2 : Sq SRoad) (u6_3 : (Sq (Sq Int))) (u6_4 : Sq Bool) (u6_5 : Int) : DT (LR ((Sq (Sq Int)) × (Sq Bool) × Int) ((Sq (Sq Int)) × (Sq Bool)) (Unit)) :=
 .ite (decide (u6_5 < ((u6_1.n : Nat) : Int))) (
 .ite (decide ((0 : Int) ≤ u6_5 ∧ u6_5 < ((u6_4.n : Nat) : Int))) (
 .ite (!(u6_4.f (Int.toNat u6_5))) (
 .bind (plan_part (SMine.mk u6_1 u6_2) u6_5 u6_4) fun z0 =>
 .ite (decide ((u6_3.n + 1) * 24 ≤ 140737488355328 ∧ (u6_3.n + 1) ≤ 1099511627776)) (
 .leaf (.next ((Sq.mk (u6_3.n + 1) (fun k0 => (Sq.mk (cond (Nat.blt k0 u6_3.n) (u6_3.f k0).n z0.1.n) (fun k1 => (cond (Nat.blt k0 u6_3.n) ((u6_3.f k0).f k1) (z0.1.f k1)))))), z0.2, (wr (u6_5 + (1 : Int)))))) (
 .fail)) (
 .leaf (.next (u6_3, u6_4, (wr (u6_5 + (1 : Int))))))) (
 .fail)) (
 .leaf (.l (u6_3, u6_4)))
noncomputable def plan_Parts_l6_m : LpM := ⟨(Sq SPlace) × (Sq SRoad), (Sq (Sq Int)) × (Sq Bool) × Int, (Sq (Sq Int)) × (Sq Bool), Unit, fun p => ⟨[(1, .ptr 0 0), (3, .own 384 0), (4, .own 640 0), (15, .int .i64 ((p.1.1.n : Nat) : Int)), (16, .int .i64 p.2.2.2)], [(0, .var [sqA 2 SPlace.enc p.1.1, sqA 10 SRoad.enc p.1.2]), (384, rowA 0 1 33 (eQ 1 (eI .i64)) p.2.1), (640, rowA 0 1 4 eO p.2.2.1)], 1024⟩, fun f v => plan_Parts_l6_step f.1 f.2 v.1 v.2.1 v.2.2, true, (.exit 0), (fun x a => ⟨[(3, .own 384 0)], [(0, blkS x 0), (384, rowA 0 1 33 (eQ 1 (eI .i64)) a.1), (640, rowA 0 1 4 eO a.2)], 1024⟩), .ret, (fun _ _ => ⟨[], [], 0⟩), c1, c1k⟩
noncomputable def plan_Parts_l6 (u6_1 : Sq SPlace) (u6_2 : Sq SRoad) (u6_3 : (Sq (Sq Int))) (u6_4 : Sq Bool) (u6_5 : Int) : Option (((Sq (Sq Int)) × (Sq Bool)) ⊕ (Unit)) := plan_Parts_l6_m.val ((u6_1, u6_2), (u6_3, u6_4, u6_5))
theorem plan_Parts_l6_eq (u6_1 : Sq SPlace) (u6_2 : Sq SRoad) (u6_3 : (Sq (Sq Int))) (u6_4 : Sq Bool) (u6_5 : Int) : plan_Parts_l6 u6_1 u6_2 u6_3 u6_4 u6_5 = fixO (fun v : (Sq (Sq Int)) × (Sq Bool) × Int => plan_Parts_l6_step u6_1 u6_2 v.1 v.2.1 v.2.2) (u6_3, u6_4, u6_5) := plan_Parts_l6_m.val_eq (fun x => ((sqD SPlace.dec (cellS x 0 0), sqD SRoad.dec (cellS x 0 1)), (sqB (dQ dI) (blkS x 384), sqB dO (blkS x 640), intA (aget x.tm 16)))) (fun p => by kernel_rfl) ((u6_1, u6_2), (u6_3, u6_4, u6_5))
noncomputable def plan_Parts_t (m : SMine) : DT ((Sq (Sq Int))) :=
 .bind (plan_Valid m) fun z1 =>
 .ite (!z1) (
 .leaf (Sq.mk 0 (fun _ => (Sq.mk 0 (fun _ => (0 : Int)))))) (
 .ite (decide ((0 : Int) ≤ ((m.Places.n : Nat) : Int) ∧ ((m.Places.n : Nat) : Int) ≤ ((m.Places.n : Nat) : Int) ∧ ((m.Places.n : Nat) : Int) * ((1 : Nat) : Int) ≤ 140737488355328 ∧ ((m.Places.n : Nat) : Int) ≤ 1099511627776)) (
 .sum (plan_Parts_l6 m.Places m.Roads (Sq.mk 0 (fun _ => (Sq.mk 0 (fun _ => (0 : Int))))) (Sq.mk (Int.toNat ((m.Places.n : Nat) : Int)) (fun _ => false)) (0 : Int)) (fun y0 =>
 .leaf y0.1) (fun _ => .fail)) (
 .fail))
noncomputable def plan_Parts_m : FnM := nfM (SMine) ((Sq (Sq Int))) (fun p => ([.agg (SMine.enc p)], [])) (fun p => plan_Parts_t p) (fun _ => .own 0 0) (fun _ r => [rowA 0 1 33 (eQ 1 (eI .i64)) r])
noncomputable def plan_Parts_env : Env := envM [(28, plan_Valid_m.c), (29, plan_part_m.c)] [(6, [1, 3, 4, 15, 16], [3]), (2000029, [], [])] [(6, plan_Parts_l6_m.c)] [(1000006, [.asrow 384 33 1 (fun _ => (eQ 1 (eI .i64)) (Sq.mk 0 (fun _ => (0 : Int))))]), (2000000, [.asrow 320 33 1 (fun _ => (eQ 1 (eI .i64)) (Sq.mk 0 (fun _ => (0 : Int))))])] [(6, [0, 384, 640])] 0
noncomputable def plan_Parts_e : Env := { plan_Parts_env with nt := 33 }
theorem plan_Parts_l6_tells : LoopTells plan_Parts_e (loopOf 6 Try.f15) plan_Parts_l6_m.c := plan_Parts_l6_m.tells 1024 (fun _ => by kernel_rfl) (fun _ _ _ _ => by kernel_rfl) (fun _ _ _ _ => by kernel_rfl) fun R f v N K => by kernel_rfl
theorem plan_Parts_tells : Tells Try.prog 15 plan_Parts_m.c := plan_Parts_m.tells Try.func15 (show ∀ p, arun plan_Parts_env Try.f15 (plan_Parts_m.enc p).1 (plan_Parts_m.enc p).2 = _ from fun p => by kernel_rfl) (loopsL [loopOf 6 Try.f15] (by kernel_rfl) ⟨lpT (by kernel_rfl) plan_Parts_l6_tells, trivial⟩) (.cons plan_Valid_tells (.cons plan_part_tells .nil))
noncomputable def plan_Parts (m : SMine) : Option ((Sq (Sq Int))) := plan_Parts_m.val m
theorem plan_Parts_eq (m : SMine) : plan_Parts m = (plan_Parts_t m).get := plan_Parts_m.val_eq (fun x => SMine.dec (aggL (gd x.1 0))) (fun p => by kernel_rfl) m

/-! minecontrol/plan.CutOff$1 -/
noncomputable def plan_CutOff_1_t (place : Int) (x : SMine) : DT (Bool) :=
 .ite (decide ((0 : Int) ≤ place ∧ place < ((x.Places.n : Nat) : Int))) (.leaf (x.Places.f (Int.toNat place)).Surface) (.fail)
noncomputable def plan_CutOff_1_m : FnM := nfM (Int × SMine) (Bool) (fun p => ([.int .i64 p.1, .ptr 0 0], [.var (SMine.enc p.2)])) (fun p => plan_CutOff_1_t p.1 p.2) (fun r => .bool r) (fun ins _ => [dB ins 0])
noncomputable def plan_CutOff_1_env : Env := envM [] [] [] [] [] 1
theorem plan_CutOff_1_tells : Tells Try.prog 23 plan_CutOff_1_m.c := plan_CutOff_1_m.tells Try.func23 (show ∀ p, arun plan_CutOff_1_env Try.f23 (plan_CutOff_1_m.enc p).1 (plan_CutOff_1_m.enc p).2 = _ from fun p => by kernel_rfl) noLoops .nil
noncomputable def plan_CutOff_1 (place : Int) (x : SMine) : Option (Bool) := plan_CutOff_1_m.val (place, x)
theorem plan_CutOff_1_eq (place : Int) (x : SMine) : plan_CutOff_1 place x = (plan_CutOff_1_t place x).get := plan_CutOff_1_m.val_eq (fun x => (intA (gd x.1 0), SMine.dec (varL (dB x.2 0)))) (fun p => by kernel_rfl) (place, x)

/-! slices.IndexFunc[[]int,int] -/
noncomputable def slices_IndexFunc_cut_l2_step (u2_0 : Sq Int) (u2_2 : Sq SPlace) (u2_3 : Sq SRoad) (u2_4 : Int) : DT (LR (Int) (Unit) (Int)) :=
 .ite (decide (u2_4 < ((u2_0.n : Nat) : Int))) (
 .ite (decide ((0 : Int) ≤ u2_4 ∧ u2_4 < ((u2_0.n : Nat) : Int))) (
 .bind (plan_CutOff_1 (u2_0.f (Int.toNat u2_4)) (SMine.mk u2_2 u2_3)) fun z0 =>
 .ite z0 (
 .leaf (.r u2_4)) (
 .leaf (.next (wr (u2_4 + (1 : Int)))))) (
 .fail)) (
 .leaf (.l ()))
noncomputable def slices_IndexFunc_cut_l2_m : LpM := ⟨(Sq Int) × (Sq SPlace) × (Sq SRoad), Int, Unit, Int, fun p => ⟨[(0, sqA 1 (eI .i64) p.1.1), (1, .fn 23 [.ptr 0 0]), (7, .int .i64 ((p.1.1.n : Nat) : Int)), (8, .int .i64 p.2)], [(0, .var [sqA 2 SPlace.enc p.1.2.1, sqA 10 SRoad.enc p.1.2.2])], 257⟩, fun f v => slices_IndexFunc_cut_l2_step f.1 f.2.1 f.2.2 v, false, (.exit 0), (fun x _ => ⟨[(4, .undef)], [(0, blkS x 0)], 257⟩), .ret, (fun x a => ⟨[(4, .int .i64 a)], [(0, blkS x 0)], 257⟩), c1, c1k⟩
noncomputable def slices_IndexFunc_cut_l2 (u2_0 : Sq Int) (u2_2 : Sq SPlace) (u2_3 : Sq SRoad) (u2_4 : Int) : Option ((Unit) ⊕ (Int)) := slices_IndexFunc_cut_l2_m.val ((u2_0, u2_2, u2_3), u2_4)
theorem slices_IndexFunc_cut_l2_eq (u2_0 : Sq Int) (u2_2 : Sq SPlace) (u2_3 : Sq SRoad) (u2_4 : Int) : slices_IndexFunc_cut_l2 u2_0 u2_2 u2_3 u2_4 = fixO (fun v : Int => slices_IndexFunc_cut_l2_step u2_0 u2_2 u2_3 v) u2_4 := slices_IndexFunc_cut_l2_m.val_eq (fun x => ((sqD dI (aget x.tm 0), sqD SPlace.dec (cellS x 0 0), sqD SRoad.dec (cellS x 0 1)), intA (aget x.tm 8))) (fun p => by kernel_rfl) ((u2_0, u2_2, u2_3), u2_4)
noncomputable def slices_IndexFunc_cut_t (s : Sq Int) (y0 : SMine) : DT (Int) :=
 .sum (slices_IndexFunc_cut_l2 s y0.Places y0.Roads (0 : Int)) (fun _ =>
 .leaf (-1 : Int)) (fun y1 => .leaf y1)
noncomputable def slices_IndexFunc_cut_m : FnM := nfM ((Sq Int) × SMine) (Int) (fun p => ([sqA 1 (eI .i64) p.1, .fn 23 [.ptr 0 0]], [.var (SMine.enc p.2)])) (fun p => slices_IndexFunc_cut_t p.1 p.2) (fun r => .int .i64 r) (fun ins _ => [dB ins 0])
noncomputable def slices_IndexFunc_cut_env : Env := envM [(23, plan_CutOff_1_m.c)] [(2, [0, 1, 7, 8], [4])] [(2, slices_IndexFunc_cut_l2_m.c)] [] [(2, [0])] 1
noncomputable def slices_IndexFunc_cut_e : Env := { slices_IndexFunc_cut_env with nt := 19 }
theorem slices_IndexFunc_cut_l2_tells : LoopTells slices_IndexFunc_cut_e (loopOf 2 Try.f33) slices_IndexFunc_cut_l2_m.c := slices_IndexFunc_cut_l2_m.tells 257 (fun _ => by kernel_rfl) (fun _ _ _ _ => by kernel_rfl) (fun _ _ _ _ => by kernel_rfl) fun R f v N K => by kernel_rfl
theorem slices_IndexFunc_cut_tells : Tells Try.prog 33 slices_IndexFunc_cut_m.c := slices_IndexFunc_cut_m.tells Try.func33 (show ∀ p, arun slices_IndexFunc_cut_env Try.f33 (slices_IndexFunc_cut_m.enc p).1 (slices_IndexFunc_cut_m.enc p).2 = _ from fun p => by kernel_rfl) (loopsL [loopOf 2 Try.f33] (by kernel_rfl) ⟨lpT (by kernel_rfl) slices_IndexFunc_cut_l2_tells, trivial⟩) (.cons plan_CutOff_1_tells .nil)
noncomputable def slices_IndexFunc_cut (s : Sq Int) (y0 : SMine) : Option (Int) := slices_IndexFunc_cut_m.val (s, y0)
theorem slices_IndexFunc_cut_eq (s : Sq Int) (y0 : SMine) : slices_IndexFunc_cut s y0 = (slices_IndexFunc_cut_t s y0).get := slices_IndexFunc_cut_m.val_eq (fun x => (sqD dI (gd x.1 0), SMine.dec (varL (dB x.2 0)))) (fun p => by kernel_rfl) (s, y0)

/-! slices.ContainsFunc[[]int,int] -/
noncomputable def slices_ContainsFunc_cut_t (s : Sq Int) (y0 : SMine) : DT (Bool) :=
 .bind (slices_IndexFunc_cut s y0) fun z0 =>
 .leaf (decide (z0 ≥ (0 : Int)))
noncomputable def slices_ContainsFunc_cut_m : FnM := nfM ((Sq Int) × SMine) (Bool) (fun p => ([sqA 1 (eI .i64) p.1, .fn 23 [.ptr 0 0]], [.var (SMine.enc p.2)])) (fun p => slices_ContainsFunc_cut_t p.1 p.2) (fun r => .bool r) (fun ins _ => [dB ins 0])
noncomputable def slices_ContainsFunc_cut_env : Env := envM [(33, slices_IndexFunc_cut_m.c)] [] [] [] [] 1
theorem slices_ContainsFunc_cut_tells : Tells Try.prog 24 slices_ContainsFunc_cut_m.c := slices_ContainsFunc_cut_m.tells Try.func24 (show ∀ p, arun slices_ContainsFunc_cut_env Try.f24 (slices_ContainsFunc_cut_m.enc p).1 (slices_ContainsFunc_cut_m.enc p).2 = _ from fun p => by kernel_rfl) noLoops (.cons slices_IndexFunc_cut_tells .nil)
noncomputable def slices_ContainsFunc_cut (s : Sq Int) (y0 : SMine) : Option (Bool) := slices_ContainsFunc_cut_m.val (s, y0)
theorem slices_ContainsFunc_cut_eq (s : Sq Int) (y0 : SMine) : slices_ContainsFunc_cut s y0 = (slices_ContainsFunc_cut_t s y0).get := slices_ContainsFunc_cut_m.val_eq (fun x => (sqD dI (gd x.1 0), SMine.dec (varL (dB x.2 0)))) (fun p => by kernel_rfl) (s, y0)

/-! minecontrol/plan.CutOff -/
noncomputable def plan_CutOff_l4_step (u4_1 : Sq SPlace) (u4_2 : Sq SRoad) (u4_4 : (Sq (Sq Int))) (u4_3 : Sq Int) (u4_5 : Int) : DT (LR ((Sq Int) × Int) ((Sq Int)) (Unit)) :=
 .ite (decide (u4_5 < ((u4_4.n : Nat) : Int))) (
 .ite (decide ((0 : Int) ≤ u4_5 ∧ u4_5 < ((u4_4.n : Nat) : Int))) (
 .bind (slices_ContainsFunc_cut (u4_4.f (Int.toNat u4_5)) (SMine.mk u4_1 u4_2)) fun z0 =>
 .ite (!z0) (
 .ite (decide ((u4_3.n + (u4_4.f (Int.toNat u4_5)).n) * 8 ≤ 140737488355328 ∧ (u4_3.n + (u4_4.f (Int.toNat u4_5)).n) ≤ 1099511627776)) (
 .leaf (.next ((Sq.mk (u4_3.n + (u4_4.f (Int.toNat u4_5)).n) (fun k0 => (cond (Nat.blt k0 u4_3.n) (u4_3.f k0) ((u4_4.f (Int.toNat u4_5)).f (k0 - u4_3.n))))), (wr (u4_5 + (1 : Int)))))) (
 .fail)) (
 .leaf (.next (u4_3, (wr (u4_5 + (1 : Int))))))) (
 .fail)) (
 .leaf (.l u4_3))
noncomputable def plan_CutOff_l4_m : LpM := ⟨(Sq SPlace) × (Sq SRoad) × (Sq (Sq Int)), (Sq Int) × Int, (Sq Int), Unit, fun p => ⟨[(3, .own 128 0), (4, .fn 23 [.ptr 0 0]), (9, .own 384 0), (10, .int .i64 ((p.1.2.2.n : Nat) : Int)), (11, .int .i64 p.2.2)], [(0, .var [sqA 2 SPlace.enc p.1.1, sqA 10 SRoad.enc p.1.2.1]), (128, rowA 0 1 3 (eI .i64) p.2.1), (384, rowA 0 1 33 (eQ 1 (eI .i64)) p.1.2.2)], 576⟩, fun f v => plan_CutOff_l4_step f.1 f.2.1 f.2.2 v.1 v.2, true, (.exit 0), (fun x a => ⟨[(3, .own 128 0)], [(0, blkS x 0), (128, rowA 0 1 3 (eI .i64) a), (384, blkS x 384)], 576⟩), .ret, (fun _ _ => ⟨[], [], 0⟩), c1, c1k⟩
noncomputable def plan_CutOff_l4 (u4_1 : Sq SPlace) (u4_2 : Sq SRoad) (u4_4 : (Sq (Sq Int))) (u4_3 : Sq Int) (u4_5 : Int) : Option (((Sq Int)) ⊕ (Unit)) := plan_CutOff_l4_m.val ((u4_1, u4_2, u4_4), (u4_3, u4_5))
theorem plan_CutOff_l4_eq (u4_1 : Sq SPlace) (u4_2 : Sq SRoad) (u4_4 : (Sq (Sq Int))) (u4_3 : Sq Int) (u4_5 : Int) : plan_CutOff_l4 u4_1 u4_2 u4_4 u4_3 u4_5 = fixO (fun v : (Sq Int) × Int => plan_CutOff_l4_step u4_1 u4_2 u4_4 v.1 v.2) (u4_3, u4_5) := plan_CutOff_l4_m.val_eq (fun x => ((sqD SPlace.dec (cellS x 0 0), sqD SRoad.dec (cellS x 0 1), sqB (dQ dI) (blkS x 384)), (sqB dI (blkS x 128), intA (aget x.tm 11)))) (fun p => by kernel_rfl) ((u4_1, u4_2, u4_4), (u4_3, u4_5))
noncomputable def plan_CutOff_t (m : SMine) : DT ((Sq Int)) :=
 .bind (plan_Parts m) fun z1 =>
 .sum (plan_CutOff_l4 m.Places m.Roads z1 (Sq.mk 0 (fun _ => (0 : Int))) (0 : Int)) (fun y0 =>
 .bind (slices_Sort y0) fun z2 =>
 .leaf z2) (fun _ => .fail)
noncomputable def plan_CutOff_m : FnM := nfM (SMine) ((Sq Int)) (fun p => ([.agg (SMine.enc p)], [])) (fun p => plan_CutOff_t p) (fun _ => .own 0 0) (fun _ r => [rowA 0 1 3 (eI .i64) r])
noncomputable def plan_CutOff_env : Env := envM [(15, plan_Parts_m.c), (24, slices_ContainsFunc_cut_m.c), (25, slices_Sort_m.c)] [(4, [3, 4, 9, 10, 11], [3]), (2000025, [], [])] [(4, plan_CutOff_l4_m.c)] [(1000004, [.asrow 128 3 1 (fun _ => (eI .i64) (0 : Int))])] [(4, [0, 128, 384])] 0
noncomputable def plan_CutOff_e : Env := { plan_CutOff_env with nt := 26 }
theorem plan_CutOff_l4_tells : LoopTells plan_CutOff_e (loopOf 4 Try.f12) plan_CutOff_l4_m.c := plan_CutOff_l4_m.tells 576 (fun _ => by kernel_rfl) (fun _ _ _ _ => by kernel_rfl) (fun _ _ _ _ => by kernel_rfl) fun R f v N K => by kernel_rfl
theorem plan_CutOff_tells : Tells Try.prog 12 plan_CutOff_m.c := plan_CutOff_m.tells Try.func12 (show ∀ p, arun plan_CutOff_env Try.f12 (plan_CutOff_m.enc p).1 (plan_CutOff_m.enc p).2 = _ from fun p => by kernel_rfl) (loopsL [loopOf 4 Try.f12] (by kernel_rfl) ⟨lpT (by kernel_rfl) plan_CutOff_l4_tells, trivial⟩) (.cons plan_Parts_tells (.cons slices_ContainsFunc_cut_tells (.cons slices_Sort_tells .nil)))
noncomputable def plan_CutOff (m : SMine) : Option ((Sq Int)) := plan_CutOff_m.val m
theorem plan_CutOff_eq (m : SMine) : plan_CutOff m = (plan_CutOff_t m).get := plan_CutOff_m.val_eq (fun x => SMine.dec (aggL (gd x.1 0))) (fun p => by kernel_rfl) m
end Go.Proofs.Ytkgcicbipcifdaa.Ab
