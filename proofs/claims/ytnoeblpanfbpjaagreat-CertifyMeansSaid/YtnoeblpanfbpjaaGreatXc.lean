/- Mirrors of code, stage 11. -/
import Derived.Test.YtnoeblpanfbpjaaGreatXb
namespace Go.Proofs.YtnoeblpanfbpjaaGreat.Ab
open Go
attribute [local irreducible] arun



/-! minecontrol/minecontrolref09.Inner -/
noncomputable def ref09_Inner_l4_step (u4_0 _u4_1 : Int) (_u4_2 : Sq SPlace) (_u4_3 : Sq SRoad) (_u4_4 : Sq SFan) (u4_5 : Sq SDoor) (_u4_6 u4_7 : Sq Int) (_u4_8 _u4_9 _u4_10 _u4_11 : Int) (_u4_12 _u4_13 : Bool) (_u4_14 _u4_15 _u4_16 _u4_17 u4_18 u4_19 u4_20 : Int) : DT (LR (Int × Int × Int) (Int × Int) (Unit)) :=
 .ite (decide (u4_18 < ((u4_5.n : Nat) : Int))) (
 .ite (decide ((0 : Int) ≤ u4_18 ∧ u4_18 < ((u4_5.n : Nat) : Int))) (
 .ite ((u4_5.f (Int.toNat u4_18)).Road == u4_0) (
 .ite (decide ((0 : Int) ≤ u4_18 ∧ u4_18 < ((u4_5.n : Nat) : Int))) (
 .ite (decide ((0 : Int) ≤ u4_18 ∧ u4_18 < ((u4_7.n : Nat) : Int))) (
 .bind (ref08_Rest (u4_5.f (Int.toNat u4_18)) (u4_7.f (Int.toNat u4_18))) fun z0 =>
 .leaf (.next ((wr (u4_18 + (1 : Int))), (wr (u4_19 + z0.Low)), (wr (u4_20 + z0.High))))) (
 .fail)) (
 .fail)) (
 .leaf (.next ((wr (u4_18 + (1 : Int))), u4_19, u4_20)))) (
 .fail)) (
 .leaf (.l (u4_19, u4_20)))
noncomputable def ref09_Inner_l4_m : LpM := ⟨Int × Int × (Sq SPlace) × (Sq SRoad) × (Sq SFan) × (Sq SDoor) × (Sq Int) × (Sq Int) × Int × Int × Int × Int × Bool × Bool × Int × Int × Int × Int, Int × Int × Int, Int × Int, Unit, fun p => ⟨[(2, .int .i64 p.1.1), (3, .int .i64 p.1.2.1), (4, .ptr 0 0), (5, .ptr 64 0), (8, .ptr 128 0), (9, .ptr 576 0), (10, .ptr 832 0), (11, .int .i64 p.2.1)], [(0, .var [sqA 2 SPlace.enc p.1.2.2.1, sqA 10 SRoad.enc p.1.2.2.2.1, sqA 4 SFan.enc p.1.2.2.2.2.1, sqA 3 SDoor.enc p.1.2.2.2.2.2.1]), (64, .var [sqA 1 (eI .i64) p.1.2.2.2.2.2.2.1, sqA 1 (eI .i64) p.1.2.2.2.2.2.2.2.1]), (128, .var [.int .i64 (0 : Int), .int .i64 (0 : Int)]), (576, .var [.int .i64 p.1.2.2.2.2.2.2.2.2.1, .int .i64 p.1.2.2.2.2.2.2.2.2.2.1, .int .i64 p.1.2.2.2.2.2.2.2.2.2.2.1, .int .i64 p.1.2.2.2.2.2.2.2.2.2.2.2.1, .bool p.1.2.2.2.2.2.2.2.2.2.2.2.2.1, .bool p.1.2.2.2.2.2.2.2.2.2.2.2.2.2.1, .int .i64 p.1.2.2.2.2.2.2.2.2.2.2.2.2.2.2.1, .int .i64 p.1.2.2.2.2.2.2.2.2.2.2.2.2.2.2.2.1, .int .i64 p.1.2.2.2.2.2.2.2.2.2.2.2.2.2.2.2.2.1, .int .i64 p.1.2.2.2.2.2.2.2.2.2.2.2.2.2.2.2.2.2]), (832, .var [.int .i64 p.2.2.1, .int .i64 p.2.2.2])], 1024⟩, fun f v => ref09_Inner_l4_step f.1 f.2.1 f.2.2.1 f.2.2.2.1 f.2.2.2.2.1 f.2.2.2.2.2.1 f.2.2.2.2.2.2.1 f.2.2.2.2.2.2.2.1 f.2.2.2.2.2.2.2.2.1 f.2.2.2.2.2.2.2.2.2.1 f.2.2.2.2.2.2.2.2.2.2.1 f.2.2.2.2.2.2.2.2.2.2.2.1 f.2.2.2.2.2.2.2.2.2.2.2.2.1 f.2.2.2.2.2.2.2.2.2.2.2.2.2.1 f.2.2.2.2.2.2.2.2.2.2.2.2.2.2.1 f.2.2.2.2.2.2.2.2.2.2.2.2.2.2.2.1 f.2.2.2.2.2.2.2.2.2.2.2.2.2.2.2.2.1 f.2.2.2.2.2.2.2.2.2.2.2.2.2.2.2.2.2 v.1 v.2.1 v.2.2, true, (.exit 0), (fun x a => ⟨[(2, aget x.tm 2), (3, aget x.tm 3), (4, .ptr 0 0), (5, .ptr 64 0), (8, .ptr 128 0), (9, .ptr 576 0), (10, .ptr 832 0)], [(0, blkS x 0), (64, blkS x 64), (128, .var [.int .i64 (0 : Int), .int .i64 (0 : Int)]), (576, blkS x 576), (832, .var [.int .i64 a.1, .int .i64 a.2])], 1024⟩), .ret, (fun _ _ => ⟨[], [], 0⟩), c1, c1k⟩
noncomputable def ref09_Inner_l4 (u4_0 u4_1 : Int) (u4_2 : Sq SPlace) (u4_3 : Sq SRoad) (u4_4 : Sq SFan) (u4_5 : Sq SDoor) (u4_6 u4_7 : Sq Int) (u4_8 u4_9 u4_10 u4_11 : Int) (u4_12 u4_13 : Bool) (u4_14 u4_15 u4_16 u4_17 u4_18 u4_19 u4_20 : Int) : Option ((Int × Int) ⊕ (Unit)) := ref09_Inner_l4_m.val ((u4_0, u4_1, u4_2, u4_3, u4_4, u4_5, u4_6, u4_7, u4_8, u4_9, u4_10, u4_11, u4_12, u4_13, u4_14, u4_15, u4_16, u4_17), (u4_18, u4_19, u4_20))
theorem ref09_Inner_l4_eq (u4_0 u4_1 : Int) (u4_2 : Sq SPlace) (u4_3 : Sq SRoad) (u4_4 : Sq SFan) (u4_5 : Sq SDoor) (u4_6 u4_7 : Sq Int) (u4_8 u4_9 u4_10 u4_11 : Int) (u4_12 u4_13 : Bool) (u4_14 u4_15 u4_16 u4_17 u4_18 u4_19 u4_20 : Int) : ref09_Inner_l4 u4_0 u4_1 u4_2 u4_3 u4_4 u4_5 u4_6 u4_7 u4_8 u4_9 u4_10 u4_11 u4_12 u4_13 u4_14 u4_15 u4_16 u4_17 u4_18 u4_19 u4_20 = fixO (fun v : Int × Int × Int => ref09_Inner_l4_step u4_0 u4_1 u4_2 u4_3 u4_4 u4_5 u4_6 u4_7 u4_8 u4_9 u4_10 u4_11 u4_12 u4_13 u4_14 u4_15 u4_16 u4_17 v.1 v.2.1 v.2.2) (u4_18, u4_19, u4_20) := ref09_Inner_l4_m.val_eq (fun x => ((intA (aget x.tm 2), intA (aget x.tm 3), sqD SPlace.dec (cellS x 0 0), sqD SRoad.dec (cellS x 0 1), sqD SFan.dec (cellS x 0 2), sqD SDoor.dec (cellS x 0 3), sqD dI (cellS x 64 0), sqD dI (cellS x 64 1), intA (cellS x 576 0), intA (cellS x 576 1), intA (cellS x 576 2), intA (cellS x 576 3), boolA (cellS x 576 4), boolA (cellS x 576 5), intA (cellS x 576 6), intA (cellS x 576 7), intA (cellS x 576 8), intA (cellS x 576 9)), (intA (aget x.tm 11), intA (cellS x 832 0), intA (cellS x 832 1)))) (fun p => by kernel_rfl) ((u4_0, u4_1, u4_2, u4_3, u4_4, u4_5, u4_6, u4_7, u4_8, u4_9, u4_10, u4_11, u4_12, u4_13, u4_14, u4_15, u4_16, u4_17), (u4_18, u4_19, u4_20))
noncomputable def ref09_Inner_l14_step (u14_0 u14_1 : Int) (_u14_2 : Sq SPlace) (_u14_3 : Sq SRoad) (u14_4 : Sq SFan) (_u14_5 : Sq SDoor) (u14_6 _u14_7 : Sq Int) (u14_8 u14_9 u14_10 : Int) : DT (LR (Int × Int × Int) (Int × Int) (Unit)) :=
 .ite (decide (u14_10 < ((u14_4.n : Nat) : Int))) (
 .ite (decide ((0 : Int) ≤ u14_10 ∧ u14_10 < ((u14_4.n : Nat) : Int))) (
 .ite ((u14_4.f (Int.toNat u14_10)).Road == u14_0) (
 .ite (decide ((0 : Int) ≤ u14_10 ∧ u14_10 < ((u14_4.n : Nat) : Int))) (
 .ite (decide ((0 : Int) ≤ u14_10 ∧ u14_10 < ((u14_6.n : Nat) : Int))) (
 .bind (ref07_State (u14_4.f (Int.toNat u14_10)) (u14_6.f (Int.toNat u14_10)) u14_1) fun z1 =>
 .leaf (.next ((wr (u14_8 - z1.High)), (wr (u14_9 - z1.Low)), (wr (u14_10 + (1 : Int)))))) (
 .fail)) (
 .fail)) (
 .leaf (.next (u14_8, u14_9, (wr (u14_10 + (1 : Int))))))) (
 .fail)) (
 .leaf (.l (u14_8, u14_9)))
noncomputable def ref09_Inner_l14_m : LpM := ⟨Int × Int × (Sq SPlace) × (Sq SRoad) × (Sq SFan) × (Sq SDoor) × (Sq Int) × (Sq Int), Int × Int × Int, Int × Int, Unit, fun p => ⟨[(2, .int .i64 p.1.1), (3, .int .i64 p.1.2.1), (4, .ptr 0 0), (5, .ptr 64 0), (8, .ptr 128 0), (13, .ptr 1856 0), (14, .int .i64 p.2.2.2)], [(0, .var [sqA 2 SPlace.enc p.1.2.2.1, sqA 10 SRoad.enc p.1.2.2.2.1, sqA 4 SFan.enc p.1.2.2.2.2.1, sqA 3 SDoor.enc p.1.2.2.2.2.2.1]), (64, .var [sqA 1 (eI .i64) p.1.2.2.2.2.2.2.1, sqA 1 (eI .i64) p.1.2.2.2.2.2.2.2]), (128, .var [.int .i64 (0 : Int), .int .i64 (0 : Int)]), (1856, .var [.int .i64 p.2.1, .int .i64 p.2.2.1])], 3712⟩, fun f v => ref09_Inner_l14_step f.1 f.2.1 f.2.2.1 f.2.2.2.1 f.2.2.2.2.1 f.2.2.2.2.2.1 f.2.2.2.2.2.2.1 f.2.2.2.2.2.2.2 v.1 v.2.1 v.2.2, true, (.exit 2), (fun x a => ⟨[(8, .ptr 128 0), (13, .ptr 1856 0)], [(0, blkS x 0), (64, blkS x 64), (128, .var [.int .i64 (0 : Int), .int .i64 (0 : Int)]), (1856, .var [.int .i64 a.1, .int .i64 a.2])], 3712⟩), .ret, (fun _ _ => ⟨[], [], 0⟩), c1, c1k⟩
noncomputable def ref09_Inner_l14 (u14_0 u14_1 : Int) (u14_2 : Sq SPlace) (u14_3 : Sq SRoad) (u14_4 : Sq SFan) (u14_5 : Sq SDoor) (u14_6 u14_7 : Sq Int) (u14_8 u14_9 u14_10 : Int) : Option ((Int × Int) ⊕ (Unit)) := ref09_Inner_l14_m.val ((u14_0, u14_1, u14_2, u14_3, u14_4, u14_5, u14_6, u14_7), (u14_8, u14_9, u14_10))
theorem ref09_Inner_l14_eq (u14_0 u14_1 : Int) (u14_2 : Sq SPlace) (u14_3 : Sq SRoad) (u14_4 : Sq SFan) (u14_5 : Sq SDoor) (u14_6 u14_7 : Sq Int) (u14_8 u14_9 u14_10 : Int) : ref09_Inner_l14 u14_0 u14_1 u14_2 u14_3 u14_4 u14_5 u14_6 u14_7 u14_8 u14_9 u14_10 = fixO (fun v : Int × Int × Int => ref09_Inner_l14_step u14_0 u14_1 u14_2 u14_3 u14_4 u14_5 u14_6 u14_7 v.1 v.2.1 v.2.2) (u14_8, u14_9, u14_10) := ref09_Inner_l14_m.val_eq (fun x => ((intA (aget x.tm 2), intA (aget x.tm 3), sqD SPlace.dec (cellS x 0 0), sqD SRoad.dec (cellS x 0 1), sqD SFan.dec (cellS x 0 2), sqD SDoor.dec (cellS x 0 3), sqD dI (cellS x 64 0), sqD dI (cellS x 64 1)), (intA (cellS x 1856 0), intA (cellS x 1856 1), intA (aget x.tm 14)))) (fun p => by kernel_rfl) ((u14_0, u14_1, u14_2, u14_3, u14_4, u14_5, u14_6, u14_7), (u14_8, u14_9, u14_10))
noncomputable def ref09_Inner_t (a : SAir) (s : SSetting) (road flow : Int) : DT (SSpan) :=
 .ite (decide ((0 : Int) ≤ road ∧ road < ((a.Mine.Roads.n : Nat) : Int))) (
 .sum (ref09_Inner_l4 road flow a.Mine.Places a.Mine.Roads a.Fans a.Doors s.Fans s.Doors (a.Mine.Roads.f (Int.toNat road)).From (a.Mine.Roads.f (Int.toNat road)).To (a.Mine.Roads.f (Int.toNat road)).Length (a.Mine.Roads.f (Int.toNat road)).Area (a.Mine.Roads.f (Int.toNat road)).Walk (a.Mine.Roads.f (Int.toNat road)).Closed (a.Mine.Roads.f (Int.toNat road)).Rest.Low (a.Mine.Roads.f (Int.toNat road)).Rest.High (a.Mine.Roads.f (Int.toNat road)).Lift.Low (a.Mine.Roads.f (Int.toNat road)).Lift.High (0 : Int) (a.Mine.Roads.f (Int.toNat road)).Rest.Low (a.Mine.Roads.f (Int.toNat road)).Rest.High) (fun y0 =>
 .ite (decide (flow < (0 : Int))) (
 .sum (ref09_Inner_l14 road flow a.Mine.Places a.Mine.Roads a.Fans a.Doors s.Fans s.Doors (wr ((wr (0 - (wr ((wr (y0.2 * flow)) * flow)))) - (a.Mine.Roads.f (Int.toNat road)).Lift.High)) (wr ((wr (0 - (wr ((wr (y0.1 * flow)) * flow)))) - (a.Mine.Roads.f (Int.toNat road)).Lift.Low)) (0 : Int)) (fun y1 =>
 .leaf (SSpan.mk y1.1 y1.2)) (fun _ => .fail)) (
 .sum (ref09_Inner_l14 road flow a.Mine.Places a.Mine.Roads a.Fans a.Doors s.Fans s.Doors (wr ((wr ((wr (y0.1 * flow)) * flow)) - (a.Mine.Roads.f (Int.toNat road)).Lift.High)) (wr ((wr ((wr (y0.2 * flow)) * flow)) - (a.Mine.Roads.f (Int.toNat road)).Lift.Low)) (0 : Int)) (fun y2 =>
 .leaf (SSpan.mk y2.1 y2.2)) (fun _ => .fail))) (fun _ => .fail)) (
 .fail)
noncomputable def ref09_Inner_m : FnM := flM (SAir × SSetting × Int × Int) (SSpan) (fun p => ([.agg (SAir.enc p.1), .agg (SSetting.enc p.2.1), .int .i64 p.2.2.1, .int .i64 p.2.2.2], [])) (fun p => ref09_Inner_t p.1 p.2.1 p.2.2.1 p.2.2.2) (fun r => .agg (SSpan.enc r)) (fun _ => rfl)
noncomputable def ref09_Inner_env : Env := envM [(58, ref08_Rest_m.c), (59, ref07_State_m.c)] [(4, [2, 3, 4, 5, 8, 9, 10, 11], [2, 3, 4, 5, 8, 9, 10]), (14, [2, 3, 4, 5, 8, 13, 14], [8, 13])] [(4, ref09_Inner_l4_m.c), (14, ref09_Inner_l14_m.c)] [] [(4, [0, 64, 128, 576, 832]), (14, [0, 64, 128, 1856])] 0
noncomputable def ref09_Inner_e : Env := { ref09_Inner_env with nt := 138 }
theorem ref09_Inner_l4_tells : LoopTells ref09_Inner_e (loopOf 4 Tryz.f73) ref09_Inner_l4_m.c := ref09_Inner_l4_m.tells 1024 (fun _ => by kernel_rfl) (fun _ _ _ _ => by kernel_rfl) (fun _ _ _ _ => by kernel_rfl) fun R f v N K => by kernel_rfl
theorem ref09_Inner_l14_tells : LoopTells ref09_Inner_e (loopOf 14 Tryz.f73) ref09_Inner_l14_m.c := ref09_Inner_l14_m.tells 3712 (fun _ => by kernel_rfl) (fun _ _ _ _ => by kernel_rfl) (fun _ _ _ _ => by kernel_rfl) fun R f v N K => by kernel_rfl
theorem ref09_Inner_tells : Tells Tryz.prog 73 ref09_Inner_m.c := ref09_Inner_m.tells Tryz.func73 (show ∀ p, arun ref09_Inner_env Tryz.f73 (ref09_Inner_m.enc p).1 (ref09_Inner_m.enc p).2 = _ from fun p => by kernel_rfl) (loopsL [loopOf 4 Tryz.f73, loopOf 14 Tryz.f73] (by kernel_rfl) ⟨lpT (by kernel_rfl) ref09_Inner_l4_tells, ⟨lpT (by kernel_rfl) ref09_Inner_l14_tells, trivial⟩⟩) (.cons ref08_Rest_tells (.cons ref07_State_tells .nil))
noncomputable def ref09_Inner (a : SAir) (s : SSetting) (road flow : Int) : Option (SSpan) := ref09_Inner_m.val (a, s, road, flow)
theorem ref09_Inner_eq (a : SAir) (s : SSetting) (road flow : Int) : ref09_Inner a s road flow = (ref09_Inner_t a s road flow).get := ref09_Inner_m.val_eq (fun x => (SAir.dec (aggL (gd x.1 0)), SSetting.dec (aggL (gd x.1 1)), intA (gd x.1 2), intA (gd x.1 3))) (fun p => by kernel_rfl) (a, s, road, flow)

/-! minecontrol/minecontrolref09.Lowest -/
noncomputable def ref09_Lowest_l2_step (u2_0 u2_1 : Int) (u2_2 : Sq SPlace) (u2_3 : Sq SRoad) (u2_4 : Sq SFan) (u2_5 : Sq SDoor) (u2_6 u2_7 : Sq Int) (u2_8 u2_9 : Int) : DT (LR (Int × Int) (Int) (Unit)) :=
 .ite (decide (u2_8 < u2_9)) (
 .bind (ref09_Inner (SAir.mk (SMine.mk u2_2 u2_3) u2_4 u2_5) (SSetting.mk u2_6 u2_7) u2_0 (wr (u2_8 + (wr (Int.tdiv (wr ((wr (u2_9 - u2_8)) + (1 : Int))) (2 : Int)))))) fun z0 =>
 .ite (decide (z0.High ≤ u2_1)) (
 .leaf (.next ((wr (u2_8 + (wr (Int.tdiv (wr ((wr (u2_9 - u2_8)) + (1 : Int))) (2 : Int))))), u2_9))) (
 .leaf (.next (u2_8, (wr ((wr (u2_8 + (wr (Int.tdiv (wr ((wr (u2_9 - u2_8)) + (1 : Int))) (2 : Int))))) - (1 : Int))))))) (
 .leaf (.l u2_8))
noncomputable def ref09_Lowest_l2_m : LpM := ⟨Int × Int × (Sq SPlace) × (Sq SRoad) × (Sq SFan) × (Sq SDoor) × (Sq Int) × (Sq Int), Int × Int, Int, Unit, fun p => ⟨[(2, .int .i64 p.1.1), (3, .int .i64 p.1.2.1), (4, .ptr 0 0), (5, .ptr 64 0), (9, .int .i64 p.2.1), (10, .int .i64 p.2.2)], [(0, .var [sqA 2 SPlace.enc p.1.2.2.1, sqA 10 SRoad.enc p.1.2.2.2.1, sqA 4 SFan.enc p.1.2.2.2.2.1, sqA 3 SDoor.enc p.1.2.2.2.2.2.1]), (64, .var [sqA 1 (eI .i64) p.1.2.2.2.2.2.2.1, sqA 1 (eI .i64) p.1.2.2.2.2.2.2.2])], 320⟩, fun f v => ref09_Lowest_l2_step f.1 f.2.1 f.2.2.1 f.2.2.2.1 f.2.2.2.2.1 f.2.2.2.2.2.1 f.2.2.2.2.2.2.1 f.2.2.2.2.2.2.2 v.1 v.2, true, (.exit 0), (fun x a => ⟨[(9, .int .i64 a)], [(0, blkS x 0), (64, blkS x 64)], 320⟩), .ret, (fun _ _ => ⟨[], [], 0⟩), c1, c1k⟩
noncomputable def ref09_Lowest_l2 (u2_0 u2_1 : Int) (u2_2 : Sq SPlace) (u2_3 : Sq SRoad) (u2_4 : Sq SFan) (u2_5 : Sq SDoor) (u2_6 u2_7 : Sq Int) (u2_8 u2_9 : Int) : Option ((Int) ⊕ (Unit)) := ref09_Lowest_l2_m.val ((u2_0, u2_1, u2_2, u2_3, u2_4, u2_5, u2_6, u2_7), (u2_8, u2_9))
theorem ref09_Lowest_l2_eq (u2_0 u2_1 : Int) (u2_2 : Sq SPlace) (u2_3 : Sq SRoad) (u2_4 : Sq SFan) (u2_5 : Sq SDoor) (u2_6 u2_7 : Sq Int) (u2_8 u2_9 : Int) : ref09_Lowest_l2 u2_0 u2_1 u2_2 u2_3 u2_4 u2_5 u2_6 u2_7 u2_8 u2_9 = fixO (fun v : Int × Int => ref09_Lowest_l2_step u2_0 u2_1 u2_2 u2_3 u2_4 u2_5 u2_6 u2_7 v.1 v.2) (u2_8, u2_9) := ref09_Lowest_l2_m.val_eq (fun x => ((intA (aget x.tm 2), intA (aget x.tm 3), sqD SPlace.dec (cellS x 0 0), sqD SRoad.dec (cellS x 0 1), sqD SFan.dec (cellS x 0 2), sqD SDoor.dec (cellS x 0 3), sqD dI (cellS x 64 0), sqD dI (cellS x 64 1)), (intA (aget x.tm 9), intA (aget x.tm 10)))) (fun p => by kernel_rfl) ((u2_0, u2_1, u2_2, u2_3, u2_4, u2_5, u2_6, u2_7), (u2_8, u2_9))
noncomputable def ref09_Lowest_t (a : SAir) (s : SSetting) (road pressure : Int) : DT (Int) :=
 .sum (ref09_Lowest_l2 road pressure a.Mine.Places a.Mine.Roads a.Fans a.Doors s.Fans s.Doors (-1048577 : Int) (1048576 : Int)) (fun y0 =>
 .leaf y0) (fun _ => .fail)
noncomputable def ref09_Lowest_m : FnM := flM (SAir × SSetting × Int × Int) (Int) (fun p => ([.agg (SAir.enc p.1), .agg (SSetting.enc p.2.1), .int .i64 p.2.2.1, .int .i64 p.2.2.2], [])) (fun p => ref09_Lowest_t p.1 p.2.1 p.2.2.1 p.2.2.2) (fun r => .int .i64 r) (fun _ => rfl)
noncomputable def ref09_Lowest_env : Env := envM [(73, ref09_Inner_m.c)] [(2, [2, 3, 4, 5, 9, 10], [9])] [(2, ref09_Lowest_l2_m.c)] [] [(2, [0, 64])] 0
noncomputable def ref09_Lowest_e : Env := { ref09_Lowest_env with nt := 34 }
theorem ref09_Lowest_l2_tells : LoopTells ref09_Lowest_e (loopOf 2 Tryz.f45) ref09_Lowest_l2_m.c := ref09_Lowest_l2_m.tells 320 (fun _ => by kernel_rfl) (fun _ _ _ _ => by kernel_rfl) (fun _ _ _ _ => by kernel_rfl) fun R f v N K => by kernel_rfl
theorem ref09_Lowest_tells : Tells Tryz.prog 45 ref09_Lowest_m.c := ref09_Lowest_m.tells Tryz.func45 (show ∀ p, arun ref09_Lowest_env Tryz.f45 (ref09_Lowest_m.enc p).1 (ref09_Lowest_m.enc p).2 = _ from fun p => by kernel_rfl) (loopsL [loopOf 2 Tryz.f45] (by kernel_rfl) ⟨lpT (by kernel_rfl) ref09_Lowest_l2_tells, trivial⟩) (.cons ref09_Inner_tells .nil)
noncomputable def ref09_Lowest (a : SAir) (s : SSetting) (road pressure : Int) : Option (Int) := ref09_Lowest_m.val (a, s, road, pressure)
theorem ref09_Lowest_eq (a : SAir) (s : SSetting) (road pressure : Int) : ref09_Lowest a s road pressure = (ref09_Lowest_t a s road pressure).get := ref09_Lowest_m.val_eq (fun x => (SAir.dec (aggL (gd x.1 0)), SSetting.dec (aggL (gd x.1 1)), intA (gd x.1 2), intA (gd x.1 3))) (fun p => by kernel_rfl) (a, s, road, pressure)

/-! minecontrol/minecontrolref09.Highest -/
noncomputable def ref09_Highest_l2_step (u2_0 u2_1 : Int) (u2_2 : Sq SPlace) (u2_3 : Sq SRoad) (u2_4 : Sq SFan) (u2_5 : Sq SDoor) (u2_6 u2_7 : Sq Int) (u2_8 u2_9 : Int) : DT (LR (Int × Int) (Int) (Unit)) :=
 .ite (decide (u2_9 < u2_8)) (
 .bind (ref09_Inner (SAir.mk (SMine.mk u2_2 u2_3) u2_4 u2_5) (SSetting.mk u2_6 u2_7) u2_0 (wr (u2_9 + (wr (Int.tdiv (wr (u2_8 - u2_9)) (2 : Int)))))) fun z0 =>
 .ite (decide (z0.Low ≥ u2_1)) (
 .leaf (.next ((wr (u2_9 + (wr (Int.tdiv (wr (u2_8 - u2_9)) (2 : Int))))), u2_9))) (
 .leaf (.next (u2_8, (wr ((wr (u2_9 + (wr (Int.tdiv (wr (u2_8 - u2_9)) (2 : Int))))) + (1 : Int))))))) (
 .leaf (.l u2_9))
noncomputable def ref09_Highest_l2_m : LpM := ⟨Int × Int × (Sq SPlace) × (Sq SRoad) × (Sq SFan) × (Sq SDoor) × (Sq Int) × (Sq Int), Int × Int, Int, Unit, fun p => ⟨[(2, .int .i64 p.1.1), (3, .int .i64 p.1.2.1), (4, .ptr 0 0), (5, .ptr 64 0), (9, .int .i64 p.2.2), (10, .int .i64 p.2.1)], [(0, .var [sqA 2 SPlace.enc p.1.2.2.1, sqA 10 SRoad.enc p.1.2.2.2.1, sqA 4 SFan.enc p.1.2.2.2.2.1, sqA 3 SDoor.enc p.1.2.2.2.2.2.1]), (64, .var [sqA 1 (eI .i64) p.1.2.2.2.2.2.2.1, sqA 1 (eI .i64) p.1.2.2.2.2.2.2.2])], 320⟩, fun f v => ref09_Highest_l2_step f.1 f.2.1 f.2.2.1 f.2.2.2.1 f.2.2.2.2.1 f.2.2.2.2.2.1 f.2.2.2.2.2.2.1 f.2.2.2.2.2.2.2 v.1 v.2, true, (.exit 0), (fun x a => ⟨[(9, .int .i64 a)], [(0, blkS x 0), (64, blkS x 64)], 320⟩), .ret, (fun _ _ => ⟨[], [], 0⟩), c1, c1k⟩
noncomputable def ref09_Highest_l2 (u2_0 u2_1 : Int) (u2_2 : Sq SPlace) (u2_3 : Sq SRoad) (u2_4 : Sq SFan) (u2_5 : Sq SDoor) (u2_6 u2_7 : Sq Int) (u2_8 u2_9 : Int) : Option ((Int) ⊕ (Unit)) := ref09_Highest_l2_m.val ((u2_0, u2_1, u2_2, u2_3, u2_4, u2_5, u2_6, u2_7), (u2_8, u2_9))
theorem ref09_Highest_l2_eq (u2_0 u2_1 : Int) (u2_2 : Sq SPlace) (u2_3 : Sq SRoad) (u2_4 : Sq SFan) (u2_5 : Sq SDoor) (u2_6 u2_7 : Sq Int) (u2_8 u2_9 : Int) : ref09_Highest_l2 u2_0 u2_1 u2_2 u2_3 u2_4 u2_5 u2_6 u2_7 u2_8 u2_9 = fixO (fun v : Int × Int => ref09_Highest_l2_step u2_0 u2_1 u2_2 u2_3 u2_4 u2_5 u2_6 u2_7 v.1 v.2) (u2_8, u2_9) := ref09_Highest_l2_m.val_eq (fun x => ((intA (aget x.tm 2), intA (aget x.tm 3), sqD SPlace.dec (cellS x 0 0), sqD SRoad.dec (cellS x 0 1), sqD SFan.dec (cellS x 0 2), sqD SDoor.dec (cellS x 0 3), sqD dI (cellS x 64 0), sqD dI (cellS x 64 1)), (intA (aget x.tm 10), intA (aget x.tm 9)))) (fun p => by kernel_rfl) ((u2_0, u2_1, u2_2, u2_3, u2_4, u2_5, u2_6, u2_7), (u2_8, u2_9))
noncomputable def ref09_Highest_t (a : SAir) (s : SSetting) (road pressure : Int) : DT (Int) :=
 .sum (ref09_Highest_l2 road pressure a.Mine.Places a.Mine.Roads a.Fans a.Doors s.Fans s.Doors (1048577 : Int) (-1048576 : Int)) (fun y0 =>
 .leaf y0) (fun _ => .fail)
noncomputable def ref09_Highest_m : FnM := flM (SAir × SSetting × Int × Int) (Int) (fun p => ([.agg (SAir.enc p.1), .agg (SSetting.enc p.2.1), .int .i64 p.2.2.1, .int .i64 p.2.2.2], [])) (fun p => ref09_Highest_t p.1 p.2.1 p.2.2.1 p.2.2.2) (fun r => .int .i64 r) (fun _ => rfl)
noncomputable def ref09_Highest_env : Env := envM [(73, ref09_Inner_m.c)] [(2, [2, 3, 4, 5, 9, 10], [9])] [(2, ref09_Highest_l2_m.c)] [] [(2, [0, 64])] 0
noncomputable def ref09_Highest_e : Env := { ref09_Highest_env with nt := 33 }
theorem ref09_Highest_l2_tells : LoopTells ref09_Highest_e (loopOf 2 Tryz.f46) ref09_Highest_l2_m.c := ref09_Highest_l2_m.tells 320 (fun _ => by kernel_rfl) (fun _ _ _ _ => by kernel_rfl) (fun _ _ _ _ => by kernel_rfl) fun R f v N K => by kernel_rfl
theorem ref09_Highest_tells : Tells Tryz.prog 46 ref09_Highest_m.c := ref09_Highest_m.tells Tryz.func46 (show ∀ p, arun ref09_Highest_env Tryz.f46 (ref09_Highest_m.enc p).1 (ref09_Highest_m.enc p).2 = _ from fun p => by kernel_rfl) (loopsL [loopOf 2 Tryz.f46] (by kernel_rfl) ⟨lpT (by kernel_rfl) ref09_Highest_l2_tells, trivial⟩) (.cons ref09_Inner_tells .nil)
noncomputable def ref09_Highest (a : SAir) (s : SSetting) (road pressure : Int) : Option (Int) := ref09_Highest_m.val (a, s, road, pressure)
theorem ref09_Highest_eq (a : SAir) (s : SSetting) (road pressure : Int) : ref09_Highest a s road pressure = (ref09_Highest_t a s road pressure).get := ref09_Highest_m.val_eq (fun x => (SAir.dec (aggL (gd x.1 0)), SSetting.dec (aggL (gd x.1 1)), intA (gd x.1 2), intA (gd x.1 3))) (fun p => by kernel_rfl) (a, s, road, pressure)

/-! minecontrol/minecontrolref10.Lowest -/
noncomputable def ref10_Lowest_l3_step (u3_0 : Sq Int) (u3_1 : Int) (u3_2 : Sq SPlace) (u3_3 : Sq SRoad) (u3_4 : Sq SFan) (u3_5 : Sq SDoor) (u3_6 u3_7 : Sq Int) (u3_8 u3_9 : Int) : DT (LR (Int × Int) (Int) (Unit)) :=
 .ite (decide (u3_8 < ((u3_3.n : Nat) : Int))) (
 .ite (decide ((0 : Int) ≤ u3_8 ∧ u3_8 < ((u3_3.n : Nat) : Int))) (
 .ite (u3_3.f (Int.toNat u3_8)).Closed (
 .leaf (.next ((wr (u3_8 + (1 : Int))), u3_9))) (
 .ite ((u3_3.f (Int.toNat u3_8)).From == u3_1) (
 .ite (decide ((0 : Int) ≤ (u3_3.f (Int.toNat u3_8)).From ∧ (u3_3.f (Int.toNat u3_8)).From < ((u3_0.n : Nat) : Int))) (
 .ite (decide ((0 : Int) ≤ (u3_3.f (Int.toNat u3_8)).To ∧ (u3_3.f (Int.toNat u3_8)).To < ((u3_0.n : Nat) : Int))) (
 .bind (ref09_Lowest (SAir.mk (SMine.mk u3_2 u3_3) u3_4 u3_5) (SSetting.mk u3_6 u3_7) u3_8 (wr ((u3_0.f (Int.toNat (u3_3.f (Int.toNat u3_8)).From)) - (u3_0.f (Int.toNat (u3_3.f (Int.toNat u3_8)).To))))) fun z0 =>
 .ite ((u3_3.f (Int.toNat u3_8)).To == u3_1) (
 .ite (decide ((0 : Int) ≤ (u3_3.f (Int.toNat u3_8)).From ∧ (u3_3.f (Int.toNat u3_8)).From < ((u3_0.n : Nat) : Int))) (
 .ite (decide ((0 : Int) ≤ (u3_3.f (Int.toNat u3_8)).To ∧ (u3_3.f (Int.toNat u3_8)).To < ((u3_0.n : Nat) : Int))) (
 .bind (ref09_Highest (SAir.mk (SMine.mk u3_2 u3_3) u3_4 u3_5) (SSetting.mk u3_6 u3_7) u3_8 (wr ((u3_0.f (Int.toNat (u3_3.f (Int.toNat u3_8)).From)) - (u3_0.f (Int.toNat (u3_3.f (Int.toNat u3_8)).To))))) fun z1 =>
 .leaf (.next ((wr (u3_8 + (1 : Int))), (wr ((wr (u3_9 + z0)) - z1))))) (
 .fail)) (
 .fail)) (
 .leaf (.next ((wr (u3_8 + (1 : Int))), (wr (u3_9 + z0)))))) (
 .fail)) (
 .fail)) (
 .ite ((u3_3.f (Int.toNat u3_8)).To == u3_1) (
 .ite (decide ((0 : Int) ≤ (u3_3.f (Int.toNat u3_8)).From ∧ (u3_3.f (Int.toNat u3_8)).From < ((u3_0.n : Nat) : Int))) (
 .ite (decide ((0 : Int) ≤ (u3_3.f (Int.toNat u3_8)).To ∧ (u3_3.f (Int.toNat u3_8)).To < ((u3_0.n : Nat) : Int))) (
 .bind (ref09_Highest (SAir.mk (SMine.mk u3_2 u3_3) u3_4 u3_5) (SSetting.mk u3_6 u3_7) u3_8 (wr ((u3_0.f (Int.toNat (u3_3.f (Int.toNat u3_8)).From)) - (u3_0.f (Int.toNat (u3_3.f (Int.toNat u3_8)).To))))) fun z2 =>
 .leaf (.next ((wr (u3_8 + (1 : Int))), (wr (u3_9 - z2))))) (
 .fail)) (
 .fail)) (
 .leaf (.next ((wr (u3_8 + (1 : Int))), u3_9)))))) (
 .fail)) (
 .leaf (.l u3_9))
noncomputable def ref10_Lowest_l3_m : LpM := ⟨(Sq Int) × Int × (Sq SPlace) × (Sq SRoad) × (Sq SFan) × (Sq SDoor) × (Sq Int) × (Sq Int), Int × Int, Int, Unit, fun p => ⟨[(2, sqA 1 (eI .i64) p.1.1), (3, .int .i64 p.1.2.1), (4, .ptr 0 0), (5, .ptr 64 0), (9, .int .i64 p.2.2), (10, .int .i64 p.2.1)], [(0, .var [sqA 2 SPlace.enc p.1.2.2.1, sqA 10 SRoad.enc p.1.2.2.2.1, sqA 4 SFan.enc p.1.2.2.2.2.1, sqA 3 SDoor.enc p.1.2.2.2.2.2.1]), (64, .var [sqA 1 (eI .i64) p.1.2.2.2.2.2.2.1, sqA 1 (eI .i64) p.1.2.2.2.2.2.2.2])], 320⟩, fun f v => ref10_Lowest_l3_step f.1 f.2.1 f.2.2.1 f.2.2.2.1 f.2.2.2.2.1 f.2.2.2.2.2.1 f.2.2.2.2.2.2.1 f.2.2.2.2.2.2.2 v.1 v.2, true, (.exit 0), (fun x a => ⟨[(9, .int .i64 a)], [(0, blkS x 0), (64, blkS x 64)], 320⟩), .ret, (fun _ _ => ⟨[], [], 0⟩), c1, c1k⟩
noncomputable def ref10_Lowest_l3 (u3_0 : Sq Int) (u3_1 : Int) (u3_2 : Sq SPlace) (u3_3 : Sq SRoad) (u3_4 : Sq SFan) (u3_5 : Sq SDoor) (u3_6 u3_7 : Sq Int) (u3_8 u3_9 : Int) : Option ((Int) ⊕ (Unit)) := ref10_Lowest_l3_m.val ((u3_0, u3_1, u3_2, u3_3, u3_4, u3_5, u3_6, u3_7), (u3_8, u3_9))
theorem ref10_Lowest_l3_eq (u3_0 : Sq Int) (u3_1 : Int) (u3_2 : Sq SPlace) (u3_3 : Sq SRoad) (u3_4 : Sq SFan) (u3_5 : Sq SDoor) (u3_6 u3_7 : Sq Int) (u3_8 u3_9 : Int) : ref10_Lowest_l3 u3_0 u3_1 u3_2 u3_3 u3_4 u3_5 u3_6 u3_7 u3_8 u3_9 = fixO (fun v : Int × Int => ref10_Lowest_l3_step u3_0 u3_1 u3_2 u3_3 u3_4 u3_5 u3_6 u3_7 v.1 v.2) (u3_8, u3_9) := ref10_Lowest_l3_m.val_eq (fun x => ((sqD dI (aget x.tm 2), intA (aget x.tm 3), sqD SPlace.dec (cellS x 0 0), sqD SRoad.dec (cellS x 0 1), sqD SFan.dec (cellS x 0 2), sqD SDoor.dec (cellS x 0 3), sqD dI (cellS x 64 0), sqD dI (cellS x 64 1)), (intA (aget x.tm 10), intA (aget x.tm 9)))) (fun p => by kernel_rfl) ((u3_0, u3_1, u3_2, u3_3, u3_4, u3_5, u3_6, u3_7), (u3_8, u3_9))
noncomputable def ref10_Lowest_t (a : SAir) (s : SSetting) (pressures : Sq Int) (place : Int) : DT (Int) :=
 .sum (ref10_Lowest_l3 pressures place a.Mine.Places a.Mine.Roads a.Fans a.Doors s.Fans s.Doors (0 : Int) (0 : Int)) (fun y0 =>
 .leaf y0) (fun _ => .fail)
noncomputable def ref10_Lowest_m : FnM := flM (SAir × SSetting × (Sq Int) × Int) (Int) (fun p => ([.agg (SAir.enc p.1), .agg (SSetting.enc p.2.1), sqA 1 (eI .i64) p.2.2.1, .int .i64 p.2.2.2], [])) (fun p => ref10_Lowest_t p.1 p.2.1 p.2.2.1 p.2.2.2) (fun r => .int .i64 r) (fun _ => rfl)
noncomputable def ref10_Lowest_env : Env := envM [(45, ref09_Lowest_m.c), (46, ref09_Highest_m.c)] [(3, [2, 3, 4, 5, 9, 10], [9])] [(3, ref10_Lowest_l3_m.c)] [] [(3, [0, 64])] 0
noncomputable def ref10_Lowest_e : Env := { ref10_Lowest_env with nt := 71 }
theorem ref10_Lowest_l3_tells : LoopTells ref10_Lowest_e (loopOf 3 Tryz.f39) ref10_Lowest_l3_m.c := ref10_Lowest_l3_m.tells 320 (fun _ => by kernel_rfl) (fun _ _ _ _ => by kernel_rfl) (fun _ _ _ _ => by kernel_rfl) fun R f v N K => by kernel_rfl
theorem ref10_Lowest_tells : Tells Tryz.prog 39 ref10_Lowest_m.c := ref10_Lowest_m.tells Tryz.func39 (show ∀ p, arun ref10_Lowest_env Tryz.f39 (ref10_Lowest_m.enc p).1 (ref10_Lowest_m.enc p).2 = _ from fun p => by kernel_rfl) (loopsL [loopOf 3 Tryz.f39] (by kernel_rfl) ⟨lpT (by kernel_rfl) ref10_Lowest_l3_tells, trivial⟩) (.cons ref09_Lowest_tells (.cons ref09_Highest_tells .nil))
noncomputable def ref10_Lowest (a : SAir) (s : SSetting) (pressures : Sq Int) (place : Int) : Option (Int) := ref10_Lowest_m.val (a, s, pressures, place)
theorem ref10_Lowest_eq (a : SAir) (s : SSetting) (pressures : Sq Int) (place : Int) : ref10_Lowest a s pressures place = (ref10_Lowest_t a s pressures place).get := ref10_Lowest_m.val_eq (fun x => (SAir.dec (aggL (gd x.1 0)), SSetting.dec (aggL (gd x.1 1)), sqD dI (gd x.1 2), intA (gd x.1 3))) (fun p => by kernel_rfl) (a, s, pressures, place)

/-! minecontrol/minecontrolref10.Highest -/
noncomputable def ref10_Highest_l3_step (u3_0 : Sq Int) (u3_1 : Int) (u3_2 : Sq SPlace) (u3_3 : Sq SRoad) (u3_4 : Sq SFan) (u3_5 : Sq SDoor) (u3_6 u3_7 : Sq Int) (u3_8 u3_9 : Int) : DT (LR (Int × Int) (Int) (Unit)) :=
 .ite (decide (u3_8 < ((u3_3.n : Nat) : Int))) (
 .ite (decide ((0 : Int) ≤ u3_8 ∧ u3_8 < ((u3_3.n : Nat) : Int))) (
 .ite (u3_3.f (Int.toNat u3_8)).Closed (
 .leaf (.next ((wr (u3_8 + (1 : Int))), u3_9))) (
 .ite ((u3_3.f (Int.toNat u3_8)).From == u3_1) (
 .ite (decide ((0 : Int) ≤ (u3_3.f (Int.toNat u3_8)).From ∧ (u3_3.f (Int.toNat u3_8)).From < ((u3_0.n : Nat) : Int))) (
 .ite (decide ((0 : Int) ≤ (u3_3.f (Int.toNat u3_8)).To ∧ (u3_3.f (Int.toNat u3_8)).To < ((u3_0.n : Nat) : Int))) (
 .bind (ref09_Highest (SAir.mk (SMine.mk u3_2 u3_3) u3_4 u3_5) (SSetting.mk u3_6 u3_7) u3_8 (wr ((u3_0.f (Int.toNat (u3_3.f (Int.toNat u3_8)).From)) - (u3_0.f (Int.toNat (u3_3.f (Int.toNat u3_8)).To))))) fun z0 =>
 .ite ((u3_3.f (Int.toNat u3_8)).To == u3_1) (
 .ite (decide ((0 : Int) ≤ (u3_3.f (Int.toNat u3_8)).From ∧ (u3_3.f (Int.toNat u3_8)).From < ((u3_0.n : Nat) : Int))) (
 .ite (decide ((0 : Int) ≤ (u3_3.f (Int.toNat u3_8)).To ∧ (u3_3.f (Int.toNat u3_8)).To < ((u3_0.n : Nat) : Int))) (
 .bind (ref09_Lowest (SAir.mk (SMine.mk u3_2 u3_3) u3_4 u3_5) (SSetting.mk u3_6 u3_7) u3_8 (wr ((u3_0.f (Int.toNat (u3_3.f (Int.toNat u3_8)).From)) - (u3_0.f (Int.toNat (u3_3.f (Int.toNat u3_8)).To))))) fun z1 =>
 .leaf (.next ((wr (u3_8 + (1 : Int))), (wr ((wr (u3_9 + z0)) - z1))))) (
 .fail)) (
 .fail)) (
 .leaf (.next ((wr (u3_8 + (1 : Int))), (wr (u3_9 + z0)))))) (
 .fail)) (
 .fail)) (
 .ite ((u3_3.f (Int.toNat u3_8)).To == u3_1) (
 .ite (decide ((0 : Int) ≤ (u3_3.f (Int.toNat u3_8)).From ∧ (u3_3.f (Int.toNat u3_8)).From < ((u3_0.n : Nat) : Int))) (
 .ite (decide ((0 : Int) ≤ (u3_3.f (Int.toNat u3_8)).To ∧ (u3_3.f (Int.toNat u3_8)).To < ((u3_0.n : Nat) : Int))) (
 .bind (ref09_Lowest (SAir.mk (SMine.mk u3_2 u3_3) u3_4 u3_5) (SSetting.mk u3_6 u3_7) u3_8 (wr ((u3_0.f (Int.toNat (u3_3.f (Int.toNat u3_8)).From)) - (u3_0.f (Int.toNat (u3_3.f (Int.toNat u3_8)).To))))) fun z2 =>
 .leaf (.next ((wr (u3_8 + (1 : Int))), (wr (u3_9 - z2))))) (
 .fail)) (
 .fail)) (
 .leaf (.next ((wr (u3_8 + (1 : Int))), u3_9)))))) (
 .fail)) (
 .leaf (.l u3_9))
noncomputable def ref10_Highest_l3_m : LpM := ⟨(Sq Int) × Int × (Sq SPlace) × (Sq SRoad) × (Sq SFan) × (Sq SDoor) × (Sq Int) × (Sq Int), Int × Int, Int, Unit, fun p => ⟨[(2, sqA 1 (eI .i64) p.1.1), (3, .int .i64 p.1.2.1), (4, .ptr 0 0), (5, .ptr 64 0), (9, .int .i64 p.2.2), (10, .int .i64 p.2.1)], [(0, .var [sqA 2 SPlace.enc p.1.2.2.1, sqA 10 SRoad.enc p.1.2.2.2.1, sqA 4 SFan.enc p.1.2.2.2.2.1, sqA 3 SDoor.enc p.1.2.2.2.2.2.1]), (64, .var [sqA 1 (eI .i64) p.1.2.2.2.2.2.2.1, sqA 1 (eI .i64) p.1.2.2.2.2.2.2.2])], 320⟩, fun f v => ref10_Highest_l3_step f.1 f.2.1 f.2.2.1 f.2.2.2.1 f.2.2.2.2.1 f.2.2.2.2.2.1 f.2.2.2.2.2.2.1 f.2.2.2.2.2.2.2 v.1 v.2, true, (.exit 0), (fun x a => ⟨[(9, .int .i64 a)], [(0, blkS x 0), (64, blkS x 64)], 320⟩), .ret, (fun _ _ => ⟨[], [], 0⟩), c1, c1k⟩
noncomputable def ref10_Highest_l3 (u3_0 : Sq Int) (u3_1 : Int) (u3_2 : Sq SPlace) (u3_3 : Sq SRoad) (u3_4 : Sq SFan) (u3_5 : Sq SDoor) (u3_6 u3_7 : Sq Int) (u3_8 u3_9 : Int) : Option ((Int) ⊕ (Unit)) := ref10_Highest_l3_m.val ((u3_0, u3_1, u3_2, u3_3, u3_4, u3_5, u3_6, u3_7), (u3_8, u3_9))
theorem ref10_Highest_l3_eq (u3_0 : Sq Int) (u3_1 : Int) (u3_2 : Sq SPlace) (u3_3 : Sq SRoad) (u3_4 : Sq SFan) (u3_5 : Sq SDoor) (u3_6 u3_7 : Sq Int) (u3_8 u3_9 : Int) : ref10_Highest_l3 u3_0 u3_1 u3_2 u3_3 u3_4 u3_5 u3_6 u3_7 u3_8 u3_9 = fixO (fun v : Int × Int => ref10_Highest_l3_step u3_0 u3_1 u3_2 u3_3 u3_4 u3_5 u3_6 u3_7 v.1 v.2) (u3_8, u3_9) := ref10_Highest_l3_m.val_eq (fun x => ((sqD dI (aget x.tm 2), intA (aget x.tm 3), sqD SPlace.dec (cellS x 0 0), sqD SRoad.dec (cellS x 0 1), sqD SFan.dec (cellS x 0 2), sqD SDoor.dec (cellS x 0 3), sqD dI (cellS x 64 0), sqD dI (cellS x 64 1)), (intA (aget x.tm 10), intA (aget x.tm 9)))) (fun p => by kernel_rfl) ((u3_0, u3_1, u3_2, u3_3, u3_4, u3_5, u3_6, u3_7), (u3_8, u3_9))
noncomputable def ref10_Highest_t (a : SAir) (s : SSetting) (pressures : Sq Int) (place : Int) : DT (Int) :=
 .sum (ref10_Highest_l3 pressures place a.Mine.Places a.Mine.Roads a.Fans a.Doors s.Fans s.Doors (0 : Int) (0 : Int)) (fun y0 =>
 .leaf y0) (fun _ => .fail)
noncomputable def ref10_Highest_m : FnM := flM (SAir × SSetting × (Sq Int) × Int) (Int) (fun p => ([.agg (SAir.enc p.1), .agg (SSetting.enc p.2.1), sqA 1 (eI .i64) p.2.2.1, .int .i64 p.2.2.2], [])) (fun p => ref10_Highest_t p.1 p.2.1 p.2.2.1 p.2.2.2) (fun r => .int .i64 r) (fun _ => rfl)
noncomputable def ref10_Highest_env : Env := envM [(46, ref09_Highest_m.c), (45, ref09_Lowest_m.c)] [(3, [2, 3, 4, 5, 9, 10], [9])] [(3, ref10_Highest_l3_m.c)] [] [(3, [0, 64])] 0
noncomputable def ref10_Highest_e : Env := { ref10_Highest_env with nt := 71 }
theorem ref10_Highest_l3_tells : LoopTells ref10_Highest_e (loopOf 3 Tryz.f40) ref10_Highest_l3_m.c := ref10_Highest_l3_m.tells 320 (fun _ => by kernel_rfl) (fun _ _ _ _ => by kernel_rfl) (fun _ _ _ _ => by kernel_rfl) fun R f v N K => by kernel_rfl
theorem ref10_Highest_tells : Tells Tryz.prog 40 ref10_Highest_m.c := ref10_Highest_m.tells Tryz.func40 (show ∀ p, arun ref10_Highest_env Tryz.f40 (ref10_Highest_m.enc p).1 (ref10_Highest_m.enc p).2 = _ from fun p => by kernel_rfl) (loopsL [loopOf 3 Tryz.f40] (by kernel_rfl) ⟨lpT (by kernel_rfl) ref10_Highest_l3_tells, trivial⟩) (.cons ref09_Highest_tells (.cons ref09_Lowest_tells .nil))
noncomputable def ref10_Highest (a : SAir) (s : SSetting) (pressures : Sq Int) (place : Int) : Option (Int) := ref10_Highest_m.val (a, s, pressures, place)
theorem ref10_Highest_eq (a : SAir) (s : SSetting) (pressures : Sq Int) (place : Int) : ref10_Highest a s pressures place = (ref10_Highest_t a s pressures place).get := ref10_Highest_m.val_eq (fun x => (SAir.dec (aggL (gd x.1 0)), SSetting.dec (aggL (gd x.1 1)), sqD dI (gd x.1 2), intA (gd x.1 3))) (fun p => by kernel_rfl) (a, s, pressures, place)

/-! minecontrol/plan.Valid -/
noncomputable def plan_Valid_t (m : SMine) : DT (Bool) :=
 .bind (plan_Check m) fun z0 =>
 .leaf (z0 == (0 : Int))
noncomputable def plan_Valid_m : FnM := flM (SMine) (Bool) (fun p => ([.agg (SMine.enc p)], [])) (fun p => plan_Valid_t p) (fun r => .bool r) (fun _ => rfl)
noncomputable def plan_Valid_env : Env := envM [(61, plan_Check_m.c)] [] [] [] [] 0
theorem plan_Valid_tells : Tells Tryz.prog 89 plan_Valid_m.c := plan_Valid_m.tells Tryz.func89 (show ∀ p, arun plan_Valid_env Tryz.f89 (plan_Valid_m.enc p).1 (plan_Valid_m.enc p).2 = _ from fun p => by kernel_rfl) noLoops (.cons plan_Check_tells .nil)
noncomputable def plan_Valid (m : SMine) : Option (Bool) := plan_Valid_m.val m
theorem plan_Valid_eq (m : SMine) : plan_Valid m = (plan_Valid_t m).get := plan_Valid_m.val_eq (fun x => SMine.dec (aggL (gd x.1 0))) (fun p => by kernel_rfl) m

/-! minecontrol/plan.Roads -/
noncomputable def plan_Roads_l3_step (u3_0 : Int) (u3_1 : Sq SRoad) (u3_3 : Sq Int) (u3_4 : Int) : DT (LR ((Sq Int) × Int) ((Sq Int)) (Unit)) :=
 .ite (decide (u3_4 < ((u3_1.n : Nat) : Int))) (
 .ite (decide ((0 : Int) ≤ u3_4 ∧ u3_4 < ((u3_1.n : Nat) : Int))) (
 .ite ((u3_1.f (Int.toNat u3_4)).From == u3_0) (
 .ite (decide ((u3_3.n + 1) * 8 ≤ 140737488355328 ∧ (u3_3.n + 1) ≤ 1099511627776)) (
 .leaf (.next ((Sq.mk (u3_3.n + 1) (fun k0 => (cond (Nat.blt k0 u3_3.n) (u3_3.f k0) u3_4))), (wr (u3_4 + (1 : Int)))))) (
 .fail)) (
 .ite ((u3_1.f (Int.toNat u3_4)).To == u3_0) (
 .ite (decide ((u3_3.n + 1) * 8 ≤ 140737488355328 ∧ (u3_3.n + 1) ≤ 1099511627776)) (
 .leaf (.next ((Sq.mk (u3_3.n + 1) (fun k1 => (cond (Nat.blt k1 u3_3.n) (u3_3.f k1) u3_4))), (wr (u3_4 + (1 : Int)))))) (
 .fail)) (
 .leaf (.next (u3_3, (wr (u3_4 + (1 : Int)))))))) (
 .fail)) (
 .leaf (.l u3_3))
noncomputable def plan_Roads_l3_m : LpM := ⟨Int × (Sq SRoad), (Sq Int) × Int, (Sq Int), Unit, fun p => ⟨[(1, .int .i64 p.1.1), (5, .own 128 0), (9, sqA 10 SRoad.enc p.1.2), (10, .int .i64 ((p.1.2.n : Nat) : Int)), (11, .int .i64 p.2.2)], [(128, rowA 0 1 3 (eI .i64) p.2.1)], 448⟩, fun f v => plan_Roads_l3_step f.1 f.2 v.1 v.2, true, (.exit 0), (fun _ a => ⟨[(5, .own 128 0)], [(128, rowA 0 1 3 (eI .i64) a)], 448⟩), .ret, (fun _ _ => ⟨[], [], 0⟩), c1, c1k⟩
noncomputable def plan_Roads_l3 (u3_0 : Int) (u3_1 : Sq SRoad) (u3_3 : Sq Int) (u3_4 : Int) : Option (((Sq Int)) ⊕ (Unit)) := plan_Roads_l3_m.val ((u3_0, u3_1), (u3_3, u3_4))
theorem plan_Roads_l3_eq (u3_0 : Int) (u3_1 : Sq SRoad) (u3_3 : Sq Int) (u3_4 : Int) : plan_Roads_l3 u3_0 u3_1 u3_3 u3_4 = fixO (fun v : (Sq Int) × Int => plan_Roads_l3_step u3_0 u3_1 v.1 v.2) (u3_3, u3_4) := plan_Roads_l3_m.val_eq (fun x => ((intA (aget x.tm 1), sqD SRoad.dec (aget x.tm 9)), (sqB dI (blkS x 128), intA (aget x.tm 11)))) (fun p => by kernel_rfl) ((u3_0, u3_1), (u3_3, u3_4))
noncomputable def plan_Roads_t (m : SMine) (place : Int) : DT ((Sq Int)) :=
 .sum (plan_Roads_l3 place m.Roads (Sq.mk 0 (fun _ => (0 : Int))) (0 : Int)) (fun y0 =>
 .leaf y0) (fun _ => .fail)
noncomputable def plan_Roads_m : FnM := nfM (SMine × Int) ((Sq Int)) (fun p => ([.agg (SMine.enc p.1), .int .i64 p.2], [])) (fun p => plan_Roads_t p.1 p.2) (fun _ => .own 0 0) (fun _ r => [rowA 0 1 3 (eI .i64) r])
noncomputable def plan_Roads_env : Env := envM [] [(3, [1, 5, 9, 10, 11], [5])] [(3, plan_Roads_l3_m.c)] [(1000003, [.asrow 128 3 1 (fun _ => (eI .i64) (0 : Int))])] [(3, [128])] 0
noncomputable def plan_Roads_e : Env := { plan_Roads_env with nt := 32 }
theorem plan_Roads_l3_tells : LoopTells plan_Roads_e (loopOf 3 Tryz.f78) plan_Roads_l3_m.c := plan_Roads_l3_m.tells 448 (fun _ => by kernel_rfl) (fun _ _ _ _ => by kernel_rfl) (fun _ _ _ _ => by kernel_rfl) fun R f v N K => by kernel_rfl
theorem plan_Roads_tells : Tells Tryz.prog 78 plan_Roads_m.c := plan_Roads_m.tells Tryz.func78 (show ∀ p, arun plan_Roads_env Tryz.f78 (plan_Roads_m.enc p).1 (plan_Roads_m.enc p).2 = _ from fun p => by kernel_rfl) (loopsL [loopOf 3 Tryz.f78] (by kernel_rfl) ⟨lpT (by kernel_rfl) plan_Roads_l3_tells, trivial⟩) .nil
noncomputable def plan_Roads (m : SMine) (place : Int) : Option ((Sq Int)) := plan_Roads_m.val (m, place)
theorem plan_Roads_eq (m : SMine) (place : Int) : plan_Roads m place = (plan_Roads_t m place).get := plan_Roads_m.val_eq (fun x => (SMine.dec (aggL (gd x.1 0)), intA (gd x.1 1))) (fun p => by kernel_rfl) (m, place)

/-! minecontrol/plan.hasRoad -/
noncomputable def plan_hasRoad_t (m : SMine) (road : Int) : DT (Bool) :=
 .bind (plan_within road (0 : Int) (wr (((m.Roads.n : Nat) : Int) - (1 : Int)))) fun z0 =>
 .leaf z0
noncomputable def plan_hasRoad_m : FnM := flM (SMine × Int) (Bool) (fun p => ([.agg (SMine.enc p.1), .int .i64 p.2], [])) (fun p => plan_hasRoad_t p.1 p.2) (fun r => .bool r) (fun _ => rfl)
noncomputable def plan_hasRoad_env : Env := envM [(83, plan_within_m.c)] [] [] [] [] 0
theorem plan_hasRoad_tells : Tells Tryz.prog 126 plan_hasRoad_m.c := plan_hasRoad_m.tells Tryz.func126 (show ∀ p, arun plan_hasRoad_env Tryz.f126 (plan_hasRoad_m.enc p).1 (plan_hasRoad_m.enc p).2 = _ from fun p => by kernel_rfl) noLoops (.cons plan_within_tells .nil)
noncomputable def plan_hasRoad (m : SMine) (road : Int) : Option (Bool) := plan_hasRoad_m.val (m, road)
theorem plan_hasRoad_eq (m : SMine) (road : Int) : plan_hasRoad m road = (plan_hasRoad_t m road).get := plan_hasRoad_m.val_eq (fun x => (SMine.dec (aggL (gd x.1 0)), intA (gd x.1 1))) (fun p => by kernel_rfl) (m, road)

/-! minecontrol/plan.Other -/
noncomputable def plan_Other_t (m : SMine) (road place : Int) : DT (Int) :=
 .bind (plan_hasRoad m road) fun z0 =>
 .ite (!z0) (
 .leaf (-1 : Int)) (
 .ite (decide ((0 : Int) ≤ road ∧ road < ((m.Roads.n : Nat) : Int))) (
 .ite (place == (m.Roads.f (Int.toNat road)).From) (
 .leaf (m.Roads.f (Int.toNat road)).To) (
 .ite (place == (m.Roads.f (Int.toNat road)).To) (.leaf (m.Roads.f (Int.toNat road)).From) (.leaf (-1 : Int)))) (
 .fail))
noncomputable def plan_Other_m : FnM := flM (SMine × Int × Int) (Int) (fun p => ([.agg (SMine.enc p.1), .int .i64 p.2.1, .int .i64 p.2.2], [])) (fun p => plan_Other_t p.1 p.2.1 p.2.2) (fun r => .int .i64 r) (fun _ => rfl)
noncomputable def plan_Other_env : Env := envM [(126, plan_hasRoad_m.c)] [] [] [] [] 0
theorem plan_Other_tells : Tells Tryz.prog 102 plan_Other_m.c := plan_Other_m.tells Tryz.func102 (show ∀ p, arun plan_Other_env Tryz.f102 (plan_Other_m.enc p).1 (plan_Other_m.enc p).2 = _ from fun p => by kernel_rfl) noLoops (.cons plan_hasRoad_tells .nil)
noncomputable def plan_Other (m : SMine) (road place : Int) : Option (Int) := plan_Other_m.val (m, road, place)
theorem plan_Other_eq (m : SMine) (road place : Int) : plan_Other m road place = (plan_Other_t m road place).get := plan_Other_m.val_eq (fun x => (SMine.dec (aggL (gd x.1 0)), intA (gd x.1 1), intA (gd x.1 2))) (fun p => by kernel_rfl) (m, road, place)

/-! math/bits.Len64 -/
noncomputable def math_bits_Len64_t (x : Int) : DT (Int) :=
 .ite (decide (x ≥ (4294967296 : Int))) (
 .fail) (
 .ite (decide (x ≥ (65536 : Int))) (
 .fail) (
 .ite (decide (x ≥ (256 : Int))) (
 .ite (decide ((0 : Int) ≤ (IntKind.u8.wrap (x / 2 ^ (Int.toNat (8 : Int)))) ∧ (IntKind.u8.wrap (x / 2 ^ (Int.toNat (8 : Int)))) < ((ByteArray.size (⟨#[0, 1, 2, 2, 3, 3, 3, 3, 4, 4, 4, 4, 4, 4, 4, 4, 5, 5, 5, 5, 5, 5, 5, 5, 5, 5, 5, 5, 5, 5, 5, 5, 6, 6, 6, 6, 6, 6, 6, 6, 6, 6, 6, 6, 6, 6, 6, 6, 6, 6, 6, 6, 6, 6, 6, 6, 6, 6, 6, 6, 6, 6, 6, 6, 7, 7, 7, 7, 7, 7, 7, 7, 7, 7, 7, 7, 7, 7, 7, 7, 7, 7, 7, 7, 7, 7, 7, 7, 7, 7, 7, 7, 7, 7, 7, 7, 7, 7, 7, 7, 7, 7, 7, 7, 7, 7, 7, 7, 7, 7, 7, 7, 7, 7, 7, 7, 7, 7, 7, 7, 7, 7, 7, 7, 7, 7, 7, 7, 8, 8, 8, 8, 8, 8, 8, 8, 8, 8, 8, 8, 8, 8, 8, 8, 8, 8, 8, 8, 8, 8, 8, 8, 8, 8, 8, 8, 8, 8, 8, 8, 8, 8, 8, 8, 8, 8, 8, 8, 8, 8, 8, 8, 8, 8, 8, 8, 8, 8, 8, 8, 8, 8, 8, 8, 8, 8, 8, 8, 8, 8, 8, 8, 8, 8, 8, 8, 8, 8, 8, 8, 8, 8, 8, 8, 8, 8, 8, 8, 8, 8, 8, 8, 8, 8, 8, 8, 8, 8, 8, 8, 8, 8, 8, 8, 8, 8, 8, 8, 8, 8, 8, 8, 8, 8, 8, 8, 8, 8, 8, 8, 8, 8, 8, 8, 8, 8, 8, 8, 8, 8, 8, 8, 8, 8, 8, 8]⟩ : ByteArray) : Nat) : Int))) (.leaf (wr ((8 : Int) + (wr (bytAt (⟨#[0, 1, 2, 2, 3, 3, 3, 3, 4, 4, 4, 4, 4, 4, 4, 4, 5, 5, 5, 5, 5, 5, 5, 5, 5, 5, 5, 5, 5, 5, 5, 5, 6, 6, 6, 6, 6, 6, 6, 6, 6, 6, 6, 6, 6, 6, 6, 6, 6, 6, 6, 6, 6, 6, 6, 6, 6, 6, 6, 6, 6, 6, 6, 6, 7, 7, 7, 7, 7, 7, 7, 7, 7, 7, 7, 7, 7, 7, 7, 7, 7, 7, 7, 7, 7, 7, 7, 7, 7, 7, 7, 7, 7, 7, 7, 7, 7, 7, 7, 7, 7, 7, 7, 7, 7, 7, 7, 7, 7, 7, 7, 7, 7, 7, 7, 7, 7, 7, 7, 7, 7, 7, 7, 7, 7, 7, 7, 7, 8, 8, 8, 8, 8, 8, 8, 8, 8, 8, 8, 8, 8, 8, 8, 8, 8, 8, 8, 8, 8, 8, 8, 8, 8, 8, 8, 8, 8, 8, 8, 8, 8, 8, 8, 8, 8, 8, 8, 8, 8, 8, 8, 8, 8, 8, 8, 8, 8, 8, 8, 8, 8, 8, 8, 8, 8, 8, 8, 8, 8, 8, 8, 8, 8, 8, 8, 8, 8, 8, 8, 8, 8, 8, 8, 8, 8, 8, 8, 8, 8, 8, 8, 8, 8, 8, 8, 8, 8, 8, 8, 8, 8, 8, 8, 8, 8, 8, 8, 8, 8, 8, 8, 8, 8, 8, 8, 8, 8, 8, 8, 8, 8, 8, 8, 8, 8, 8, 8, 8, 8, 8, 8, 8, 8, 8, 8, 8]⟩ : ByteArray) (IntKind.u8.wrap (x / 2 ^ (Int.toNat (8 : Int))))))))) (.fail)) (
 .ite (decide ((0 : Int) ≤ (IntKind.u8.wrap x) ∧ (IntKind.u8.wrap x) < ((ByteArray.size (⟨#[0, 1, 2, 2, 3, 3, 3, 3, 4, 4, 4, 4, 4, 4, 4, 4, 5, 5, 5, 5, 5, 5, 5, 5, 5, 5, 5, 5, 5, 5, 5, 5, 6, 6, 6, 6, 6, 6, 6, 6, 6, 6, 6, 6, 6, 6, 6, 6, 6, 6, 6, 6, 6, 6, 6, 6, 6, 6, 6, 6, 6, 6, 6, 6, 7, 7, 7, 7, 7, 7, 7, 7, 7, 7, 7, 7, 7, 7, 7, 7, 7, 7, 7, 7, 7, 7, 7, 7, 7, 7, 7, 7, 7, 7, 7, 7, 7, 7, 7, 7, 7, 7, 7, 7, 7, 7, 7, 7, 7, 7, 7, 7, 7, 7, 7, 7, 7, 7, 7, 7, 7, 7, 7, 7, 7, 7, 7, 7, 8, 8, 8, 8, 8, 8, 8, 8, 8, 8, 8, 8, 8, 8, 8, 8, 8, 8, 8, 8, 8, 8, 8, 8, 8, 8, 8, 8, 8, 8, 8, 8, 8, 8, 8, 8, 8, 8, 8, 8, 8, 8, 8, 8, 8, 8, 8, 8, 8, 8, 8, 8, 8, 8, 8, 8, 8, 8, 8, 8, 8, 8, 8, 8, 8, 8, 8, 8, 8, 8, 8, 8, 8, 8, 8, 8, 8, 8, 8, 8, 8, 8, 8, 8, 8, 8, 8, 8, 8, 8, 8, 8, 8, 8, 8, 8, 8, 8, 8, 8, 8, 8, 8, 8, 8, 8, 8, 8, 8, 8, 8, 8, 8, 8, 8, 8, 8, 8, 8, 8, 8, 8, 8, 8, 8, 8, 8, 8]⟩ : ByteArray) : Nat) : Int))) (.leaf (wr ((0 : Int) + (wr (bytAt (⟨#[0, 1, 2, 2, 3, 3, 3, 3, 4, 4, 4, 4, 4, 4, 4, 4, 5, 5, 5, 5, 5, 5, 5, 5, 5, 5, 5, 5, 5, 5, 5, 5, 6, 6, 6, 6, 6, 6, 6, 6, 6, 6, 6, 6, 6, 6, 6, 6, 6, 6, 6, 6, 6, 6, 6, 6, 6, 6, 6, 6, 6, 6, 6, 6, 7, 7, 7, 7, 7, 7, 7, 7, 7, 7, 7, 7, 7, 7, 7, 7, 7, 7, 7, 7, 7, 7, 7, 7, 7, 7, 7, 7, 7, 7, 7, 7, 7, 7, 7, 7, 7, 7, 7, 7, 7, 7, 7, 7, 7, 7, 7, 7, 7, 7, 7, 7, 7, 7, 7, 7, 7, 7, 7, 7, 7, 7, 7, 7, 8, 8, 8, 8, 8, 8, 8, 8, 8, 8, 8, 8, 8, 8, 8, 8, 8, 8, 8, 8, 8, 8, 8, 8, 8, 8, 8, 8, 8, 8, 8, 8, 8, 8, 8, 8, 8, 8, 8, 8, 8, 8, 8, 8, 8, 8, 8, 8, 8, 8, 8, 8, 8, 8, 8, 8, 8, 8, 8, 8, 8, 8, 8, 8, 8, 8, 8, 8, 8, 8, 8, 8, 8, 8, 8, 8, 8, 8, 8, 8, 8, 8, 8, 8, 8, 8, 8, 8, 8, 8, 8, 8, 8, 8, 8, 8, 8, 8, 8, 8, 8, 8, 8, 8, 8, 8, 8, 8, 8, 8, 8, 8, 8, 8, 8, 8, 8, 8, 8, 8, 8, 8, 8, 8, 8, 8, 8, 8]⟩ : ByteArray) (IntKind.u8.wrap x)))))) (.fail))))
noncomputable def math_bits_Len64_m : FnM := flM (Int) (Int) (fun p => ([.int .u64 p], [])) (fun p => math_bits_Len64_t p) (fun r => .int .i64 r) (fun _ => rfl)
noncomputable def math_bits_Len64_env : Env := envM [] [] [] [] [] 0
theorem math_bits_Len64_tells : Tells Tryz.prog 119 math_bits_Len64_m.c := math_bits_Len64_m.tells Tryz.func119 (show ∀ p, arun math_bits_Len64_env Tryz.f119 (math_bits_Len64_m.enc p).1 (math_bits_Len64_m.enc p).2 = _ from fun p => by kernel_rfl) noLoops .nil
noncomputable def math_bits_Len64 (x : Int) : Option (Int) := math_bits_Len64_m.val x
theorem math_bits_Len64_eq (x : Int) : math_bits_Len64 x = (math_bits_Len64_t x).get := math_bits_Len64_m.val_eq (fun x => intA (gd x.1 0)) (fun p => by kernel_rfl) x

/-! math/bits.Len -/
noncomputable def math_bits_Len_t (x : Int) : DT (Int) :=
 .bind (math_bits_Len64 x) fun z0 =>
 .leaf z0
noncomputable def math_bits_Len_m : FnM := flM (Int) (Int) (fun p => ([.int .u64 p], [])) (fun p => math_bits_Len_t p) (fun r => .int .i64 r) (fun _ => rfl)
noncomputable def math_bits_Len_env : Env := envM [(119, math_bits_Len64_m.c)] [] [] [] [] 0
theorem math_bits_Len_tells : Tells Tryz.prog 92 math_bits_Len_m.c := math_bits_Len_m.tells Tryz.func92 (show ∀ p, arun math_bits_Len_env Tryz.f92 (math_bits_Len_m.enc p).1 (math_bits_Len_m.enc p).2 = _ from fun p => by kernel_rfl) noLoops (.cons math_bits_Len64_tells .nil)
noncomputable def math_bits_Len (x : Int) : Option (Int) := math_bits_Len_m.val x
theorem math_bits_Len_eq (x : Int) : math_bits_Len x = (math_bits_Len_t x).get := math_bits_Len_m.val_eq (fun x => intA (gd x.1 0)) (fun p => by kernel_rfl) x

/-! cmp.isNaN[int] -/
noncomputable def cmp_isNaN_t (x : Int) : DT (Bool) :=
 .leaf (x != x)
noncomputable def cmp_isNaN_m : FnM := flM (Int) (Bool) (fun p => ([.int .i64 p], [])) (fun p => cmp_isNaN_t p) (fun r => .bool r) (fun _ => rfl)
noncomputable def cmp_isNaN_env : Env := envM [] [] [] [] [] 0
theorem cmp_isNaN_tells : Tells Tryz.prog 140 cmp_isNaN_m.c := cmp_isNaN_m.tells Tryz.func140 (show ∀ p, arun cmp_isNaN_env Tryz.f140 (cmp_isNaN_m.enc p).1 (cmp_isNaN_m.enc p).2 = _ from fun p => by kernel_rfl) noLoops .nil
noncomputable def cmp_isNaN (x : Int) : Option (Bool) := cmp_isNaN_m.val x
theorem cmp_isNaN_eq (x : Int) : cmp_isNaN x = (cmp_isNaN_t x).get := cmp_isNaN_m.val_eq (fun x => intA (gd x.1 0)) (fun p => by kernel_rfl) x

/-! cmp.Less[int] -/
noncomputable def cmp_Less_t (x y : Int) : DT (Bool) :=
 .bind (cmp_isNaN x) fun z0 =>
 .ite z0 (
 .bind (cmp_isNaN y) fun z1 =>
 .ite (!z1) (.leaf true) (.leaf (decide (x < y)))) (
 .leaf (decide (x < y)))
noncomputable def cmp_Less_m : FnM := flM (Int × Int) (Bool) (fun p => ([.int .i64 p.1, .int .i64 p.2], [])) (fun p => cmp_Less_t p.1 p.2) (fun r => .bool r) (fun _ => rfl)
noncomputable def cmp_Less_env : Env := envM [(140, cmp_isNaN_m.c)] [] [] [] [] 0
theorem cmp_Less_tells : Tells Tryz.prog 115 cmp_Less_m.c := cmp_Less_m.tells Tryz.func115 (show ∀ p, arun cmp_Less_env Tryz.f115 (cmp_Less_m.enc p).1 (cmp_Less_m.enc p).2 = _ from fun p => by kernel_rfl) noLoops (.cons cmp_isNaN_tells .nil)
noncomputable def cmp_Less (x y : Int) : Option (Bool) := cmp_Less_m.val (x, y)
theorem cmp_Less_eq (x y : Int) : cmp_Less x y = (cmp_Less_t x y).get := cmp_Less_m.val_eq (fun x => (intA (gd x.1 0), intA (gd x.1 1))) (fun p => by kernel_rfl) (x, y)

/-! slices.insertionSortOrdered[int] -/
noncomputable def slices_insertionSortOrdered_l4_step (u4_0 _u4_1 _u4_2 : Int) (u4_3 : Sq Int) (u4_4 : Int) : DT (LR ((Sq Int) × Int) ((Sq Int)) (Unit)) :=
 .ite (decide (u4_4 > u4_0)) (
 .ite (decide ((0 : Int) ≤ u4_4 ∧ u4_4 < ((u4_3.n : Nat) : Int))) (
 .ite (decide ((0 : Int) ≤ (wr (u4_4 - (1 : Int))) ∧ (wr (u4_4 - (1 : Int))) < ((u4_3.n : Nat) : Int))) (
 .bind (cmp_Less (u4_3.f (Int.toNat u4_4)) (u4_3.f (Int.toNat (wr (u4_4 - (1 : Int)))))) fun z0 =>
 .ite z0 (
 .ite (decide ((0 : Int) ≤ (wr (u4_4 - (1 : Int))) ∧ (wr (u4_4 - (1 : Int))) < ((u4_3.n : Nat) : Int))) (
 .ite (decide ((0 : Int) ≤ u4_4 ∧ u4_4 < ((u4_3.n : Nat) : Int))) (
 .ite (decide ((0 : Int) ≤ u4_4 ∧ u4_4 < ((u4_3.n : Nat) : Int))) (
 .ite (decide ((0 : Int) ≤ (wr (u4_4 - (1 : Int))) ∧ (wr (u4_4 - (1 : Int))) < ((u4_3.n : Nat) : Int))) (
 .leaf (.next ((Sq.mk u4_3.n (fun k0 => (cond (Nat.beq k0 (Int.toNat (wr (u4_4 - (1 : Int))))) (u4_3.f (Int.toNat u4_4)) (cond (Nat.beq k0 (Int.toNat u4_4)) (u4_3.f (Int.toNat (wr (u4_4 - (1 : Int))))) (u4_3.f k0))))), (wr (u4_4 - (1 : Int)))))) (
 .fail)) (
 .fail)) (
 .fail)) (
 .fail)) (
 .leaf (.l u4_3))) (
 .fail)) (
 .fail)) (
 .leaf (.l u4_3))
noncomputable def slices_insertionSortOrdered_l4_m : LpM := ⟨Int × Int × Int, (Sq Int) × Int, (Sq Int), Unit, fun p => ⟨[(0, .own 0 0), (1, .int .i64 p.1.1), (2, .int .i64 p.1.2.1), (6, .int .i64 p.1.2.2), (7, .int .i64 p.2.2)], [(0, rowA 0 1 3 (eI .i64) p.2.1)], 513⟩, fun f v => slices_insertionSortOrdered_l4_step f.1 f.2.1 f.2.2 v.1 v.2, true, (.exit 2), (fun x a => ⟨[(0, .own 0 0), (1, aget x.tm 1), (2, aget x.tm 2), (6, aget x.tm 6)], [(0, rowA 0 1 3 (eI .i64) a)], 513⟩), .ret, (fun _ _ => ⟨[], [], 0⟩), c1, c1k⟩
noncomputable def slices_insertionSortOrdered_l4 (u4_0 u4_1 u4_2 : Int) (u4_3 : Sq Int) (u4_4 : Int) : Option (((Sq Int)) ⊕ (Unit)) := slices_insertionSortOrdered_l4_m.val ((u4_0, u4_1, u4_2), (u4_3, u4_4))
theorem slices_insertionSortOrdered_l4_eq (u4_0 u4_1 u4_2 : Int) (u4_3 : Sq Int) (u4_4 : Int) : slices_insertionSortOrdered_l4 u4_0 u4_1 u4_2 u4_3 u4_4 = fixO (fun v : (Sq Int) × Int => slices_insertionSortOrdered_l4_step u4_0 u4_1 u4_2 v.1 v.2) (u4_3, u4_4) := slices_insertionSortOrdered_l4_m.val_eq (fun x => ((intA (aget x.tm 1), intA (aget x.tm 2), intA (aget x.tm 6)), (sqB dI (blkS x 0), intA (aget x.tm 7)))) (fun p => by kernel_rfl) ((u4_0, u4_1, u4_2), (u4_3, u4_4))
noncomputable def slices_insertionSortOrdered_l1_step (u1_0 u1_1 u1_2 : Int) (u1_3 : Sq Int) : DT (LR (Int × (Sq Int)) ((Sq Int)) (Unit)) :=
 .ite (decide (u1_2 < u1_1)) (
 .sum (slices_insertionSortOrdered_l4 u1_0 u1_1 u1_2 u1_3 u1_2) (fun y0 =>
 .leaf (.next ((wr (u1_2 + (1 : Int))), y0))) (fun _ => .fail)) (
 .leaf (.l u1_3))
noncomputable def slices_insertionSortOrdered_l1_m : LpM := ⟨Int × Int, Int × (Sq Int), (Sq Int), Unit, fun p => ⟨[(0, .own 0 0), (1, .int .i64 p.1.1), (2, .int .i64 p.1.2), (6, .int .i64 p.2.1)], [(0, rowA 0 1 3 (eI .i64) p.2.2)], 193⟩, fun f v => slices_insertionSortOrdered_l1_step f.1 f.2 v.1 v.2, true, (.exit 0), (fun _ a => ⟨[], [(0, rowA 0 1 3 (eI .i64) a)], 193⟩), .ret, (fun _ _ => ⟨[], [], 0⟩), c1, c1k⟩
noncomputable def slices_insertionSortOrdered_l1 (u1_0 u1_1 u1_2 : Int) (u1_3 : Sq Int) : Option (((Sq Int)) ⊕ (Unit)) := slices_insertionSortOrdered_l1_m.val ((u1_0, u1_1), (u1_2, u1_3))
theorem slices_insertionSortOrdered_l1_eq (u1_0 u1_1 u1_2 : Int) (u1_3 : Sq Int) : slices_insertionSortOrdered_l1 u1_0 u1_1 u1_2 u1_3 = fixO (fun v : Int × (Sq Int) => slices_insertionSortOrdered_l1_step u1_0 u1_1 v.1 v.2) (u1_2, u1_3) := slices_insertionSortOrdered_l1_m.val_eq (fun x => ((intA (aget x.tm 1), intA (aget x.tm 2)), (intA (aget x.tm 6), sqB dI (blkS x 0)))) (fun p => by kernel_rfl) ((u1_0, u1_1), (u1_2, u1_3))
noncomputable def slices_insertionSortOrdered_t (data : Sq Int) (a b : Int) : DT ((Sq Int)) :=
 .sum (slices_insertionSortOrdered_l1 a b (wr (a + (1 : Int))) data) (fun y1 =>
 .leaf y1) (fun _ => .fail)
noncomputable def slices_insertionSortOrdered_m : FnM := nfM ((Sq Int) × Int × Int) ((Sq Int)) (fun p => ([.own 0 0, .int .i64 p.2.1, .int .i64 p.2.2], [rowA 0 1 3 (eI .i64) p.1])) (fun p => slices_insertionSortOrdered_t p.1 p.2.1 p.2.2) (fun _ => .tup []) (fun _ r => [rowA 0 1 3 (eI .i64) r])
noncomputable def slices_insertionSortOrdered_env : Env := envM [(115, cmp_Less_m.c)] [(4, [0, 1, 2, 6, 7], [0, 1, 2, 6]), (1, [0, 1, 2, 6], [])] [(4, slices_insertionSortOrdered_l4_m.c), (1, slices_insertionSortOrdered_l1_m.c)] [] [(4, [0]), (1, [0])] 1
noncomputable def slices_insertionSortOrdered_e : Env := { slices_insertionSortOrdered_env with nt := 49 }
theorem slices_insertionSortOrdered_l4_tells : LoopTells slices_insertionSortOrdered_e (loopOf 4 Tryz.f109) slices_insertionSortOrdered_l4_m.c := slices_insertionSortOrdered_l4_m.tells 513 (fun _ => by kernel_rfl) (fun _ _ _ _ => by kernel_rfl) (fun _ _ _ _ => by kernel_rfl) fun R f v N K => by kernel_rfl
theorem slices_insertionSortOrdered_l1_tells : LoopTells slices_insertionSortOrdered_e (loopOf 1 Tryz.f109) slices_insertionSortOrdered_l1_m.c := slices_insertionSortOrdered_l1_m.tells 193 (fun _ => by kernel_rfl) (fun _ _ _ _ => by kernel_rfl) (fun _ _ _ _ => by kernel_rfl) fun R f v N K => by kernel_rfl
theorem slices_insertionSortOrdered_tells : Tells Tryz.prog 109 slices_insertionSortOrdered_m.c := slices_insertionSortOrdered_m.tells Tryz.func109 (show ∀ p, arun slices_insertionSortOrdered_env Tryz.f109 (slices_insertionSortOrdered_m.enc p).1 (slices_insertionSortOrdered_m.enc p).2 = _ from fun p => by kernel_rfl) (loopsL [loopOf 1 Tryz.f109, loopOf 4 Tryz.f109] (by kernel_rfl) ⟨lpT (by kernel_rfl) slices_insertionSortOrdered_l1_tells, ⟨lpT (by kernel_rfl) slices_insertionSortOrdered_l4_tells, trivial⟩⟩) (.cons cmp_Less_tells .nil)
noncomputable def slices_insertionSortOrdered (data : Sq Int) (a b : Int) : Option ((Sq Int)) := slices_insertionSortOrdered_m.val (data, a, b)
theorem slices_insertionSortOrdered_eq (data : Sq Int) (a b : Int) : slices_insertionSortOrdered data a b = (slices_insertionSortOrdered_t data a b).get := slices_insertionSortOrdered_m.val_eq (fun x => (sqB dI (dB x.2 0), intA (gd x.1 1), intA (gd x.1 2))) (fun p => by kernel_rfl) (data, a, b)

/-! slices.pdqsortOrdered[int] -/
noncomputable def slices_pdqsortOrdered_l2_step (u2_0 u2_1 u2_2 : Int) (u2_3 : Sq Int) : DT (LR (Unit) ((Sq Int)) (Unit)) :=
 .ite (decide ((wr (u2_1 - u2_0)) ≤ (12 : Int))) (
 .bind (slices_insertionSortOrdered u2_3 u2_0 u2_1) fun z0 =>
 .leaf (.l z0)) (
 .ite (u2_2 == (0 : Int)) (.fail) (.fail))
noncomputable def slices_pdqsortOrdered_l2_m : LpM := ⟨Int × Int × Int × (Sq Int), Unit, (Sq Int), Unit, fun p => ⟨[(0, .own 0 0), (1, .int .i64 p.1.1), (2, .int .i64 p.1.2.1), (3, .int .i64 p.1.2.2.1), (8, .bool true), (9, .bool true)], [(0, rowA 0 1 3 (eI .i64) p.1.2.2.2)], 129⟩, fun f _ => slices_pdqsortOrdered_l2_step f.1 f.2.1 f.2.2.1 f.2.2.2, true, .ret, (fun _ a => ⟨[], [(0, rowA 0 1 3 (eI .i64) a)], 129⟩), .ret, (fun _ _ => ⟨[], [], 0⟩), c1, c1k⟩
noncomputable def slices_pdqsortOrdered_l2 (u2_0 u2_1 u2_2 : Int) (u2_3 : Sq Int) : Option (((Sq Int)) ⊕ (Unit)) := slices_pdqsortOrdered_l2_m.val ((u2_0, u2_1, u2_2, u2_3), ())
theorem slices_pdqsortOrdered_l2_eq (u2_0 u2_1 u2_2 : Int) (u2_3 : Sq Int) : slices_pdqsortOrdered_l2 u2_0 u2_1 u2_2 u2_3 = fixO (fun _ : Unit => slices_pdqsortOrdered_l2_step u2_0 u2_1 u2_2 u2_3) () := slices_pdqsortOrdered_l2_m.val_eq (fun x => ((intA (aget x.tm 1), intA (aget x.tm 2), intA (aget x.tm 3), sqB dI (blkS x 0)), ())) (fun p => by kernel_rfl) ((u2_0, u2_1, u2_2, u2_3), ())
noncomputable def slices_pdqsortOrdered_t (data : Sq Int) (a b limit : Int) : DT ((Sq Int)) :=
 .sum (slices_pdqsortOrdered_l2 a b limit data) (fun y0 =>
 .leaf y0) (fun _ => .fail)
noncomputable def slices_pdqsortOrdered_m : FnM := nfM ((Sq Int) × Int × Int × Int) ((Sq Int)) (fun p => ([.own 0 0, .int .i64 p.2.1, .int .i64 p.2.2.1, .int .i64 p.2.2.2], [rowA 0 1 3 (eI .i64) p.1])) (fun p => slices_pdqsortOrdered_t p.1 p.2.1 p.2.2.1 p.2.2.2) (fun _ => .tup []) (fun _ r => [rowA 0 1 3 (eI .i64) r])
noncomputable def slices_pdqsortOrdered_env : Env := envM [(109, slices_insertionSortOrdered_m.c)] [(2, [0, 1, 2, 3, 8, 9], []), (2000109, [], [])] [(2, slices_pdqsortOrdered_l2_m.c)] [] [(2, [0])] 1
noncomputable def slices_pdqsortOrdered_e : Env := { slices_pdqsortOrdered_env with nt := 134 }
theorem slices_pdqsortOrdered_l2_tells : LoopTells slices_pdqsortOrdered_e (loopOf 2 Tryz.f91) slices_pdqsortOrdered_l2_m.c := slices_pdqsortOrdered_l2_m.tells 129 (fun _ => by kernel_rfl) (fun _ _ _ _ => by kernel_rfl) (fun _ _ _ _ => by kernel_rfl) fun R f v N K => by kernel_rfl
theorem slices_pdqsortOrdered_tells : Tells Tryz.prog 91 slices_pdqsortOrdered_m.c := slices_pdqsortOrdered_m.tells Tryz.func91 (show ∀ p, arun slices_pdqsortOrdered_env Tryz.f91 (slices_pdqsortOrdered_m.enc p).1 (slices_pdqsortOrdered_m.enc p).2 = _ from fun p => by kernel_rfl) (loopsL [loopOf 2 Tryz.f91] (by kernel_rfl) ⟨lpT (by kernel_rfl) slices_pdqsortOrdered_l2_tells, trivial⟩) (.cons slices_insertionSortOrdered_tells .nil)
noncomputable def slices_pdqsortOrdered (data : Sq Int) (a b limit : Int) : Option ((Sq Int)) := slices_pdqsortOrdered_m.val (data, a, b, limit)
theorem slices_pdqsortOrdered_eq (data : Sq Int) (a b limit : Int) : slices_pdqsortOrdered data a b limit = (slices_pdqsortOrdered_t data a b limit).get := slices_pdqsortOrdered_m.val_eq (fun x => (sqB dI (dB x.2 0), intA (gd x.1 1), intA (gd x.1 2), intA (gd x.1 3))) (fun p => by kernel_rfl) (data, a, b, limit)

/-! slices.Sort[[]int,int] -/
noncomputable def slices_Sort_t (x : Sq Int) : DT ((Sq Int)) :=
 .bind (math_bits_Len (IntKind.u64.wrap ((x.n : Nat) : Int))) fun z0 =>
 .bind (slices_pdqsortOrdered x (0 : Int) ((x.n : Nat) : Int) z0) fun z1 =>
 .leaf z1
noncomputable def slices_Sort_m : FnM := nfM ((Sq Int)) ((Sq Int)) (fun p => ([.own 0 0], [rowA 0 1 3 (eI .i64) p])) (fun p => slices_Sort_t p) (fun _ => .tup []) (fun _ r => [rowA 0 1 3 (eI .i64) r])
noncomputable def slices_Sort_env : Env := envM [(92, math_bits_Len_m.c), (91, slices_pdqsortOrdered_m.c)] [(2000091, [], [])] [] [] [] 1
theorem slices_Sort_tells : Tells Tryz.prog 70 slices_Sort_m.c := slices_Sort_m.tells Tryz.func70 (show ∀ p, arun slices_Sort_env Tryz.f70 (slices_Sort_m.enc p).1 (slices_Sort_m.enc p).2 = _ from fun p => by kernel_rfl) noLoops (.cons math_bits_Len_tells (.cons slices_pdqsortOrdered_tells .nil))
noncomputable def slices_Sort (x : Sq Int) : Option ((Sq Int)) := slices_Sort_m.val x
theorem slices_Sort_eq (x : Sq Int) : slices_Sort x = (slices_Sort_t x).get := slices_Sort_m.val_eq (fun x => sqB dI (dB x.2 0)) (fun p => by kernel_rfl) x

/-! minecontrol/plan.part -/
noncomputable def plan_part_l7_step (u7_2 : Sq SPlace) (u7_3 : Sq SRoad) (u7_5 : Sq Int) (u7_7 : Int) (u7_1 : Sq Bool) (u7_4 : Sq Int) (u7_6 : Int) : DT (LR ((Sq Bool) × (Sq Int) × Int) ((Sq Bool) × (Sq Int)) (Unit)) :=
 .ite (decide (u7_6 < ((u7_5.n : Nat) : Int))) (
 .ite (decide ((0 : Int) ≤ u7_6 ∧ u7_6 < ((u7_5.n : Nat) : Int))) (
 .ite (decide ((0 : Int) ≤ u7_7 ∧ u7_7 < ((u7_4.n : Nat) : Int))) (
 .bind (plan_Other (SMine.mk u7_2 u7_3) (u7_5.f (Int.toNat u7_6)) (u7_4.f (Int.toNat u7_7))) fun z0 =>
 .ite (decide ((0 : Int) ≤ (u7_5.f (Int.toNat u7_6)) ∧ (u7_5.f (Int.toNat u7_6)) < ((u7_3.n : Nat) : Int))) (
 .ite (!(u7_3.f (Int.toNat (u7_5.f (Int.toNat u7_6)))).Closed) (
 .ite (decide ((0 : Int) ≤ z0 ∧ z0 < ((u7_1.n : Nat) : Int))) (
 .ite (!(u7_1.f (Int.toNat z0))) (
 .ite (decide ((0 : Int) ≤ z0 ∧ z0 < ((u7_1.n : Nat) : Int))) (
 .ite (decide ((u7_4.n + 1) * 8 ≤ 140737488355328 ∧ (u7_4.n + 1) ≤ 1099511627776)) (
 .leaf (.next ((Sq.mk u7_1.n (fun k0 => (cond (Nat.beq k0 (Int.toNat z0)) true (u7_1.f k0)))), (Sq.mk (u7_4.n + 1) (fun k1 => (cond (Nat.blt k1 u7_4.n) (u7_4.f k1) z0))), (wr (u7_6 + (1 : Int)))))) (
 .fail)) (
 .fail)) (
 .leaf (.next (u7_1, u7_4, (wr (u7_6 + (1 : Int))))))) (
 .fail)) (
 .leaf (.next (u7_1, u7_4, (wr (u7_6 + (1 : Int))))))) (
 .fail)) (
 .fail)) (
 .fail)) (
 .leaf (.l (u7_1, u7_4)))
noncomputable def plan_part_l7_m : LpM := ⟨(Sq SPlace) × (Sq SRoad) × (Sq Int) × Int, (Sq Bool) × (Sq Int) × Int, (Sq Bool) × (Sq Int), Unit, fun p => ⟨[(2, .own 0 0), (3, .ptr 1 0), (7, .own 193 0), (8, .int .i64 p.1.2.2.2), (28, .own 1217 0), (29, .int .i64 ((p.1.2.2.1.n : Nat) : Int)), (30, .int .i64 p.2.2.2)], [(0, rowA 0 1 4 eO p.2.1), (1, .var [sqA 2 SPlace.enc p.1.1, sqA 10 SRoad.enc p.1.2.1]), (193, rowA 0 1 3 (eI .i64) p.2.2.1), (1217, rowA 0 1 3 (eI .i64) p.1.2.2.1)], 1409⟩, fun f v => plan_part_l7_step f.1 f.2.1 f.2.2.1 f.2.2.2 v.1 v.2.1 v.2.2, true, (.exit 2), (fun x a => ⟨[(2, .own 0 0), (3, .ptr 1 0), (7, .own 193 0), (8, aget x.tm 8)], [(0, rowA 0 1 4 eO a.1), (1, blkS x 1), (193, rowA 0 1 3 (eI .i64) a.2), (1217, blkS x 1217)], 1409⟩), .ret, (fun _ _ => ⟨[], [], 0⟩), c1, c1k⟩
noncomputable def plan_part_l7 (u7_2 : Sq SPlace) (u7_3 : Sq SRoad) (u7_5 : Sq Int) (u7_7 : Int) (u7_1 : Sq Bool) (u7_4 : Sq Int) (u7_6 : Int) : Option (((Sq Bool) × (Sq Int)) ⊕ (Unit)) := plan_part_l7_m.val ((u7_2, u7_3, u7_5, u7_7), (u7_1, u7_4, u7_6))
theorem plan_part_l7_eq (u7_2 : Sq SPlace) (u7_3 : Sq SRoad) (u7_5 : Sq Int) (u7_7 : Int) (u7_1 : Sq Bool) (u7_4 : Sq Int) (u7_6 : Int) : plan_part_l7 u7_2 u7_3 u7_5 u7_7 u7_1 u7_4 u7_6 = fixO (fun v : (Sq Bool) × (Sq Int) × Int => plan_part_l7_step u7_2 u7_3 u7_5 u7_7 v.1 v.2.1 v.2.2) (u7_1, u7_4, u7_6) := plan_part_l7_m.val_eq (fun x => ((sqD SPlace.dec (cellS x 1 0), sqD SRoad.dec (cellS x 1 1), sqB dI (blkS x 1217), intA (aget x.tm 8)), (sqB dO (blkS x 0), sqB dI (blkS x 193), intA (aget x.tm 30)))) (fun p => by kernel_rfl) ((u7_2, u7_3, u7_5, u7_7), (u7_1, u7_4, u7_6))
noncomputable def plan_part_l4_step (u4_1 : Sq SPlace) (u4_2 : Sq SRoad) (u4_0 : Sq Bool) (u4_3 : Sq Int) (u4_4 : Int) : DT (LR ((Sq Bool) × (Sq Int) × Int) ((Sq Bool) × (Sq Int)) (Unit)) :=
 .ite (decide (u4_4 < ((u4_3.n : Nat) : Int))) (
 .ite (decide ((0 : Int) ≤ u4_4 ∧ u4_4 < ((u4_3.n : Nat) : Int))) (
 .bind (plan_Roads (SMine.mk u4_1 u4_2) (u4_3.f (Int.toNat u4_4))) fun z1 =>
 .sum (plan_part_l7 u4_1 u4_2 z1 u4_4 u4_0 u4_3 (0 : Int)) (fun y0 =>
 .leaf (.next (y0.1, y0.2, (wr (u4_4 + (1 : Int)))))) (fun _ => .fail)) (
 .fail)) (
 .leaf (.l (u4_0, u4_3)))
noncomputable def plan_part_l4_m : LpM := ⟨(Sq SPlace) × (Sq SRoad), (Sq Bool) × (Sq Int) × Int, (Sq Bool) × (Sq Int), Unit, fun p => ⟨[(2, .own 0 0), (3, .ptr 1 0), (7, .own 193 0), (8, .int .i64 p.2.2.2)], [(0, rowA 0 1 4 eO p.2.1), (1, .var [sqA 2 SPlace.enc p.1.1, sqA 10 SRoad.enc p.1.2]), (193, rowA 0 1 3 (eI .i64) p.2.2.1)], 641⟩, fun f v => plan_part_l4_step f.1 f.2 v.1 v.2.1 v.2.2, true, (.exit 0), (fun x a => ⟨[(7, .own 193 0)], [(0, rowA 0 1 4 eO a.1), (1, blkS x 1), (193, rowA 0 1 3 (eI .i64) a.2)], 641⟩), .ret, (fun _ _ => ⟨[], [], 0⟩), c1, c1k⟩
noncomputable def plan_part_l4 (u4_1 : Sq SPlace) (u4_2 : Sq SRoad) (u4_0 : Sq Bool) (u4_3 : Sq Int) (u4_4 : Int) : Option (((Sq Bool) × (Sq Int)) ⊕ (Unit)) := plan_part_l4_m.val ((u4_1, u4_2), (u4_0, u4_3, u4_4))
theorem plan_part_l4_eq (u4_1 : Sq SPlace) (u4_2 : Sq SRoad) (u4_0 : Sq Bool) (u4_3 : Sq Int) (u4_4 : Int) : plan_part_l4 u4_1 u4_2 u4_0 u4_3 u4_4 = fixO (fun v : (Sq Bool) × (Sq Int) × Int => plan_part_l4_step u4_1 u4_2 v.1 v.2.1 v.2.2) (u4_0, u4_3, u4_4) := plan_part_l4_m.val_eq (fun x => ((sqD SPlace.dec (cellS x 1 0), sqD SRoad.dec (cellS x 1 1)), (sqB dO (blkS x 0), sqB dI (blkS x 193), intA (aget x.tm 8)))) (fun p => by kernel_rfl) ((u4_1, u4_2), (u4_0, u4_3, u4_4))
noncomputable def plan_part_t (m : SMine) (first : Int) (seen : Sq Bool) : DT ((Sq Int) × (Sq Bool)) :=
 .ite (decide ((0 : Int) ≤ first ∧ first < ((seen.n : Nat) : Int))) (
 .sum (plan_part_l4 m.Places m.Roads (Sq.mk seen.n (fun k2 => (cond (Nat.beq k2 (Int.toNat first)) true (seen.f k2)))) (Sq.mk 1 (fun _ => first)) (0 : Int)) (fun y1 =>
 .bind (slices_Sort y1.2) fun z2 =>
 .leaf (z2, y1.1)) (fun _ => .fail)) (
 .fail)
noncomputable def plan_part_m : FnM := nfM (SMine × Int × (Sq Bool)) ((Sq Int) × (Sq Bool)) (fun p => ([.agg (SMine.enc p.1), .int .i64 p.2.1, .own 0 0], [rowA 0 1 4 eO p.2.2])) (fun p => plan_part_t p.1 p.2.1 p.2.2) (fun _ => .own 1 0) (fun _ r => [rowA 0 1 4 eO r.2, rowA 0 1 3 (eI .i64) r.1])
noncomputable def plan_part_env : Env := envM [(78, plan_Roads_m.c), (102, plan_Other_m.c), (70, slices_Sort_m.c)] [(7, [2, 3, 7, 8, 28, 29, 30], [2, 3, 7, 8]), (4, [2, 3, 7, 8], [7]), (2000070, [], [])] [(7, plan_part_l7_m.c), (4, plan_part_l4_m.c)] [] [(7, [0, 1, 193, 1217]), (4, [0, 1, 193])] 1
noncomputable def plan_part_e : Env := { plan_part_env with nt := 66 }
theorem plan_part_l7_tells : LoopTells plan_part_e (loopOf 7 Tryz.f90) plan_part_l7_m.c := plan_part_l7_m.tells 1409 (fun _ => by kernel_rfl) (fun _ _ _ _ => by kernel_rfl) (fun _ _ _ _ => by kernel_rfl) fun R f v N K => by kernel_rfl
theorem plan_part_l4_tells : LoopTells plan_part_e (loopOf 4 Tryz.f90) plan_part_l4_m.c := plan_part_l4_m.tells 641 (fun _ => by kernel_rfl) (fun _ _ _ _ => by kernel_rfl) (fun _ _ _ _ => by kernel_rfl) fun R f v N K => by kernel_rfl
theorem plan_part_tells : Tells Tryz.prog 90 plan_part_m.c := plan_part_m.tells Tryz.func90 (show ∀ p, arun plan_part_env Tryz.f90 (plan_part_m.enc p).1 (plan_part_m.enc p).2 = _ from fun p => by kernel_rfl) (loopsL [loopOf 4 Tryz.f90, loopOf 7 Tryz.f90] (by kernel_rfl) ⟨lpT (by kernel_rfl) plan_part_l4_tells, ⟨lpT (by kernel_rfl) plan_part_l7_tells, trivial⟩⟩) (.cons plan_Roads_tells (.cons plan_Other_tells (.cons slices_Sort_tells .nil)))
noncomputable def plan_part (m : SMine) (first : Int) (seen : Sq Bool) : Option ((Sq Int) × (Sq Bool)) := plan_part_m.val (m, first, seen)
theorem plan_part_eq (m : SMine) (first : Int) (seen : Sq Bool) : plan_part m first seen = (plan_part_t m first seen).get := plan_part_m.val_eq (fun x => (SMine.dec (aggL (gd x.1 0)), intA (gd x.1 1), sqB dO (dB x.2 0))) (fun p => by kernel_rfl) (m, first, seen)

/-! minecontrol/plan.Parts -/
noncomputable def plan_Parts_l6_step (u6_1 : Sq SPlace) (u6_2 : Sq SRoad) (u6_3 : (Sq (Sq Int))) (u6_4 : Sq Bool) (u6_5 : Int) : DT (LR ((Sq (Sq Int)) × (Sq Bool) × Int) ((Sq (Sq Int)) × (Sq Bool)) (Unit)) :=
 .ite (decide (u6_5 < ((u6_1.n : Nat) : Int))) (
 .ite (decide ((0 : Int) ≤ u6_5 ∧ u6_5 < ((u6_4.n : Nat) : Int))) (
 .ite (!(u6_4.f (Int.toNat u6_5))) (
 .bind (plan_part (SMine.mk u6_1 u6_2) u6_5 u6_4) fun z0 =>
 .ite (decide ((u6_3.n + 1) * 24 ≤ 140737488355328 ∧ (u6_3.n + 1) ≤ 1099511627776)) (
 .leaf (.next ((Sq.mk (u6_3.n + 1) (fun k0 => (Sq.mk (cond (Nat.blt k0 u6_3.n) (u6_3.f k0).n z0.1.n) (fun k1 => (cond (Nat.blt k0 u6_3.n) ((u6_3.f k0).f k1) (z0.1.f k1)))))), z0.2, (wr (u6_5 + (1 : Int)))))) (
 .fail)) (
 .leaf (.next (u6_3, u6_4, (wr (u6_5 + (1 : Int))))))) (
 .fail)) (
 .leaf (.l (u6_3, u6_4)))
noncomputable def plan_Parts_l6_m : LpM := ⟨(Sq SPlace) × (Sq SRoad), (Sq (Sq Int)) × (Sq Bool) × Int, (Sq (Sq Int)) × (Sq Bool), Unit, fun p => ⟨[(1, .ptr 0 0), (3, .own 384 0), (4, .own 640 0), (15, .int .i64 ((p.1.1.n : Nat) : Int)), (16, .int .i64 p.2.2.2)], [(0, .var [sqA 2 SPlace.enc p.1.1, sqA 10 SRoad.enc p.1.2]), (384, rowA 0 1 23 (eQ 1 (eI .i64)) p.2.1), (640, rowA 0 1 4 eO p.2.2.1)], 1024⟩, fun f v => plan_Parts_l6_step f.1 f.2 v.1 v.2.1 v.2.2, true, (.exit 0), (fun x a => ⟨[(3, .own 384 0)], [(0, blkS x 0), (384, rowA 0 1 23 (eQ 1 (eI .i64)) a.1), (640, rowA 0 1 4 eO a.2)], 1024⟩), .ret, (fun _ _ => ⟨[], [], 0⟩), c1, c1k⟩
noncomputable def plan_Parts_l6 (u6_1 : Sq SPlace) (u6_2 : Sq SRoad) (u6_3 : (Sq (Sq Int))) (u6_4 : Sq Bool) (u6_5 : Int) : Option (((Sq (Sq Int)) × (Sq Bool)) ⊕ (Unit)) := plan_Parts_l6_m.val ((u6_1, u6_2), (u6_3, u6_4, u6_5))
theorem plan_Parts_l6_eq (u6_1 : Sq SPlace) (u6_2 : Sq SRoad) (u6_3 : (Sq (Sq Int))) (u6_4 : Sq Bool) (u6_5 : Int) : plan_Parts_l6 u6_1 u6_2 u6_3 u6_4 u6_5 = fixO (fun v : (Sq (Sq Int)) × (Sq Bool) × Int => plan_Parts_l6_step u6_1 u6_2 v.1 v.2.1 v.2.2) (u6_3, u6_4, u6_5) := plan_Parts_l6_m.val_eq (fun x => ((sqD SPlace.dec (cellS x 0 0), sqD SRoad.dec (cellS x 0 1)), (sqB (dQ dI) (blkS x 384), sqB dO (blkS x 640), intA (aget x.tm 16)))) (fun p => by kernel_rfl) ((u6_1, u6_2), (u6_3, u6_4, u6_5))
noncomputable def plan_Parts_t (m : SMine) : DT ((Sq (Sq Int))) :=
 .bind (plan_Valid m) fun z1 =>
 .ite (!z1) (
 .leaf (Sq.mk 0 (fun _ => (Sq.mk 0 (fun _ => (0 : Int)))))) (
 .ite (decide ((0 : Int) ≤ ((m.Places.n : Nat) : Int) ∧ ((m.Places.n : Nat) : Int) ≤ ((m.Places.n : Nat) : Int) ∧ ((m.Places.n : Nat) : Int) * ((1 : Nat) : Int) ≤ 140737488355328 ∧ ((m.Places.n : Nat) : Int) ≤ 1099511627776)) (
 .sum (plan_Parts_l6 m.Places m.Roads (Sq.mk 0 (fun _ => (Sq.mk 0 (fun _ => (0 : Int))))) (Sq.mk (Int.toNat ((m.Places.n : Nat) : Int)) (fun _ => false)) (0 : Int)) (fun y0 =>
 .leaf y0.1) (fun _ => .fail)) (
 .fail))
noncomputable def plan_Parts_m : FnM := nfM (SMine) ((Sq (Sq Int))) (fun p => ([.agg (SMine.enc p)], [])) (fun p => plan_Parts_t p) (fun _ => .own 0 0) (fun _ r => [rowA 0 1 23 (eQ 1 (eI .i64)) r])
noncomputable def plan_Parts_env : Env := envM [(89, plan_Valid_m.c), (90, plan_part_m.c)] [(6, [1, 3, 4, 15, 16], [3]), (2000090, [], [])] [(6, plan_Parts_l6_m.c)] [(1000006, [.asrow 384 23 1 (fun _ => (eQ 1 (eI .i64)) (Sq.mk 0 (fun _ => (0 : Int))))]), (2000000, [.asrow 320 23 1 (fun _ => (eQ 1 (eI .i64)) (Sq.mk 0 (fun _ => (0 : Int))))])] [(6, [0, 384, 640])] 0
noncomputable def plan_Parts_e : Env := { plan_Parts_env with nt := 33 }
theorem plan_Parts_l6_tells : LoopTells plan_Parts_e (loopOf 6 Tryz.f69) plan_Parts_l6_m.c := plan_Parts_l6_m.tells 1024 (fun _ => by kernel_rfl) (fun _ _ _ _ => by kernel_rfl) (fun _ _ _ _ => by kernel_rfl) fun R f v N K => by kernel_rfl
theorem plan_Parts_tells : Tells Tryz.prog 69 plan_Parts_m.c := plan_Parts_m.tells Tryz.func69 (show ∀ p, arun plan_Parts_env Tryz.f69 (plan_Parts_m.enc p).1 (plan_Parts_m.enc p).2 = _ from fun p => by kernel_rfl) (loopsL [loopOf 6 Tryz.f69] (by kernel_rfl) ⟨lpT (by kernel_rfl) plan_Parts_l6_tells, trivial⟩) (.cons plan_Valid_tells (.cons plan_part_tells .nil))
noncomputable def plan_Parts (m : SMine) : Option ((Sq (Sq Int))) := plan_Parts_m.val m
theorem plan_Parts_eq (m : SMine) : plan_Parts m = (plan_Parts_t m).get := plan_Parts_m.val_eq (fun x => SMine.dec (aggL (gd x.1 0))) (fun p => by kernel_rfl) m

/-! minecontrol/plan.CutOff$1 -/
noncomputable def plan_CutOff_1_t (place : Int) (x : SMine) : DT (Bool) :=
 .ite (decide ((0 : Int) ≤ place ∧ place < ((x.Places.n : Nat) : Int))) (.leaf (x.Places.f (Int.toNat place)).Surface) (.fail)
noncomputable def plan_CutOff_1_m : FnM := nfM (Int × SMine) (Bool) (fun p => ([.int .i64 p.1, .ptr 0 0], [.var (SMine.enc p.2)])) (fun p => plan_CutOff_1_t p.1 p.2) (fun r => .bool r) (fun ins _ => [dB ins 0])
noncomputable def plan_CutOff_1_env : Env := envM [] [] [] [] [] 1
theorem plan_CutOff_1_tells : Tells Tryz.prog 68 plan_CutOff_1_m.c := plan_CutOff_1_m.tells Tryz.func68 (show ∀ p, arun plan_CutOff_1_env Tryz.f68 (plan_CutOff_1_m.enc p).1 (plan_CutOff_1_m.enc p).2 = _ from fun p => by kernel_rfl) noLoops .nil
noncomputable def plan_CutOff_1 (place : Int) (x : SMine) : Option (Bool) := plan_CutOff_1_m.val (place, x)
theorem plan_CutOff_1_eq (place : Int) (x : SMine) : plan_CutOff_1 place x = (plan_CutOff_1_t place x).get := plan_CutOff_1_m.val_eq (fun x => (intA (gd x.1 0), SMine.dec (varL (dB x.2 0)))) (fun p => by kernel_rfl) (place, x)

/-! slices.IndexFunc[[]int,int] -/
noncomputable def slices_IndexFunc_cut_l2_step (u2_0 : Sq Int) (u2_2 : Sq SPlace) (u2_3 : Sq SRoad) (u2_4 : Int) : DT (LR (Int) (Unit) (Int)) :=
 .ite (decide (u2_4 < ((u2_0.n : Nat) : Int))) (
 .ite (decide ((0 : Int) ≤ u2_4 ∧ u2_4 < ((u2_0.n : Nat) : Int))) (
 .bind (plan_CutOff_1 (u2_0.f (Int.toNat u2_4)) (SMine.mk u2_2 u2_3)) fun z0 =>
 .ite z0 (
 .leaf (.r u2_4)) (
 .leaf (.next (wr (u2_4 + (1 : Int)))))) (
 .fail)) (
 .leaf (.l ()))
noncomputable def slices_IndexFunc_cut_l2_m : LpM := ⟨(Sq Int) × (Sq SPlace) × (Sq SRoad), Int, Unit, Int, fun p => ⟨[(0, sqA 1 (eI .i64) p.1.1), (1, .fn 68 [.ptr 0 0]), (7, .int .i64 ((p.1.1.n : Nat) : Int)), (8, .int .i64 p.2)], [(0, .var [sqA 2 SPlace.enc p.1.2.1, sqA 10 SRoad.enc p.1.2.2])], 257⟩, fun f v => slices_IndexFunc_cut_l2_step f.1 f.2.1 f.2.2 v, false, (.exit 0), (fun x _ => ⟨[(4, .undef)], [(0, blkS x 0)], 257⟩), .ret, (fun x a => ⟨[(4, .int .i64 a)], [(0, blkS x 0)], 257⟩), c1, c1k⟩
noncomputable def slices_IndexFunc_cut_l2 (u2_0 : Sq Int) (u2_2 : Sq SPlace) (u2_3 : Sq SRoad) (u2_4 : Int) : Option ((Unit) ⊕ (Int)) := slices_IndexFunc_cut_l2_m.val ((u2_0, u2_2, u2_3), u2_4)
theorem slices_IndexFunc_cut_l2_eq (u2_0 : Sq Int) (u2_2 : Sq SPlace) (u2_3 : Sq SRoad) (u2_4 : Int) : slices_IndexFunc_cut_l2 u2_0 u2_2 u2_3 u2_4 = fixO (fun v : Int => slices_IndexFunc_cut_l2_step u2_0 u2_2 u2_3 v) u2_4 := slices_IndexFunc_cut_l2_m.val_eq (fun x => ((sqD dI (aget x.tm 0), sqD SPlace.dec (cellS x 0 0), sqD SRoad.dec (cellS x 0 1)), intA (aget x.tm 8))) (fun p => by kernel_rfl) ((u2_0, u2_2, u2_3), u2_4)
noncomputable def slices_IndexFunc_cut_t (s : Sq Int) (y0 : SMine) : DT (Int) :=
 .sum (slices_IndexFunc_cut_l2 s y0.Places y0.Roads (0 : Int)) (fun _ =>
 .leaf (-1 : Int)) (fun y1 => .leaf y1)
noncomputable def slices_IndexFunc_cut_m : FnM := nfM ((Sq Int) × SMine) (Int) (fun p => ([sqA 1 (eI .i64) p.1, .fn 68 [.ptr 0 0]], [.var (SMine.enc p.2)])) (fun p => slices_IndexFunc_cut_t p.1 p.2) (fun r => .int .i64 r) (fun ins _ => [dB ins 0])
noncomputable def slices_IndexFunc_cut_env : Env := envM [(68, plan_CutOff_1_m.c)] [(2, [0, 1, 7, 8], [4])] [(2, slices_IndexFunc_cut_l2_m.c)] [] [(2, [0])] 1
noncomputable def slices_IndexFunc_cut_e : Env := { slices_IndexFunc_cut_env with nt := 19 }
theorem slices_IndexFunc_cut_l2_tells : LoopTells slices_IndexFunc_cut_e (loopOf 2 Tryz.f64) slices_IndexFunc_cut_l2_m.c := slices_IndexFunc_cut_l2_m.tells 257 (fun _ => by kernel_rfl) (fun _ _ _ _ => by kernel_rfl) (fun _ _ _ _ => by kernel_rfl) fun R f v N K => by kernel_rfl
theorem slices_IndexFunc_cut_tells : Tells Tryz.prog 64 slices_IndexFunc_cut_m.c := slices_IndexFunc_cut_m.tells Tryz.func64 (show ∀ p, arun slices_IndexFunc_cut_env Tryz.f64 (slices_IndexFunc_cut_m.enc p).1 (slices_IndexFunc_cut_m.enc p).2 = _ from fun p => by kernel_rfl) (loopsL [loopOf 2 Tryz.f64] (by kernel_rfl) ⟨lpT (by kernel_rfl) slices_IndexFunc_cut_l2_tells, trivial⟩) (.cons plan_CutOff_1_tells .nil)
noncomputable def slices_IndexFunc_cut (s : Sq Int) (y0 : SMine) : Option (Int) := slices_IndexFunc_cut_m.val (s, y0)
theorem slices_IndexFunc_cut_eq (s : Sq Int) (y0 : SMine) : slices_IndexFunc_cut s y0 = (slices_IndexFunc_cut_t s y0).get := slices_IndexFunc_cut_m.val_eq (fun x => (sqD dI (gd x.1 0), SMine.dec (varL (dB x.2 0)))) (fun p => by kernel_rfl) (s, y0)

/-! slices.ContainsFunc[[]int,int] -/
noncomputable def slices_ContainsFunc_cut_t (s : Sq Int) (y0 : SMine) : DT (Bool) :=
 .bind (slices_IndexFunc_cut s y0) fun z0 =>
 .leaf (decide (z0 ≥ (0 : Int)))
noncomputable def slices_ContainsFunc_cut_m : FnM := nfM ((Sq Int) × SMine) (Bool) (fun p => ([sqA 1 (eI .i64) p.1, .fn 68 [.ptr 0 0]], [.var (SMine.enc p.2)])) (fun p => slices_ContainsFunc_cut_t p.1 p.2) (fun r => .bool r) (fun ins _ => [dB ins 0])
noncomputable def slices_ContainsFunc_cut_env : Env := envM [(64, slices_IndexFunc_cut_m.c)] [] [] [] [] 1
theorem slices_ContainsFunc_cut_tells : Tells Tryz.prog 32 slices_ContainsFunc_cut_m.c := slices_ContainsFunc_cut_m.tells Tryz.func32 (show ∀ p, arun slices_ContainsFunc_cut_env Tryz.f32 (slices_ContainsFunc_cut_m.enc p).1 (slices_ContainsFunc_cut_m.enc p).2 = _ from fun p => by kernel_rfl) noLoops (.cons slices_IndexFunc_cut_tells .nil)
noncomputable def slices_ContainsFunc_cut (s : Sq Int) (y0 : SMine) : Option (Bool) := slices_ContainsFunc_cut_m.val (s, y0)
theorem slices_ContainsFunc_cut_eq (s : Sq Int) (y0 : SMine) : slices_ContainsFunc_cut s y0 = (slices_ContainsFunc_cut_t s y0).get := slices_ContainsFunc_cut_m.val_eq (fun x => (sqD dI (gd x.1 0), SMine.dec (varL (dB x.2 0)))) (fun p => by kernel_rfl) (s, y0)

/-! minecontrol/plan.CutOff -/
noncomputable def plan_CutOff_l4_step (u4_1 : Sq SPlace) (u4_2 : Sq SRoad) (u4_4 : (Sq (Sq Int))) (u4_3 : Sq Int) (u4_5 : Int) : DT (LR ((Sq Int) × Int) ((Sq Int)) (Unit)) :=
 .ite (decide (u4_5 < ((u4_4.n : Nat) : Int))) (
 .ite (decide ((0 : Int) ≤ u4_5 ∧ u4_5 < ((u4_4.n : Nat) : Int))) (
 .bind (slices_ContainsFunc_cut (u4_4.f (Int.toNat u4_5)) (SMine.mk u4_1 u4_2)) fun z0 =>
 .ite (!z0) (
 .ite (decide ((u4_3.n + (u4_4.f (Int.toNat u4_5)).n) * 8 ≤ 140737488355328 ∧ (u4_3.n + (u4_4.f (Int.toNat u4_5)).n) ≤ 1099511627776)) (
 .leaf (.next ((Sq.mk (u4_3.n + (u4_4.f (Int.toNat u4_5)).n) (fun k0 => (cond (Nat.blt k0 u4_3.n) (u4_3.f k0) ((u4_4.f (Int.toNat u4_5)).f (k0 - u4_3.n))))), (wr (u4_5 + (1 : Int)))))) (
 .fail)) (
 .leaf (.next (u4_3, (wr (u4_5 + (1 : Int))))))) (
 .fail)) (
 .leaf (.l u4_3))
noncomputable def plan_CutOff_l4_m : LpM := ⟨(Sq SPlace) × (Sq SRoad) × (Sq (Sq Int)), (Sq Int) × Int, (Sq Int), Unit, fun p => ⟨[(3, .own 128 0), (4, .fn 68 [.ptr 0 0]), (9, .own 384 0), (10, .int .i64 ((p.1.2.2.n : Nat) : Int)), (11, .int .i64 p.2.2)], [(0, .var [sqA 2 SPlace.enc p.1.1, sqA 10 SRoad.enc p.1.2.1]), (128, rowA 0 1 3 (eI .i64) p.2.1), (384, rowA 0 1 23 (eQ 1 (eI .i64)) p.1.2.2)], 576⟩, fun f v => plan_CutOff_l4_step f.1 f.2.1 f.2.2 v.1 v.2, true, (.exit 0), (fun x a => ⟨[(3, .own 128 0)], [(0, blkS x 0), (128, rowA 0 1 3 (eI .i64) a), (384, blkS x 384)], 576⟩), .ret, (fun _ _ => ⟨[], [], 0⟩), c1, c1k⟩
noncomputable def plan_CutOff_l4 (u4_1 : Sq SPlace) (u4_2 : Sq SRoad) (u4_4 : (Sq (Sq Int))) (u4_3 : Sq Int) (u4_5 : Int) : Option (((Sq Int)) ⊕ (Unit)) := plan_CutOff_l4_m.val ((u4_1, u4_2, u4_4), (u4_3, u4_5))
theorem plan_CutOff_l4_eq (u4_1 : Sq SPlace) (u4_2 : Sq SRoad) (u4_4 : (Sq (Sq Int))) (u4_3 : Sq Int) (u4_5 : Int) : plan_CutOff_l4 u4_1 u4_2 u4_4 u4_3 u4_5 = fixO (fun v : (Sq Int) × Int => plan_CutOff_l4_step u4_1 u4_2 u4_4 v.1 v.2) (u4_3, u4_5) := plan_CutOff_l4_m.val_eq (fun x => ((sqD SPlace.dec (cellS x 0 0), sqD SRoad.dec (cellS x 0 1), sqB (dQ dI) (blkS x 384)), (sqB dI (blkS x 128), intA (aget x.tm 11)))) (fun p => by kernel_rfl) ((u4_1, u4_2, u4_4), (u4_3, u4_5))
noncomputable def plan_CutOff_t (m : SMine) : DT ((Sq Int)) :=
 .bind (plan_Parts m) fun z1 =>
 .sum (plan_CutOff_l4 m.Places m.Roads z1 (Sq.mk 0 (fun _ => (0 : Int))) (0 : Int)) (fun y0 =>
 .bind (slices_Sort y0) fun z2 =>
 .leaf z2) (fun _ => .fail)
noncomputable def plan_CutOff_m : FnM := nfM (SMine) ((Sq Int)) (fun p => ([.agg (SMine.enc p)], [])) (fun p => plan_CutOff_t p) (fun _ => .own 0 0) (fun _ r => [rowA 0 1 3 (eI .i64) r])
noncomputable def plan_CutOff_env : Env := envM [(69, plan_Parts_m.c), (32, slices_ContainsFunc_cut_m.c), (70, slices_Sort_m.c)] [(4, [3, 4, 9, 10, 11], [3]), (2000070, [], [])] [(4, plan_CutOff_l4_m.c)] [(1000004, [.asrow 128 3 1 (fun _ => (eI .i64) (0 : Int))])] [(4, [0, 128, 384])] 0
noncomputable def plan_CutOff_e : Env := { plan_CutOff_env with nt := 26 }
theorem plan_CutOff_l4_tells : LoopTells plan_CutOff_e (loopOf 4 Tryz.f41) plan_CutOff_l4_m.c := plan_CutOff_l4_m.tells 576 (fun _ => by kernel_rfl) (fun _ _ _ _ => by kernel_rfl) (fun _ _ _ _ => by kernel_rfl) fun R f v N K => by kernel_rfl
theorem plan_CutOff_tells : Tells Tryz.prog 41 plan_CutOff_m.c := plan_CutOff_m.tells Tryz.func41 (show ∀ p, arun plan_CutOff_env Tryz.f41 (plan_CutOff_m.enc p).1 (plan_CutOff_m.enc p).2 = _ from fun p => by kernel_rfl) (loopsL [loopOf 4 Tryz.f41] (by kernel_rfl) ⟨lpT (by kernel_rfl) plan_CutOff_l4_tells, trivial⟩) (.cons plan_Parts_tells (.cons slices_ContainsFunc_cut_tells (.cons slices_Sort_tells .nil)))
noncomputable def plan_CutOff (m : SMine) : Option ((Sq Int)) := plan_CutOff_m.val m
theorem plan_CutOff_eq (m : SMine) : plan_CutOff m = (plan_CutOff_t m).get := plan_CutOff_m.val_eq (fun x => SMine.dec (aggL (gd x.1 0))) (fun p => by kernel_rfl) m

/-! slices.Index[[]int,int] -/
noncomputable def slices_Index_l2_step (u2_0 : Sq Int) (u2_1 u2_3 : Int) : DT (LR (Int) (Unit) (Int)) :=
 .ite (decide (u2_3 < ((u2_0.n : Nat) : Int))) (
 .ite (decide ((0 : Int) ≤ u2_3 ∧ u2_3 < ((u2_0.n : Nat) : Int))) (
 .ite (u2_1 == (u2_0.f (Int.toNat u2_3))) (
 .leaf (.r u2_3)) (
 .leaf (.next (wr (u2_3 + (1 : Int)))))) (
 .fail)) (
 .leaf (.l ()))
noncomputable def slices_Index_l2_m : LpM := ⟨(Sq Int) × Int, Int, Unit, Int, fun p => ⟨[(0, sqA 1 (eI .i64) p.1.1), (1, .int .i64 p.1.2), (7, .int .i64 ((p.1.1.n : Nat) : Int)), (8, .int .i64 p.2)], [], 256⟩, fun f v => slices_Index_l2_step f.1 f.2 v, false, (.exit 0), (fun _ _ => ⟨[(4, .undef)], [], 256⟩), .ret, (fun _ a => ⟨[(4, .int .i64 a)], [], 256⟩), c1, c1k⟩
noncomputable def slices_Index_l2 (u2_0 : Sq Int) (u2_1 u2_3 : Int) : Option ((Unit) ⊕ (Int)) := slices_Index_l2_m.val ((u2_0, u2_1), u2_3)
theorem slices_Index_l2_eq (u2_0 : Sq Int) (u2_1 u2_3 : Int) : slices_Index_l2 u2_0 u2_1 u2_3 = fixO (fun v : Int => slices_Index_l2_step u2_0 u2_1 v) u2_3 := slices_Index_l2_m.val_eq (fun x => ((sqD dI (aget x.tm 0), intA (aget x.tm 1)), intA (aget x.tm 8))) (fun p => by kernel_rfl) ((u2_0, u2_1), u2_3)
noncomputable def slices_Index_t (s : Sq Int) (v : Int) : DT (Int) :=
 .sum (slices_Index_l2 s v (0 : Int)) (fun _ =>
 .leaf (-1 : Int)) (fun y0 => .leaf y0)
noncomputable def slices_Index_m : FnM := flM ((Sq Int) × Int) (Int) (fun p => ([sqA 1 (eI .i64) p.1, .int .i64 p.2], [])) (fun p => slices_Index_t p.1 p.2) (fun r => .int .i64 r) (fun _ => rfl)
noncomputable def slices_Index_env : Env := envM [] [(2, [0, 1, 7, 8], [4])] [(2, slices_Index_l2_m.c)] [] [(2, [])] 0
noncomputable def slices_Index_e : Env := { slices_Index_env with nt := 19 }
theorem slices_Index_l2_tells : LoopTells slices_Index_e (loopOf 2 Tryz.f71) slices_Index_l2_m.c := slices_Index_l2_m.tells 256 (fun _ => by kernel_rfl) (fun _ _ _ _ => by kernel_rfl) (fun _ _ _ _ => by kernel_rfl) fun R f v N K => by kernel_rfl
theorem slices_Index_tells : Tells Tryz.prog 71 slices_Index_m.c := slices_Index_m.tells Tryz.func71 (show ∀ p, arun slices_Index_env Tryz.f71 (slices_Index_m.enc p).1 (slices_Index_m.enc p).2 = _ from fun p => by kernel_rfl) (loopsL [loopOf 2 Tryz.f71] (by kernel_rfl) ⟨lpT (by kernel_rfl) slices_Index_l2_tells, trivial⟩) .nil
noncomputable def slices_Index (s : Sq Int) (v : Int) : Option (Int) := slices_Index_m.val (s, v)
theorem slices_Index_eq (s : Sq Int) (v : Int) : slices_Index s v = (slices_Index_t s v).get := slices_Index_m.val_eq (fun x => (sqD dI (gd x.1 0), intA (gd x.1 1))) (fun p => by kernel_rfl) (s, v)

/-! slices.Contains[[]int,int] -/
noncomputable def slices_Contains_t (s : Sq Int) (v : Int) : DT (Bool) :=
 .bind (slices_Index s v) fun z0 =>
 .leaf (decide (z0 ≥ (0 : Int)))
noncomputable def slices_Contains_m : FnM := flM ((Sq Int) × Int) (Bool) (fun p => ([sqA 1 (eI .i64) p.1, .int .i64 p.2], [])) (fun p => slices_Contains_t p.1 p.2) (fun r => .bool r) (fun _ => rfl)
noncomputable def slices_Contains_env : Env := envM [(71, slices_Index_m.c)] [] [] [] [] 0
theorem slices_Contains_tells : Tells Tryz.prog 42 slices_Contains_m.c := slices_Contains_m.tells Tryz.func42 (show ∀ p, arun slices_Contains_env Tryz.f42 (slices_Contains_m.enc p).1 (slices_Contains_m.enc p).2 = _ from fun p => by kernel_rfl) noLoops (.cons slices_Index_tells .nil)
noncomputable def slices_Contains (s : Sq Int) (v : Int) : Option (Bool) := slices_Contains_m.val (s, v)
theorem slices_Contains_eq (s : Sq Int) (v : Int) : slices_Contains s v = (slices_Contains_t s v).get := slices_Contains_m.val_eq (fun x => (sqD dI (gd x.1 0), intA (gd x.1 1))) (fun p => by kernel_rfl) (s, v)

/-! minecontrol/balance.within -/
noncomputable def balance_within_t (n low high : Int) : DT (Bool) :=
 .ite (decide (low ≤ n)) (.leaf (decide (n ≤ high))) (.leaf false)
noncomputable def balance_within_m : FnM := flM (Int × Int × Int) (Bool) (fun p => ([.int .i64 p.1, .int .i64 p.2.1, .int .i64 p.2.2], [])) (fun p => balance_within_t p.1 p.2.1 p.2.2) (fun r => .bool r) (fun _ => rfl)
noncomputable def balance_within_env : Env := envM [] [] [] [] [] 0
theorem balance_within_tells : Tells Tryz.prog 77 balance_within_m.c := balance_within_m.tells Tryz.func77 (show ∀ p, arun balance_within_env Tryz.f77 (balance_within_m.enc p).1 (balance_within_m.enc p).2 = _ from fun p => by kernel_rfl) noLoops .nil
noncomputable def balance_within (n low high : Int) : Option (Bool) := balance_within_m.val (n, low, high)
theorem balance_within_eq (n low high : Int) : balance_within n low high = (balance_within_t n low high).get := balance_within_m.val_eq (fun x => (intA (gd x.1 0), intA (gd x.1 1), intA (gd x.1 2))) (fun p => by kernel_rfl) (n, low, high)

/-! minecontrol/balance.proper -/
noncomputable def balance_proper_l4_step (u4_0 : Sq Int) (u4_2 : Int) : DT (LR (Int) (Unit) (Unit)) :=
 .ite (decide (u4_2 < ((u4_0.n : Nat) : Int))) (
 .ite (decide ((0 : Int) ≤ u4_2 ∧ u4_2 < ((u4_0.n : Nat) : Int))) (
 .bind (balance_within (u4_0.f (Int.toNat u4_2)) (-70368744177664 : Int) (70368744177664 : Int)) fun z0 =>
 .ite (!z0) (
 .leaf (.r ())) (
 .leaf (.next (wr (u4_2 + (1 : Int)))))) (
 .fail)) (
 .leaf (.l ()))
noncomputable def balance_proper_l4_m : LpM := ⟨(Sq Int), Int, Unit, Unit, fun p => ⟨[(32, sqA 1 (eI .i64) p.1), (33, .int .i64 ((p.1.n : Nat) : Int)), (34, .int .i64 p.2)], [], 1792⟩, fun f v => balance_proper_l4_step f v, false, (.exit 0), (fun _ _ => ⟨[(8, .undef)], [], 1792⟩), .ret, (fun _ _ => ⟨[(8, .bool false)], [], 1792⟩), c1, c1k⟩
noncomputable def balance_proper_l4 (u4_0 : Sq Int) (u4_2 : Int) : Option ((Unit) ⊕ (Unit)) := balance_proper_l4_m.val (u4_0, u4_2)
theorem balance_proper_l4_eq (u4_0 : Sq Int) (u4_2 : Int) : balance_proper_l4 u4_0 u4_2 = fixO (fun v : Int => balance_proper_l4_step u4_0 v) u4_2 := balance_proper_l4_m.val_eq (fun x => (sqD dI (aget x.tm 32), intA (aget x.tm 34))) (fun p => by kernel_rfl) (u4_0, u4_2)
noncomputable def balance_proper_t (a : SAir) (s : SSetting) (pressures : Sq Int) (place : Int) : DT (Bool) :=
 .bind (branch_Right a s) fun z1 =>
 .ite (!z1) (
 .leaf false) (
 .ite (((pressures.n : Nat) : Int) != ((a.Mine.Places.n : Nat) : Int)) (
 .leaf false) (
 .bind (balance_within place (0 : Int) (wr (((pressures.n : Nat) : Int) - (1 : Int)))) fun z2 =>
 .ite (!z2) (
 .leaf false) (
 .sum (balance_proper_l4 pressures (0 : Int)) (fun _ =>
 .leaf true) (fun _ => .leaf false))))
noncomputable def balance_proper_m : FnM := flM (SAir × SSetting × (Sq Int) × Int) (Bool) (fun p => ([.agg (SAir.enc p.1), .agg (SSetting.enc p.2.1), sqA 1 (eI .i64) p.2.2.1, .int .i64 p.2.2.2], [])) (fun p => balance_proper_t p.1 p.2.1 p.2.2.1 p.2.2.2) (fun r => .bool r) (fun _ => rfl)
noncomputable def balance_proper_env : Env := envM [(31, branch_Right_m.c), (77, balance_within_m.c)] [(4, [32, 33, 34], [8])] [(4, balance_proper_l4_m.c)] [] [(4, [])] 0
noncomputable def balance_proper_e : Env := { balance_proper_env with nt := 42 }
theorem balance_proper_l4_tells : LoopTells balance_proper_e (loopOf 4 Tryz.f53) balance_proper_l4_m.c := balance_proper_l4_m.tells 1792 (fun _ => by kernel_rfl) (fun _ _ _ _ => by kernel_rfl) (fun _ _ _ _ => by kernel_rfl) fun R f v N K => by kernel_rfl
theorem balance_proper_tells : Tells Tryz.prog 53 balance_proper_m.c := balance_proper_m.tells Tryz.func53 (show ∀ p, arun balance_proper_env Tryz.f53 (balance_proper_m.enc p).1 (balance_proper_m.enc p).2 = _ from fun p => by kernel_rfl) (loopsL [loopOf 4 Tryz.f53] (by kernel_rfl) ⟨lpT (by kernel_rfl) balance_proper_l4_tells, trivial⟩) (.cons branch_Right_tells (.cons balance_within_tells .nil))
noncomputable def balance_proper (a : SAir) (s : SSetting) (pressures : Sq Int) (place : Int) : Option (Bool) := balance_proper_m.val (a, s, pressures, place)
theorem balance_proper_eq (a : SAir) (s : SSetting) (pressures : Sq Int) (place : Int) : balance_proper a s pressures place = (balance_proper_t a s pressures place).get := balance_proper_m.val_eq (fun x => (SAir.dec (aggL (gd x.1 0)), SSetting.dec (aggL (gd x.1 1)), sqD dI (gd x.1 2), intA (gd x.1 3))) (fun p => by kernel_rfl) (a, s, pressures, place)

/-! minecontrol/balance.junctionOf -/
noncomputable def balance_junctionOf_l5_step (_u5_1 : Sq SPlace) (u5_2 : Sq SRoad) (_u5_3 : Sq SFan) (_u5_4 : Sq SDoor) (_u5_5 _u5_6 _u5_8 : Sq Int) (_u5_9 : Int) (u5_10 : Sq Int) (u5_7 : Sq SRoad) (u5_11 : Int) : DT (LR ((Sq SRoad) × Int) ((Sq SRoad)) (Unit)) :=
 .ite (decide (u5_11 < ((u5_10.n : Nat) : Int))) (
 .ite (decide ((0 : Int) ≤ u5_11 ∧ u5_11 < ((u5_10.n : Nat) : Int))) (
 .ite (decide ((0 : Int) ≤ (u5_10.f (Int.toNat u5_11)) ∧ (u5_10.f (Int.toNat u5_11)) < ((u5_2.n : Nat) : Int))) (
 .ite (decide ((u5_7.n + 1) * 72 ≤ 140737488355328 ∧ (u5_7.n + 1) ≤ 1099511627776)) (
 .leaf (.next ((Sq.mk (u5_7.n + 1) (fun k0 => (SRoad.mk (cond (Nat.blt k0 u5_7.n) (u5_7.f k0).From (u5_2.f (Int.toNat (u5_10.f (Int.toNat u5_11)))).From) (cond (Nat.blt k0 u5_7.n) (u5_7.f k0).To (u5_2.f (Int.toNat (u5_10.f (Int.toNat u5_11)))).To) (cond (Nat.blt k0 u5_7.n) (u5_7.f k0).Length (u5_2.f (Int.toNat (u5_10.f (Int.toNat u5_11)))).Length) (cond (Nat.blt k0 u5_7.n) (u5_7.f k0).Area (u5_2.f (Int.toNat (u5_10.f (Int.toNat u5_11)))).Area) (cond (Nat.blt k0 u5_7.n) (u5_7.f k0).Walk (u5_2.f (Int.toNat (u5_10.f (Int.toNat u5_11)))).Walk) (cond (Nat.blt k0 u5_7.n) (u5_7.f k0).Closed (u5_2.f (Int.toNat (u5_10.f (Int.toNat u5_11)))).Closed) (SSpan.mk (cond (Nat.blt k0 u5_7.n) (u5_7.f k0).Rest.Low (u5_2.f (Int.toNat (u5_10.f (Int.toNat u5_11)))).Rest.Low) (cond (Nat.blt k0 u5_7.n) (u5_7.f k0).Rest.High (u5_2.f (Int.toNat (u5_10.f (Int.toNat u5_11)))).Rest.High)) (SSpan.mk (cond (Nat.blt k0 u5_7.n) (u5_7.f k0).Lift.Low (u5_2.f (Int.toNat (u5_10.f (Int.toNat u5_11)))).Lift.Low) (cond (Nat.blt k0 u5_7.n) (u5_7.f k0).Lift.High (u5_2.f (Int.toNat (u5_10.f (Int.toNat u5_11)))).Lift.High))))), (wr (u5_11 + (1 : Int)))))) (
 .fail)) (
 .fail)) (
 .fail)) (
 .leaf (.l u5_7))
noncomputable def balance_junctionOf_l5_m : LpM := ⟨(Sq SPlace) × (Sq SRoad) × (Sq SFan) × (Sq SDoor) × (Sq Int) × (Sq Int) × (Sq Int) × Int × (Sq Int), (Sq SRoad) × Int, (Sq SRoad), Unit, fun p => ⟨[(4, .ptr 0 0), (5, .ptr 64 0), (9, .ptr 384 0), (10, .own 1280 0), (33, .own 1280 0), (34, .int .i64 ((p.1.2.2.2.2.2.2.2.2.n : Nat) : Int)), (35, .int .i64 p.2.2)], [(0, .var [sqA 2 SPlace.enc p.1.1, sqA 10 SRoad.enc p.1.2.1, sqA 4 SFan.enc p.1.2.2.1, sqA 3 SDoor.enc p.1.2.2.2.1]), (64, .var [sqA 1 (eI .i64) p.1.2.2.2.2.1, sqA 1 (eI .i64) p.1.2.2.2.2.2.1]), (321, rowA 0 10 71 SRoad.enc p.2.1), (322, .nilrow 0), (323, .nilrow 0), (324, .nilrow 0), (325, .nilrow 0), (384, .var [sqA 2 SPlace.enc p.1.1, .own 321 0, .own 322 0, .own 323 0, .own 324 0, .own 325 0, sqA 1 (eI .i64) p.1.2.2.2.2.2.2.1, .int .i64 p.1.2.2.2.2.2.2.2.1]), (1280, rowA 0 1 3 (eI .i64) p.1.2.2.2.2.2.2.2.2)], 1600⟩, fun f v => balance_junctionOf_l5_step f.1 f.2.1 f.2.2.1 f.2.2.2.1 f.2.2.2.2.1 f.2.2.2.2.2.1 f.2.2.2.2.2.2.1 f.2.2.2.2.2.2.2.1 f.2.2.2.2.2.2.2.2 v.1 v.2, true, (.exit 0), (fun x a => ⟨[(4, .ptr 0 0), (5, .ptr 64 0), (9, .ptr 384 0), (10, .own 1280 0)], [(0, blkS x 0), (64, blkS x 64), (321, rowA 0 10 71 SRoad.enc a), (322, .nilrow 0), (323, .nilrow 0), (324, .nilrow 0), (325, .nilrow 0), (384, blkS x 384), (1280, blkS x 1280)], 1600⟩), .ret, (fun _ _ => ⟨[], [], 0⟩), c1, c1k⟩
noncomputable def balance_junctionOf_l5 (u5_1 : Sq SPlace) (u5_2 : Sq SRoad) (u5_3 : Sq SFan) (u5_4 : Sq SDoor) (u5_5 u5_6 u5_8 : Sq Int) (u5_9 : Int) (u5_10 : Sq Int) (u5_7 : Sq SRoad) (u5_11 : Int) : Option (((Sq SRoad)) ⊕ (Unit)) := balance_junctionOf_l5_m.val ((u5_1, u5_2, u5_3, u5_4, u5_5, u5_6, u5_8, u5_9, u5_10), (u5_7, u5_11))
theorem balance_junctionOf_l5_eq (u5_1 : Sq SPlace) (u5_2 : Sq SRoad) (u5_3 : Sq SFan) (u5_4 : Sq SDoor) (u5_5 u5_6 u5_8 : Sq Int) (u5_9 : Int) (u5_10 : Sq Int) (u5_7 : Sq SRoad) (u5_11 : Int) : balance_junctionOf_l5 u5_1 u5_2 u5_3 u5_4 u5_5 u5_6 u5_8 u5_9 u5_10 u5_7 u5_11 = fixO (fun v : (Sq SRoad) × Int => balance_junctionOf_l5_step u5_1 u5_2 u5_3 u5_4 u5_5 u5_6 u5_8 u5_9 u5_10 v.1 v.2) (u5_7, u5_11) := balance_junctionOf_l5_m.val_eq (fun x => ((sqD SPlace.dec (cellS x 0 0), sqD SRoad.dec (cellS x 0 1), sqD SFan.dec (cellS x 0 2), sqD SDoor.dec (cellS x 0 3), sqD dI (cellS x 64 0), sqD dI (cellS x 64 1), sqD dI (cellS x 384 6), intA (cellS x 384 7), sqB dI (blkS x 1280)), (sqB SRoad.dec (blkS x 321), intA (aget x.tm 35)))) (fun p => by kernel_rfl) ((u5_1, u5_2, u5_3, u5_4, u5_5, u5_6, u5_8, u5_9, u5_10), (u5_7, u5_11))
noncomputable def balance_junctionOf_l10_step (u10_0 : Sq SFan) (_u10_2 : Sq SPlace) (_u10_3 : Sq SRoad) (_u10_4 : Sq SDoor) (u10_5 _u10_6 : Sq Int) (_u10_7 : Sq SRoad) (_u10_10 : Sq Int) (_u10_11 : Int) (u10_12 : Sq Int) (u10_8 : Sq SFan) (u10_9 : Sq Int) (u10_13 : Int) : DT (LR ((Sq SFan) × (Sq Int) × Int) ((Sq SFan) × (Sq Int)) (Unit)) :=
 .ite (decide (u10_13 < ((u10_0.n : Nat) : Int))) (
 .ite (decide ((0 : Int) ≤ u10_13 ∧ u10_13 < ((u10_0.n : Nat) : Int))) (
 .bind (slices_Index u10_12 (u10_0.f (Int.toNat u10_13)).Road) fun z0 =>
 .ite (decide (z0 ≥ (0 : Int))) (
 .ite (decide ((u10_8.n + 1) * 40 ≤ 140737488355328 ∧ (u10_8.n + 1) ≤ 1099511627776)) (
 .ite (decide ((0 : Int) ≤ u10_13 ∧ u10_13 < ((u10_5.n : Nat) : Int))) (
 .ite (decide ((u10_9.n + 1) * 8 ≤ 140737488355328 ∧ (u10_9.n + 1) ≤ 1099511627776)) (
 .leaf (.next ((Sq.mk (u10_8.n + 1) (fun k1 => (SFan.mk (cond (Nat.blt k1 u10_8.n) (u10_8.f k1).Road z0) (cond (Nat.blt k1 u10_8.n) (u10_8.f k1).Back (u10_0.f (Int.toNat u10_13)).Back) (cond (Nat.blt k1 u10_8.n) (u10_8.f k1).Auxiliary (u10_0.f (Int.toNat u10_13)).Auxiliary) (Sq.mk (cond (Nat.blt k1 u10_8.n) (u10_8.f k1).Curve.n (u10_0.f (Int.toNat u10_13)).Curve.n) (fun k2 => (SPoint.mk (cond (Nat.blt k1 u10_8.n) ((u10_8.f k1).Curve.f k2).Flow ((u10_0.f (Int.toNat u10_13)).Curve.f k2).Flow) (cond (Nat.blt k1 u10_8.n) ((u10_8.f k1).Curve.f k2).Pressure ((u10_0.f (Int.toNat u10_13)).Curve.f k2).Pressure))))))), (Sq.mk (u10_9.n + 1) (fun k3 => (cond (Nat.blt k3 u10_9.n) (u10_9.f k3) (u10_5.f (Int.toNat u10_13))))), (wr (u10_13 + (1 : Int)))))) (
 .fail)) (
 .fail)) (
 .fail)) (
 .leaf (.next (u10_8, u10_9, (wr (u10_13 + (1 : Int))))))) (
 .fail)) (
 .leaf (.l (u10_8, u10_9)))
noncomputable def balance_junctionOf_l10_m : LpM := ⟨(Sq SFan) × (Sq SPlace) × (Sq SRoad) × (Sq SDoor) × (Sq Int) × (Sq Int) × (Sq SRoad) × (Sq Int) × Int × (Sq Int), (Sq SFan) × (Sq Int) × Int, (Sq SFan) × (Sq Int), Unit, fun p => ⟨[(4, .ptr 0 0), (5, .ptr 64 0), (9, .ptr 384 0), (10, .own 1280 0), (60, sqA 4 SFan.enc p.1.1), (61, .int .i64 ((p.1.1.n : Nat) : Int)), (62, .int .i64 p.2.2.2)], [(0, .var [sqA 2 SPlace.enc p.1.2.1, sqA 10 SRoad.enc p.1.2.2.1, sqA 4 SFan.enc p.1.1, sqA 3 SDoor.enc p.1.2.2.2.1]), (64, .var [sqA 1 (eI .i64) p.1.2.2.2.2.1, sqA 1 (eI .i64) p.1.2.2.2.2.2.1]), (321, rowA 0 10 71 SRoad.enc p.1.2.2.2.2.2.2.1), (322, rowA 0 4 99 SFan.enc p.2.1), (323, .nilrow 0), (324, rowA 0 1 3 (eI .i64) p.2.2.1), (325, .nilrow 0), (384, .var [sqA 2 SPlace.enc p.1.2.1, .own 321 0, .own 322 0, .own 323 0, .own 324 0, .own 325 0, sqA 1 (eI .i64) p.1.2.2.2.2.2.2.2.1, .int .i64 p.1.2.2.2.2.2.2.2.2.1]), (1280, rowA 0 1 3 (eI .i64) p.1.2.2.2.2.2.2.2.2.2)], 1856⟩, fun f v => balance_junctionOf_l10_step f.1 f.2.1 f.2.2.1 f.2.2.2.1 f.2.2.2.2.1 f.2.2.2.2.2.1 f.2.2.2.2.2.2.1 f.2.2.2.2.2.2.2.1 f.2.2.2.2.2.2.2.2.1 f.2.2.2.2.2.2.2.2.2 v.1 v.2.1 v.2.2, true, (.exit 2), (fun x a => ⟨[(4, .ptr 0 0), (5, .ptr 64 0), (9, .ptr 384 0), (10, .own 1280 0)], [(0, blkS x 0), (64, blkS x 64), (321, blkS x 321), (322, rowA 0 4 99 SFan.enc a.1), (323, .nilrow 0), (324, rowA 0 1 3 (eI .i64) a.2), (325, .nilrow 0), (384, blkS x 384), (1280, blkS x 1280)], 1856⟩), .ret, (fun _ _ => ⟨[], [], 0⟩), c1, c1k⟩
noncomputable def balance_junctionOf_l10 (u10_0 : Sq SFan) (u10_2 : Sq SPlace) (u10_3 : Sq SRoad) (u10_4 : Sq SDoor) (u10_5 u10_6 : Sq Int) (u10_7 : Sq SRoad) (u10_10 : Sq Int) (u10_11 : Int) (u10_12 : Sq Int) (u10_8 : Sq SFan) (u10_9 : Sq Int) (u10_13 : Int) : Option (((Sq SFan) × (Sq Int)) ⊕ (Unit)) := balance_junctionOf_l10_m.val ((u10_0, u10_2, u10_3, u10_4, u10_5, u10_6, u10_7, u10_10, u10_11, u10_12), (u10_8, u10_9, u10_13))
theorem balance_junctionOf_l10_eq (u10_0 : Sq SFan) (u10_2 : Sq SPlace) (u10_3 : Sq SRoad) (u10_4 : Sq SDoor) (u10_5 u10_6 : Sq Int) (u10_7 : Sq SRoad) (u10_10 : Sq Int) (u10_11 : Int) (u10_12 : Sq Int) (u10_8 : Sq SFan) (u10_9 : Sq Int) (u10_13 : Int) : balance_junctionOf_l10 u10_0 u10_2 u10_3 u10_4 u10_5 u10_6 u10_7 u10_10 u10_11 u10_12 u10_8 u10_9 u10_13 = fixO (fun v : (Sq SFan) × (Sq Int) × Int => balance_junctionOf_l10_step u10_0 u10_2 u10_3 u10_4 u10_5 u10_6 u10_7 u10_10 u10_11 u10_12 v.1 v.2.1 v.2.2) (u10_8, u10_9, u10_13) := balance_junctionOf_l10_m.val_eq (fun x => ((sqD SFan.dec (aget x.tm 60), sqD SPlace.dec (cellS x 0 0), sqD SRoad.dec (cellS x 0 1), sqD SDoor.dec (cellS x 0 3), sqD dI (cellS x 64 0), sqD dI (cellS x 64 1), sqB SRoad.dec (blkS x 321), sqD dI (cellS x 384 6), intA (cellS x 384 7), sqB dI (blkS x 1280)), (sqB SFan.dec (blkS x 322), sqB dI (blkS x 324), intA (aget x.tm 62)))) (fun p => by kernel_rfl) ((u10_0, u10_2, u10_3, u10_4, u10_5, u10_6, u10_7, u10_10, u10_11, u10_12), (u10_8, u10_9, u10_13))
noncomputable def balance_junctionOf_l18_step (u18_0 : Sq SDoor) (_u18_2 u18_3 : Sq Int) (_u18_4 : Sq SRoad) (_u18_5 : Sq SFan) (_u18_7 : Sq Int) (_u18_9 : Sq SPlace) (_u18_10 : Sq Int) (_u18_11 : Int) (u18_12 : Sq Int) (u18_6 : Sq SDoor) (u18_8 : Sq Int) (u18_13 : Int) : DT (LR ((Sq SDoor) × (Sq Int) × Int) ((Sq SDoor) × (Sq Int)) (Unit)) :=
 .ite (decide (u18_13 < ((u18_0.n : Nat) : Int))) (
 .ite (decide ((0 : Int) ≤ u18_13 ∧ u18_13 < ((u18_0.n : Nat) : Int))) (
 .bind (slices_Index u18_12 (u18_0.f (Int.toNat u18_13)).Road) fun z1 =>
 .ite (decide (z1 ≥ (0 : Int))) (
 .ite (decide ((u18_6.n + 1) * 40 ≤ 140737488355328 ∧ (u18_6.n + 1) ≤ 1099511627776)) (
 .ite (decide ((0 : Int) ≤ u18_13 ∧ u18_13 < ((u18_3.n : Nat) : Int))) (
 .ite (decide ((u18_8.n + 1) * 8 ≤ 140737488355328 ∧ (u18_8.n + 1) ≤ 1099511627776)) (
 .leaf (.next ((Sq.mk (u18_6.n + 1) (fun k4 => (SDoor.mk (cond (Nat.blt k4 u18_6.n) (u18_6.f k4).Road z1) (cond (Nat.blt k4 u18_6.n) (u18_6.f k4).Other (-1 : Int)) (Sq.mk (cond (Nat.blt k4 u18_6.n) (u18_6.f k4).Rests.n (u18_0.f (Int.toNat u18_13)).Rests.n) (fun k5 => (cond (Nat.blt k4 u18_6.n) ((u18_6.f k4).Rests.f k5) ((u18_0.f (Int.toNat u18_13)).Rests.f k5))))))), (Sq.mk (u18_8.n + 1) (fun k6 => (cond (Nat.blt k6 u18_8.n) (u18_8.f k6) (u18_3.f (Int.toNat u18_13))))), (wr (u18_13 + (1 : Int)))))) (
 .fail)) (
 .fail)) (
 .fail)) (
 .leaf (.next (u18_6, u18_8, (wr (u18_13 + (1 : Int))))))) (
 .fail)) (
 .leaf (.l (u18_6, u18_8)))
noncomputable def balance_junctionOf_l18_m : LpM := ⟨(Sq SDoor) × (Sq Int) × (Sq Int) × (Sq SRoad) × (Sq SFan) × (Sq Int) × (Sq SPlace) × (Sq Int) × Int × (Sq Int), (Sq SDoor) × (Sq Int) × Int, (Sq SDoor) × (Sq Int), Unit, fun p => ⟨[(5, .ptr 64 0), (9, .ptr 384 0), (10, .own 1280 0), (105, sqA 3 SDoor.enc p.1.1), (106, .int .i64 ((p.1.1.n : Nat) : Int)), (107, .int .i64 p.2.2.2)], [(64, .var [sqA 1 (eI .i64) p.1.2.1, sqA 1 (eI .i64) p.1.2.2.1]), (321, rowA 0 10 71 SRoad.enc p.1.2.2.2.1), (322, rowA 0 4 99 SFan.enc p.1.2.2.2.2.1), (323, rowA 0 3 61 SDoor.enc p.2.1), (324, rowA 0 1 3 (eI .i64) p.1.2.2.2.2.2.1), (325, rowA 0 1 3 (eI .i64) p.2.2.1), (384, .var [sqA 2 SPlace.enc p.1.2.2.2.2.2.2.1, .own 321 0, .own 322 0, .own 323 0, .own 324 0, .own 325 0, sqA 1 (eI .i64) p.1.2.2.2.2.2.2.2.1, .int .i64 p.1.2.2.2.2.2.2.2.2.1]), (1280, rowA 0 1 3 (eI .i64) p.1.2.2.2.2.2.2.2.2.2)], 2112⟩, fun f v => balance_junctionOf_l18_step f.1 f.2.1 f.2.2.1 f.2.2.2.1 f.2.2.2.2.1 f.2.2.2.2.2.1 f.2.2.2.2.2.2.1 f.2.2.2.2.2.2.2.1 f.2.2.2.2.2.2.2.2.1 f.2.2.2.2.2.2.2.2.2 v.1 v.2.1 v.2.2, true, (.exit 4), (fun x a => ⟨[(9, .ptr 384 0)], [(64, blkS x 64), (321, blkS x 321), (322, blkS x 322), (323, rowA 0 3 61 SDoor.enc a.1), (324, blkS x 324), (325, rowA 0 1 3 (eI .i64) a.2), (384, blkS x 384), (1280, blkS x 1280)], 2112⟩), .ret, (fun _ _ => ⟨[], [], 0⟩), c1, c1k⟩
noncomputable def balance_junctionOf_l18 (u18_0 : Sq SDoor) (u18_2 u18_3 : Sq Int) (u18_4 : Sq SRoad) (u18_5 : Sq SFan) (u18_7 : Sq Int) (u18_9 : Sq SPlace) (u18_10 : Sq Int) (u18_11 : Int) (u18_12 : Sq Int) (u18_6 : Sq SDoor) (u18_8 : Sq Int) (u18_13 : Int) : Option (((Sq SDoor) × (Sq Int)) ⊕ (Unit)) := balance_junctionOf_l18_m.val ((u18_0, u18_2, u18_3, u18_4, u18_5, u18_7, u18_9, u18_10, u18_11, u18_12), (u18_6, u18_8, u18_13))
theorem balance_junctionOf_l18_eq (u18_0 : Sq SDoor) (u18_2 u18_3 : Sq Int) (u18_4 : Sq SRoad) (u18_5 : Sq SFan) (u18_7 : Sq Int) (u18_9 : Sq SPlace) (u18_10 : Sq Int) (u18_11 : Int) (u18_12 : Sq Int) (u18_6 : Sq SDoor) (u18_8 : Sq Int) (u18_13 : Int) : balance_junctionOf_l18 u18_0 u18_2 u18_3 u18_4 u18_5 u18_7 u18_9 u18_10 u18_11 u18_12 u18_6 u18_8 u18_13 = fixO (fun v : (Sq SDoor) × (Sq Int) × Int => balance_junctionOf_l18_step u18_0 u18_2 u18_3 u18_4 u18_5 u18_7 u18_9 u18_10 u18_11 u18_12 v.1 v.2.1 v.2.2) (u18_6, u18_8, u18_13) := balance_junctionOf_l18_m.val_eq (fun x => ((sqD SDoor.dec (aget x.tm 105), sqD dI (cellS x 64 0), sqD dI (cellS x 64 1), sqB SRoad.dec (blkS x 321), sqB SFan.dec (blkS x 322), sqB dI (blkS x 324), sqD SPlace.dec (cellS x 384 0), sqD dI (cellS x 384 6), intA (cellS x 384 7), sqB dI (blkS x 1280)), (sqB SDoor.dec (blkS x 323), sqB dI (blkS x 325), intA (aget x.tm 107)))) (fun p => by kernel_rfl) ((u18_0, u18_2, u18_3, u18_4, u18_5, u18_7, u18_9, u18_10, u18_11, u18_12), (u18_6, u18_8, u18_13))
noncomputable def balance_junctionOf_t (a : SAir) (s : SSetting) (pressures : Sq Int) (place : Int) : DT (Sjunction) :=
 .bind (plan_Roads a.Mine place) fun z2 =>
 .sum (balance_junctionOf_l5 a.Mine.Places a.Mine.Roads a.Fans a.Doors s.Fans s.Doors pressures place z2 (Sq.mk 0 (fun _ => (SRoad.mk (0 : Int) (0 : Int) (0 : Int) (0 : Int) false false (SSpan.mk (0 : Int) (0 : Int)) (SSpan.mk (0 : Int) (0 : Int))))) (0 : Int)) (fun y0 =>
 .sum (balance_junctionOf_l10 a.Fans a.Mine.Places a.Mine.Roads a.Doors s.Fans s.Doors y0 pressures place z2 (Sq.mk 0 (fun _ => (SFan.mk (0 : Int) false false (Sq.mk 0 (fun _ => (SPoint.mk (0 : Int) (0 : Int))))))) (Sq.mk 0 (fun _ => (0 : Int))) (0 : Int)) (fun y1 =>
 .sum (balance_junctionOf_l18 a.Doors s.Fans s.Doors y0 y1.1 y1.2 a.Mine.Places pressures place z2 (Sq.mk 0 (fun _ => (SDoor.mk (0 : Int) (0 : Int) (Sq.mk 0 (fun _ => (0 : Int)))))) (Sq.mk 0 (fun _ => (0 : Int))) (0 : Int)) (fun y2 =>
 .leaf (Sjunction.mk (SAir.mk (SMine.mk a.Mine.Places y0) y1.1 y2.1) (SSetting.mk y1.2 y2.2) pressures place)) (fun _ => .fail)) (fun _ => .fail)) (fun _ => .fail)
noncomputable def balance_junctionOf_m : FnM := nfM (SAir × SSetting × (Sq Int) × Int) (Sjunction) (fun p => ([.agg (SAir.enc p.1), .agg (SSetting.enc p.2.1), sqA 1 (eI .i64) p.2.2.1, .int .i64 p.2.2.2], [])) (fun p => balance_junctionOf_t p.1 p.2.1 p.2.2.1 p.2.2.2) (fun _ => .ptr 0 0) (fun _ r => [.var [sqA 2 SPlace.enc r.air_.Mine.Places, .own 1 0, .own 2 0, .own 3 0, .own 4 0, .own 5 0, sqA 1 (eI .i64) r.pressures_, .int .i64 r.place_], rowA 0 10 71 SRoad.enc r.air_.Mine.Roads, rowA 0 4 99 SFan.enc r.air_.Fans, rowA 0 3 61 SDoor.enc r.air_.Doors, rowA 0 1 3 (eI .i64) r.setting_.Fans, rowA 0 1 3 (eI .i64) r.setting_.Doors])
noncomputable def balance_junctionOf_env : Env := envM [(78, plan_Roads_m.c), (71, slices_Index_m.c)] [(5, [4, 5, 9, 10, 33, 34, 35], [4, 5, 9, 10]), (10, [4, 5, 9, 10, 60, 61, 62], [4, 5, 9, 10]), (18, [5, 9, 10, 105, 106, 107], [9])] [(5, balance_junctionOf_l5_m.c), (10, balance_junctionOf_l10_m.c), (18, balance_junctionOf_l18_m.c)] [(1000005, [.asrow 321 71 10 (fun _ => SRoad.enc (SRoad.mk (0 : Int) (0 : Int) (0 : Int) (0 : Int) false false (SSpan.mk (0 : Int) (0 : Int)) (SSpan.mk (0 : Int) (0 : Int))))]), (1000010, [.asrow 322 99 4 (fun _ => SFan.enc (SFan.mk (0 : Int) false false (Sq.mk 0 (fun _ => (SPoint.mk (0 : Int) (0 : Int)))))), .asrow 324 3 1 (fun _ => (eI .i64) (0 : Int))]), (1000018, [.asrow 323 61 3 (fun _ => SDoor.enc (SDoor.mk (0 : Int) (0 : Int) (Sq.mk 0 (fun _ => (0 : Int))))), .asrow 325 3 1 (fun _ => (eI .i64) (0 : Int))])] [(5, [0, 64, 321, 322, 323, 324, 325, 384, 1280]), (10, [0, 64, 321, 322, 323, 324, 325, 384, 1280]), (18, [64, 321, 322, 323, 324, 325, 384, 1280])] 0
noncomputable def balance_junctionOf_e : Env := { balance_junctionOf_env with nt := 151 }
theorem balance_junctionOf_l5_tells : LoopTells balance_junctionOf_e (loopOf 5 Tryz.f54) balance_junctionOf_l5_m.c := balance_junctionOf_l5_m.tells 1600 (fun _ => by kernel_rfl) (fun _ _ _ _ => by kernel_rfl) (fun _ _ _ _ => by kernel_rfl) fun R f v N K => by kernel_rfl
theorem balance_junctionOf_l10_tells : LoopTells balance_junctionOf_e (loopOf 10 Tryz.f54) balance_junctionOf_l10_m.c := balance_junctionOf_l10_m.tells 1856 (fun _ => by kernel_rfl) (fun _ _ _ _ => by kernel_rfl) (fun _ _ _ _ => by kernel_rfl) fun R f v N K => by kernel_rfl
theorem balance_junctionOf_l18_tells : LoopTells balance_junctionOf_e (loopOf 18 Tryz.f54) balance_junctionOf_l18_m.c := balance_junctionOf_l18_m.tells 2112 (fun _ => by kernel_rfl) (fun _ _ _ _ => by kernel_rfl) (fun _ _ _ _ => by kernel_rfl) fun R f v N K => by kernel_rfl
theorem balance_junctionOf_tells : Tells Tryz.prog 54 balance_junctionOf_m.c := balance_junctionOf_m.tells Tryz.func54 (show ∀ p, arun balance_junctionOf_env Tryz.f54 (balance_junctionOf_m.enc p).1 (balance_junctionOf_m.enc p).2 = _ from fun p => by kernel_rfl) (loopsL [loopOf 5 Tryz.f54, loopOf 10 Tryz.f54, loopOf 18 Tryz.f54] (by kernel_rfl) ⟨lpT (by kernel_rfl) balance_junctionOf_l5_tells, ⟨lpT (by kernel_rfl) balance_junctionOf_l10_tells, ⟨lpT (by kernel_rfl) balance_junctionOf_l18_tells, trivial⟩⟩⟩) (.cons plan_Roads_tells (.cons slices_Index_tells .nil))
noncomputable def balance_junctionOf (a : SAir) (s : SSetting) (pressures : Sq Int) (place : Int) : Option (Sjunction) := balance_junctionOf_m.val (a, s, pressures, place)
theorem balance_junctionOf_eq (a : SAir) (s : SSetting) (pressures : Sq Int) (place : Int) : balance_junctionOf a s pressures place = (balance_junctionOf_t a s pressures place).get := balance_junctionOf_m.val_eq (fun x => (SAir.dec (aggL (gd x.1 0)), SSetting.dec (aggL (gd x.1 1)), sqD dI (gd x.1 2), intA (gd x.1 3))) (fun p => by kernel_rfl) (a, s, pressures, place)

/-! minecontrol/door.Rest -/
noncomputable def door_Rest_t (d : SDoor) (state : Int) : DT (SSpan) :=
 .bind (door_has ((d.Rests.n : Nat) : Int) state) fun z0 =>
 .ite z0 (
 .ite (decide ((0 : Int) ≤ state ∧ state < ((d.Rests.n : Nat) : Int))) (
 .ite (decide ((0 : Int) ≤ state ∧ state < ((d.Rests.n : Nat) : Int))) (.leaf (SSpan.mk (d.Rests.f (Int.toNat state)) (d.Rests.f (Int.toNat state)))) (.fail)) (
 .fail)) (
 .ite (state == (-1 : Int)) (
 .ite (decide (((d.Rests.n : Nat) : Int) > (0 : Int))) (
 .bind (slices_Min d.Rests) fun z1 =>
 .bind (slices_Max d.Rests) fun z2 =>
 .leaf (SSpan.mk z1 z2)) (
 .leaf (SSpan.mk (0 : Int) (0 : Int)))) (
 .leaf (SSpan.mk (0 : Int) (0 : Int))))
noncomputable def door_Rest_m : FnM := flM (SDoor × Int) (SSpan) (fun p => ([.agg (SDoor.enc p.1), .int .i64 p.2], [])) (fun p => door_Rest_t p.1 p.2) (fun r => .agg (SSpan.enc r)) (fun _ => rfl)
noncomputable def door_Rest_env : Env := envM [(122, door_has_m.c), (123, slices_Min_m.c), (124, slices_Max_m.c)] [] [] [] [] 0
theorem door_Rest_tells : Tells Tryz.prog 98 door_Rest_m.c := door_Rest_m.tells Tryz.func98 (show ∀ p, arun door_Rest_env Tryz.f98 (door_Rest_m.enc p).1 (door_Rest_m.enc p).2 = _ from fun p => by kernel_rfl) noLoops (.cons door_has_tells (.cons slices_Min_tells (.cons slices_Max_tells .nil)))
noncomputable def door_Rest (d : SDoor) (state : Int) : Option (SSpan) := door_Rest_m.val (d, state)
theorem door_Rest_eq (d : SDoor) (state : Int) : door_Rest d state = (door_Rest_t d state).get := door_Rest_m.val_eq (fun x => (SDoor.dec (aggL (gd x.1 0)), intA (gd x.1 1))) (fun p => by kernel_rfl) (d, state)

/-! minecontrol/branch.plus -/
noncomputable def branch_plus_t (s t : SSpan) : DT (SSpan) :=
 .leaf (SSpan.mk (wr (s.Low + t.Low)) (wr (s.High + t.High)))
noncomputable def branch_plus_m : FnM := flM (SSpan × SSpan) (SSpan) (fun p => ([.agg (SSpan.enc p.1), .agg (SSpan.enc p.2)], [])) (fun p => branch_plus_t p.1 p.2) (fun r => .agg (SSpan.enc r)) (fun _ => rfl)
noncomputable def branch_plus_env : Env := envM [] [] [] [] [] 0
theorem branch_plus_tells : Tells Tryz.prog 97 branch_plus_m.c := branch_plus_m.tells Tryz.func97 (show ∀ p, arun branch_plus_env Tryz.f97 (branch_plus_m.enc p).1 (branch_plus_m.enc p).2 = _ from fun p => by kernel_rfl) noLoops .nil
noncomputable def branch_plus (s t : SSpan) : Option (SSpan) := branch_plus_m.val (s, t)
theorem branch_plus_eq (s t : SSpan) : branch_plus s t = (branch_plus_t s t).get := branch_plus_m.val_eq (fun x => (SSpan.dec (aggL (gd x.1 0)), SSpan.dec (aggL (gd x.1 1)))) (fun p => by kernel_rfl) (s, t)

/-! minecontrol/branch.airwayOf -/
noncomputable def branch_airwayOf_l3_step (u3_0 : Int) (u3_1 : Sq SDoor) (_u3_3 : Sq SPlace) (_u3_4 : Sq SRoad) (_u3_5 : Sq SFan) (_u3_6 u3_7 : Sq Int) (_u3_8 _u3_9 _u3_10 _u3_11 : Int) (_u3_12 _u3_13 : Bool) (_u3_16 _u3_17 u3_14 u3_15 u3_18 : Int) : DT (LR (Int × Int × Int) (Int × Int) (Unit)) :=
 .ite (decide (u3_18 < ((u3_1.n : Nat) : Int))) (
 .ite (decide ((0 : Int) ≤ u3_18 ∧ u3_18 < ((u3_1.n : Nat) : Int))) (
 .ite ((u3_1.f (Int.toNat u3_18)).Road == u3_0) (
 .ite (decide ((0 : Int) ≤ u3_18 ∧ u3_18 < ((u3_7.n : Nat) : Int))) (
 .bind (door_Rest (u3_1.f (Int.toNat u3_18)) (u3_7.f (Int.toNat u3_18))) fun z0 =>
 .bind (branch_plus (SSpan.mk u3_14 u3_15) z0) fun z1 =>
 .leaf (.next (z1.Low, z1.High, (wr (u3_18 + (1 : Int)))))) (
 .fail)) (
 .leaf (.next (u3_14, u3_15, (wr (u3_18 + (1 : Int))))))) (
 .fail)) (
 .leaf (.l (u3_14, u3_15)))
noncomputable def branch_airwayOf_l3_m : LpM := ⟨Int × (Sq SDoor) × (Sq SPlace) × (Sq SRoad) × (Sq SFan) × (Sq Int) × (Sq Int) × Int × Int × Int × Int × Bool × Bool × Int × Int, Int × Int × Int, Int × Int, Unit, fun p => ⟨[(2, .int .i64 p.1.1), (3, .ptr 0 0), (4, .ptr 64 0), (6, .ptr 128 0), (7, .ptr 640 0), (20, sqA 3 SDoor.enc p.1.2.1), (21, .int .i64 ((p.1.2.1.n : Nat) : Int)), (22, .int .i64 p.2.2.2)], [(0, .var [sqA 2 SPlace.enc p.1.2.2.1, sqA 10 SRoad.enc p.1.2.2.2.1, sqA 4 SFan.enc p.1.2.2.2.2.1, sqA 3 SDoor.enc p.1.2.1]), (64, .var [sqA 1 (eI .i64) p.1.2.2.2.2.2.1, sqA 1 (eI .i64) p.1.2.2.2.2.2.2.1]), (128, .var [.int .i64 (0 : Int), .int .i64 (0 : Int), .int .i64 (0 : Int), .int .i64 (0 : Int), .bool false, .bool false, .int .i64 (0 : Int), .int .i64 (0 : Int), .int .i64 (0 : Int), .int .i64 (0 : Int), .own 129 0]), (129, .nilrow 0), (576, .nilrow 0), (640, .var [.int .i64 p.1.2.2.2.2.2.2.2.1, .int .i64 p.1.2.2.2.2.2.2.2.2.1, .int .i64 p.1.2.2.2.2.2.2.2.2.2.1, .int .i64 p.1.2.2.2.2.2.2.2.2.2.2.1, .bool p.1.2.2.2.2.2.2.2.2.2.2.2.1, .bool p.1.2.2.2.2.2.2.2.2.2.2.2.2.1, .int .i64 p.2.1, .int .i64 p.2.2.1, .int .i64 p.1.2.2.2.2.2.2.2.2.2.2.2.2.2.1, .int .i64 p.1.2.2.2.2.2.2.2.2.2.2.2.2.2.2, .own 576 0])], 1024⟩, fun f v => branch_airwayOf_l3_step f.1 f.2.1 f.2.2.1 f.2.2.2.1 f.2.2.2.2.1 f.2.2.2.2.2.1 f.2.2.2.2.2.2.1 f.2.2.2.2.2.2.2.1 f.2.2.2.2.2.2.2.2.1 f.2.2.2.2.2.2.2.2.2.1 f.2.2.2.2.2.2.2.2.2.2.1 f.2.2.2.2.2.2.2.2.2.2.2.1 f.2.2.2.2.2.2.2.2.2.2.2.2.1 f.2.2.2.2.2.2.2.2.2.2.2.2.2.1 f.2.2.2.2.2.2.2.2.2.2.2.2.2.2 v.1 v.2.1 v.2.2, true, (.exit 0), (fun x a => ⟨[(2, aget x.tm 2), (3, .ptr 0 0), (4, .ptr 64 0), (6, .ptr 128 0), (7, .ptr 640 0)], [(0, blkS x 0), (64, blkS x 64), (128, .var [.int .i64 (0 : Int), .int .i64 (0 : Int), .int .i64 (0 : Int), .int .i64 (0 : Int), .bool false, .bool false, .int .i64 (0 : Int), .int .i64 (0 : Int), .int .i64 (0 : Int), .int .i64 (0 : Int), .own 129 0]), (129, .nilrow 0), (576, .nilrow 0), (640, .var [cellS x 640 0, cellS x 640 1, cellS x 640 2, cellS x 640 3, cellS x 640 4, cellS x 640 5, .int .i64 a.1, .int .i64 a.2, cellS x 640 8, cellS x 640 9, .own 576 0])], 1024⟩), .ret, (fun _ _ => ⟨[], [], 0⟩), c1, c1k⟩
noncomputable def branch_airwayOf_l3 (u3_0 : Int) (u3_1 : Sq SDoor) (u3_3 : Sq SPlace) (u3_4 : Sq SRoad) (u3_5 : Sq SFan) (u3_6 u3_7 : Sq Int) (u3_8 u3_9 u3_10 u3_11 : Int) (u3_12 u3_13 : Bool) (u3_16 u3_17 u3_14 u3_15 u3_18 : Int) : Option ((Int × Int) ⊕ (Unit)) := branch_airwayOf_l3_m.val ((u3_0, u3_1, u3_3, u3_4, u3_5, u3_6, u3_7, u3_8, u3_9, u3_10, u3_11, u3_12, u3_13, u3_16, u3_17), (u3_14, u3_15, u3_18))
theorem branch_airwayOf_l3_eq (u3_0 : Int) (u3_1 : Sq SDoor) (u3_3 : Sq SPlace) (u3_4 : Sq SRoad) (u3_5 : Sq SFan) (u3_6 u3_7 : Sq Int) (u3_8 u3_9 u3_10 u3_11 : Int) (u3_12 u3_13 : Bool) (u3_16 u3_17 u3_14 u3_15 u3_18 : Int) : branch_airwayOf_l3 u3_0 u3_1 u3_3 u3_4 u3_5 u3_6 u3_7 u3_8 u3_9 u3_10 u3_11 u3_12 u3_13 u3_16 u3_17 u3_14 u3_15 u3_18 = fixO (fun v : Int × Int × Int => branch_airwayOf_l3_step u3_0 u3_1 u3_3 u3_4 u3_5 u3_6 u3_7 u3_8 u3_9 u3_10 u3_11 u3_12 u3_13 u3_16 u3_17 v.1 v.2.1 v.2.2) (u3_14, u3_15, u3_18) := branch_airwayOf_l3_m.val_eq (fun x => ((intA (aget x.tm 2), sqD SDoor.dec (aget x.tm 20), sqD SPlace.dec (cellS x 0 0), sqD SRoad.dec (cellS x 0 1), sqD SFan.dec (cellS x 0 2), sqD dI (cellS x 64 0), sqD dI (cellS x 64 1), intA (cellS x 640 0), intA (cellS x 640 1), intA (cellS x 640 2), intA (cellS x 640 3), boolA (cellS x 640 4), boolA (cellS x 640 5), intA (cellS x 640 8), intA (cellS x 640 9)), (intA (cellS x 640 6), intA (cellS x 640 7), intA (aget x.tm 22)))) (fun p => by kernel_rfl) ((u3_0, u3_1, u3_3, u3_4, u3_5, u3_6, u3_7, u3_8, u3_9, u3_10, u3_11, u3_12, u3_13, u3_16, u3_17), (u3_14, u3_15, u3_18))
noncomputable def branch_airwayOf_l9_step (u9_0 : Int) (u9_1 : Sq SFan) (u9_3 _u9_4 : Sq Int) (_u9_6 _u9_7 _u9_8 _u9_9 : Int) (_u9_10 _u9_11 : Bool) (_u9_12 _u9_13 _u9_14 _u9_15 : Int) (u9_5 : Sq Sblower) (u9_16 : Int) : DT (LR ((Sq Sblower) × Int) ((Sq Sblower)) (Unit)) :=
 .ite (decide (u9_16 < ((u9_1.n : Nat) : Int))) (
 .ite (decide ((0 : Int) ≤ u9_16 ∧ u9_16 < ((u9_1.n : Nat) : Int))) (
 .ite ((u9_1.f (Int.toNat u9_16)).Road == u9_0) (
 .ite (decide ((0 : Int) ≤ u9_16 ∧ u9_16 < ((u9_3.n : Nat) : Int))) (
 .ite (decide ((u9_5.n + 1) * 48 ≤ 140737488355328 ∧ (u9_5.n + 1) ≤ 1099511627776)) (
 .leaf (.next ((Sq.mk (u9_5.n + 1) (fun k0 => (Sblower.mk (SFan.mk (cond (Nat.blt k0 u9_5.n) (u9_5.f k0).Fan.Road (u9_1.f (Int.toNat u9_16)).Road) (cond (Nat.blt k0 u9_5.n) (u9_5.f k0).Fan.Back (u9_1.f (Int.toNat u9_16)).Back) (cond (Nat.blt k0 u9_5.n) (u9_5.f k0).Fan.Auxiliary (u9_1.f (Int.toNat u9_16)).Auxiliary) (Sq.mk (cond (Nat.blt k0 u9_5.n) (u9_5.f k0).Fan.Curve.n (u9_1.f (Int.toNat u9_16)).Curve.n) (fun k1 => (SPoint.mk (cond (Nat.blt k0 u9_5.n) ((u9_5.f k0).Fan.Curve.f k1).Flow ((u9_1.f (Int.toNat u9_16)).Curve.f k1).Flow) (cond (Nat.blt k0 u9_5.n) ((u9_5.f k0).Fan.Curve.f k1).Pressure ((u9_1.f (Int.toNat u9_16)).Curve.f k1).Pressure))))) (cond (Nat.blt k0 u9_5.n) (u9_5.f k0).state_ (u9_3.f (Int.toNat u9_16)))))), (wr (u9_16 + (1 : Int)))))) (
 .fail)) (
 .fail)) (
 .leaf (.next (u9_5, (wr (u9_16 + (1 : Int))))))) (
 .fail)) (
 .leaf (.l u9_5))
noncomputable def branch_airwayOf_l9_m : LpM := ⟨Int × (Sq SFan) × (Sq Int) × (Sq Int) × Int × Int × Int × Int × Bool × Bool × Int × Int × Int × Int, (Sq Sblower) × Int, (Sq Sblower), Unit, fun p => ⟨[(2, .int .i64 p.1.1), (4, .ptr 64 0), (6, .ptr 128 0), (7, .ptr 640 0), (46, sqA 4 SFan.enc p.1.2.1), (47, .int .i64 ((p.1.2.1.n : Nat) : Int)), (48, .int .i64 p.2.2)], [(64, .var [sqA 1 (eI .i64) p.1.2.2.1, sqA 1 (eI .i64) p.1.2.2.2.1]), (128, .var [.int .i64 (0 : Int), .int .i64 (0 : Int), .int .i64 (0 : Int), .int .i64 (0 : Int), .bool false, .bool false, .int .i64 (0 : Int), .int .i64 (0 : Int), .int .i64 (0 : Int), .int .i64 (0 : Int), .own 129 0]), (129, .nilrow 0), (576, rowA 0 5 142 Sblower.enc p.2.1), (640, .var [.int .i64 p.1.2.2.2.2.1, .int .i64 p.1.2.2.2.2.2.1, .int .i64 p.1.2.2.2.2.2.2.1, .int .i64 p.1.2.2.2.2.2.2.2.1, .bool p.1.2.2.2.2.2.2.2.2.1, .bool p.1.2.2.2.2.2.2.2.2.2.1, .int .i64 p.1.2.2.2.2.2.2.2.2.2.2.1, .int .i64 p.1.2.2.2.2.2.2.2.2.2.2.2.1, .int .i64 p.1.2.2.2.2.2.2.2.2.2.2.2.2.1, .int .i64 p.1.2.2.2.2.2.2.2.2.2.2.2.2.2, .own 576 0])], 1280⟩, fun f v => branch_airwayOf_l9_step f.1 f.2.1 f.2.2.1 f.2.2.2.1 f.2.2.2.2.1 f.2.2.2.2.2.1 f.2.2.2.2.2.2.1 f.2.2.2.2.2.2.2.1 f.2.2.2.2.2.2.2.2.1 f.2.2.2.2.2.2.2.2.2.1 f.2.2.2.2.2.2.2.2.2.2.1 f.2.2.2.2.2.2.2.2.2.2.2.1 f.2.2.2.2.2.2.2.2.2.2.2.2.1 f.2.2.2.2.2.2.2.2.2.2.2.2.2 v.1 v.2, true, (.exit 2), (fun x a => ⟨[(6, .ptr 128 0), (7, .ptr 640 0)], [(64, blkS x 64), (128, .var [.int .i64 (0 : Int), .int .i64 (0 : Int), .int .i64 (0 : Int), .int .i64 (0 : Int), .bool false, .bool false, .int .i64 (0 : Int), .int .i64 (0 : Int), .int .i64 (0 : Int), .int .i64 (0 : Int), .own 129 0]), (129, .nilrow 0), (576, rowA 0 5 142 Sblower.enc a), (640, blkS x 640)], 1280⟩), .ret, (fun _ _ => ⟨[], [], 0⟩), c1, c1k⟩
noncomputable def branch_airwayOf_l9 (u9_0 : Int) (u9_1 : Sq SFan) (u9_3 u9_4 : Sq Int) (u9_6 u9_7 u9_8 u9_9 : Int) (u9_10 u9_11 : Bool) (u9_12 u9_13 u9_14 u9_15 : Int) (u9_5 : Sq Sblower) (u9_16 : Int) : Option (((Sq Sblower)) ⊕ (Unit)) := branch_airwayOf_l9_m.val ((u9_0, u9_1, u9_3, u9_4, u9_6, u9_7, u9_8, u9_9, u9_10, u9_11, u9_12, u9_13, u9_14, u9_15), (u9_5, u9_16))
theorem branch_airwayOf_l9_eq (u9_0 : Int) (u9_1 : Sq SFan) (u9_3 u9_4 : Sq Int) (u9_6 u9_7 u9_8 u9_9 : Int) (u9_10 u9_11 : Bool) (u9_12 u9_13 u9_14 u9_15 : Int) (u9_5 : Sq Sblower) (u9_16 : Int) : branch_airwayOf_l9 u9_0 u9_1 u9_3 u9_4 u9_6 u9_7 u9_8 u9_9 u9_10 u9_11 u9_12 u9_13 u9_14 u9_15 u9_5 u9_16 = fixO (fun v : (Sq Sblower) × Int => branch_airwayOf_l9_step u9_0 u9_1 u9_3 u9_4 u9_6 u9_7 u9_8 u9_9 u9_10 u9_11 u9_12 u9_13 u9_14 u9_15 v.1 v.2) (u9_5, u9_16) := branch_airwayOf_l9_m.val_eq (fun x => ((intA (aget x.tm 2), sqD SFan.dec (aget x.tm 46), sqD dI (cellS x 64 0), sqD dI (cellS x 64 1), intA (cellS x 640 0), intA (cellS x 640 1), intA (cellS x 640 2), intA (cellS x 640 3), boolA (cellS x 640 4), boolA (cellS x 640 5), intA (cellS x 640 6), intA (cellS x 640 7), intA (cellS x 640 8), intA (cellS x 640 9)), (sqB Sblower.dec (blkS x 576), intA (aget x.tm 48)))) (fun p => by kernel_rfl) ((u9_0, u9_1, u9_3, u9_4, u9_6, u9_7, u9_8, u9_9, u9_10, u9_11, u9_12, u9_13, u9_14, u9_15), (u9_5, u9_16))
noncomputable def branch_airwayOf_t (a : SAir) (s : SSetting) (road : Int) : DT (Sairway) :=
 .ite (decide ((0 : Int) ≤ road ∧ road < ((a.Mine.Roads.n : Nat) : Int))) (
 .sum (branch_airwayOf_l3 road a.Doors a.Mine.Places a.Mine.Roads a.Fans s.Fans s.Doors (a.Mine.Roads.f (Int.toNat road)).From (a.Mine.Roads.f (Int.toNat road)).To (a.Mine.Roads.f (Int.toNat road)).Length (a.Mine.Roads.f (Int.toNat road)).Area (a.Mine.Roads.f (Int.toNat road)).Walk (a.Mine.Roads.f (Int.toNat road)).Closed (a.Mine.Roads.f (Int.toNat road)).Lift.Low (a.Mine.Roads.f (Int.toNat road)).Lift.High (a.Mine.Roads.f (Int.toNat road)).Rest.Low (a.Mine.Roads.f (Int.toNat road)).Rest.High (0 : Int)) (fun y0 =>
 .sum (branch_airwayOf_l9 road a.Fans s.Fans s.Doors (a.Mine.Roads.f (Int.toNat road)).From (a.Mine.Roads.f (Int.toNat road)).To (a.Mine.Roads.f (Int.toNat road)).Length (a.Mine.Roads.f (Int.toNat road)).Area (a.Mine.Roads.f (Int.toNat road)).Walk (a.Mine.Roads.f (Int.toNat road)).Closed y0.1 y0.2 (a.Mine.Roads.f (Int.toNat road)).Lift.Low (a.Mine.Roads.f (Int.toNat road)).Lift.High (Sq.mk 0 (fun _ => (Sblower.mk (SFan.mk (0 : Int) false false (Sq.mk 0 (fun _ => (SPoint.mk (0 : Int) (0 : Int))))) (0 : Int)))) (0 : Int)) (fun y1 =>
 .leaf (Sairway.mk (SRoad.mk (a.Mine.Roads.f (Int.toNat road)).From (a.Mine.Roads.f (Int.toNat road)).To (a.Mine.Roads.f (Int.toNat road)).Length (a.Mine.Roads.f (Int.toNat road)).Area (a.Mine.Roads.f (Int.toNat road)).Walk (a.Mine.Roads.f (Int.toNat road)).Closed (SSpan.mk y0.1 y0.2) (a.Mine.Roads.f (Int.toNat road)).Lift) y1)) (fun _ => .fail)) (fun _ => .fail)) (
 .fail)
noncomputable def branch_airwayOf_m : FnM := nfM (SAir × SSetting × Int) (Sairway) (fun p => ([.agg (SAir.enc p.1), .agg (SSetting.enc p.2.1), .int .i64 p.2.2], [])) (fun p => branch_airwayOf_t p.1 p.2.1 p.2.2) (fun r => .agg [.int .i64 r.Road.From, .int .i64 r.Road.To, .int .i64 r.Road.Length, .int .i64 r.Road.Area, .bool r.Road.Walk, .bool r.Road.Closed, .int .i64 r.Road.Rest.Low, .int .i64 r.Road.Rest.High, .int .i64 r.Road.Lift.Low, .int .i64 r.Road.Lift.High, .own 0 0]) (fun _ r => [rowA 0 5 142 Sblower.enc r.blowers_])
noncomputable def branch_airwayOf_env : Env := envM [(98, door_Rest_m.c), (97, branch_plus_m.c)] [(3, [2, 3, 4, 6, 7, 20, 21, 22], [2, 3, 4, 6, 7]), (9, [2, 4, 6, 7, 46, 47, 48], [6, 7])] [(3, branch_airwayOf_l3_m.c), (9, branch_airwayOf_l9_m.c)] [(1000009, [.asrow 576 142 5 (fun _ => Sblower.enc (Sblower.mk (SFan.mk (0 : Int) false false (Sq.mk 0 (fun _ => (SPoint.mk (0 : Int) (0 : Int))))) (0 : Int)))])] [(3, [0, 64, 128, 129, 576, 640]), (9, [64, 128, 129, 576, 640])] 0
noncomputable def branch_airwayOf_e : Env := { branch_airwayOf_env with nt := 71 }
theorem branch_airwayOf_l3_tells : LoopTells branch_airwayOf_e (loopOf 3 Tryz.f75) branch_airwayOf_l3_m.c := branch_airwayOf_l3_m.tells 1024 (fun _ => by kernel_rfl) (fun _ _ _ _ => by kernel_rfl) (fun _ _ _ _ => by kernel_rfl) fun R f v N K => by kernel_rfl
theorem branch_airwayOf_l9_tells : LoopTells branch_airwayOf_e (loopOf 9 Tryz.f75) branch_airwayOf_l9_m.c := branch_airwayOf_l9_m.tells 1280 (fun _ => by kernel_rfl) (fun _ _ _ _ => by kernel_rfl) (fun _ _ _ _ => by kernel_rfl) fun R f v N K => by kernel_rfl
theorem branch_airwayOf_tells : Tells Tryz.prog 75 branch_airwayOf_m.c := branch_airwayOf_m.tells Tryz.func75 (show ∀ p, arun branch_airwayOf_env Tryz.f75 (branch_airwayOf_m.enc p).1 (branch_airwayOf_m.enc p).2 = _ from fun p => by kernel_rfl) (loopsL [loopOf 3 Tryz.f75, loopOf 9 Tryz.f75] (by kernel_rfl) ⟨lpT (by kernel_rfl) branch_airwayOf_l3_tells, ⟨lpT (by kernel_rfl) branch_airwayOf_l9_tells, trivial⟩⟩) (.cons door_Rest_tells (.cons branch_plus_tells .nil))
noncomputable def branch_airwayOf (a : SAir) (s : SSetting) (road : Int) : Option (Sairway) := branch_airwayOf_m.val (a, s, road)
theorem branch_airwayOf_eq (a : SAir) (s : SSetting) (road : Int) : branch_airwayOf a s road = (branch_airwayOf_t a s road).get := branch_airwayOf_m.val_eq (fun x => (SAir.dec (aggL (gd x.1 0)), SSetting.dec (aggL (gd x.1 1)), intA (gd x.1 2))) (fun p => by kernel_rfl) (a, s, road)

/-! minecontrol/branch.open -/
noncomputable def branch_open_t (a : SAir) (s : SSetting) (road : Int) : DT (Sairway × Bool) :=
 .bind (branch_Right a s) fun z0 =>
 .ite (!z0) (
 .leaf ((Sairway.mk (SRoad.mk (0 : Int) (0 : Int) (0 : Int) (0 : Int) false false (SSpan.mk (0 : Int) (0 : Int)) (SSpan.mk (0 : Int) (0 : Int))) (Sq.mk 0 (fun _ => (Sblower.mk (SFan.mk (0 : Int) false false (Sq.mk 0 (fun _ => (SPoint.mk (0 : Int) (0 : Int))))) (0 : Int))))), false)) (
 .bind (branch_hasRoad a road) fun z1 =>
 .ite (!z1) (
 .leaf ((Sairway.mk (SRoad.mk (0 : Int) (0 : Int) (0 : Int) (0 : Int) false false (SSpan.mk (0 : Int) (0 : Int)) (SSpan.mk (0 : Int) (0 : Int))) (Sq.mk 0 (fun _ => (Sblower.mk (SFan.mk (0 : Int) false false (Sq.mk 0 (fun _ => (SPoint.mk (0 : Int) (0 : Int))))) (0 : Int))))), false)) (
 .ite (decide ((0 : Int) ≤ road ∧ road < ((a.Mine.Roads.n : Nat) : Int))) (
 .ite (a.Mine.Roads.f (Int.toNat road)).Closed (
 .leaf ((Sairway.mk (SRoad.mk (0 : Int) (0 : Int) (0 : Int) (0 : Int) false false (SSpan.mk (0 : Int) (0 : Int)) (SSpan.mk (0 : Int) (0 : Int))) (Sq.mk 0 (fun _ => (Sblower.mk (SFan.mk (0 : Int) false false (Sq.mk 0 (fun _ => (SPoint.mk (0 : Int) (0 : Int))))) (0 : Int))))), false)) (
 .bind (branch_airwayOf a s road) fun z2 =>
 .leaf (z2, true))) (
 .fail)))
noncomputable def branch_open_m : FnM := nfM (SAir × SSetting × Int) (Sairway × Bool) (fun p => ([.agg (SAir.enc p.1), .agg (SSetting.enc p.2.1), .int .i64 p.2.2], [])) (fun p => branch_open_t p.1 p.2.1 p.2.2) (fun r => .tup [.agg [.int .i64 r.1.Road.From, .int .i64 r.1.Road.To, .int .i64 r.1.Road.Length, .int .i64 r.1.Road.Area, .bool r.1.Road.Walk, .bool r.1.Road.Closed, .int .i64 r.1.Road.Rest.Low, .int .i64 r.1.Road.Rest.High, .int .i64 r.1.Road.Lift.Low, .int .i64 r.1.Road.Lift.High, .own 0 0], .bool r.2]) (fun _ r => [rowA 0 5 142 Sblower.enc r.1.blowers_])
noncomputable def branch_open_env : Env := envM [(31, branch_Right_m.c), (86, branch_hasRoad_m.c), (75, branch_airwayOf_m.c)] [] [] [(2000000, [.asrow 1472 142 5 (fun _ => Sblower.enc (Sblower.mk (SFan.mk (0 : Int) false false (Sq.mk 0 (fun _ => (SPoint.mk (0 : Int) (0 : Int))))) (0 : Int)))])] [] 0
theorem branch_open_tells : Tells Tryz.prog 93 branch_open_m.c := branch_open_m.tells Tryz.func93 (show ∀ p, arun branch_open_env Tryz.f93 (branch_open_m.enc p).1 (branch_open_m.enc p).2 = _ from fun p => by kernel_rfl) noLoops (.cons branch_Right_tells (.cons branch_hasRoad_tells (.cons branch_airwayOf_tells .nil)))
noncomputable def branch_open (a : SAir) (s : SSetting) (road : Int) : Option (Sairway × Bool) := branch_open_m.val (a, s, road)
theorem branch_open_eq (a : SAir) (s : SSetting) (road : Int) : branch_open a s road = (branch_open_t a s road).get := branch_open_m.val_eq (fun x => (SAir.dec (aggL (gd x.1 0)), SSetting.dec (aggL (gd x.1 1)), intA (gd x.1 2))) (fun p => by kernel_rfl) (a, s, road)

/-! minecontrol/branch.times -/
noncomputable def branch_times_t (s : SSpan) (n : Int) : DT (SSpan) :=
 .leaf (SSpan.mk (if (wr (s.High * n)) < (wr (s.Low * n)) then (wr (s.High * n)) else (wr (s.Low * n))) (if (wr (s.Low * n)) < (wr (s.High * n)) then (wr (s.High * n)) else (wr (s.Low * n))))
noncomputable def branch_times_m : FnM := flM (SSpan × Int) (SSpan) (fun p => ([.agg (SSpan.enc p.1), .int .i64 p.2], [])) (fun p => branch_times_t p.1 p.2) (fun r => .agg (SSpan.enc r)) (fun _ => rfl)
noncomputable def branch_times_env : Env := envM [] [] [] [] [] 0
theorem branch_times_tells : Tells Tryz.prog 100 branch_times_m.c := branch_times_m.tells Tryz.func100 (show ∀ p, arun branch_times_env Tryz.f100 (branch_times_m.enc p).1 (branch_times_m.enc p).2 = _ from fun p => by kernel_rfl) noLoops .nil
noncomputable def branch_times (s : SSpan) (n : Int) : Option (SSpan) := branch_times_m.val (s, n)
theorem branch_times_eq (s : SSpan) (n : Int) : branch_times s n = (branch_times_t s n).get := branch_times_m.val_eq (fun x => (SSpan.dec (aggL (gd x.1 0)), intA (gd x.1 1))) (fun p => by kernel_rfl) (s, n)

/-! minecontrol/branch.less -/
noncomputable def branch_less_t (s t : SSpan) : DT (SSpan) :=
 .leaf (SSpan.mk (wr (s.Low - t.High)) (wr (s.High - t.Low)))
noncomputable def branch_less_m : FnM := flM (SSpan × SSpan) (SSpan) (fun p => ([.agg (SSpan.enc p.1), .agg (SSpan.enc p.2)], [])) (fun p => branch_less_t p.1 p.2) (fun r => .agg (SSpan.enc r)) (fun _ => rfl)
noncomputable def branch_less_env : Env := envM [] [] [] [] [] 0
theorem branch_less_tells : Tells Tryz.prog 99 branch_less_m.c := branch_less_m.tells Tryz.func99 (show ∀ p, arun branch_less_env Tryz.f99 (branch_less_m.enc p).1 (branch_less_m.enc p).2 = _ from fun p => by kernel_rfl) noLoops .nil
noncomputable def branch_less (s t : SSpan) : Option (SSpan) := branch_less_m.val (s, t)
theorem branch_less_eq (s t : SSpan) : branch_less s t = (branch_less_t s t).get := branch_less_m.val_eq (fun x => (SSpan.dec (aggL (gd x.1 0)), SSpan.dec (aggL (gd x.1 1)))) (fun p => by kernel_rfl) (s, t)

/-! minecontrol/fan.pressure$1 -/
noncomputable def fan_pressure_1_t (p : SPoint) (x : Int) : DT (Bool) :=
 .leaf (decide (p.Flow ≥ x))
noncomputable def fan_pressure_1_m : FnM := nfM (SPoint × Int) (Bool) (fun p => ([.agg (SPoint.enc p.1), .ptr 0 0], [.var [.int .i64 p.2]])) (fun p => fan_pressure_1_t p.1 p.2) (fun r => .bool r) (fun ins _ => [dB ins 0])
noncomputable def fan_pressure_1_env : Env := envM [] [] [] [] [] 1
theorem fan_pressure_1_tells : Tells Tryz.prog 144 fan_pressure_1_m.c := fan_pressure_1_m.tells Tryz.func144 (show ∀ p, arun fan_pressure_1_env Tryz.f144 (fan_pressure_1_m.enc p).1 (fan_pressure_1_m.enc p).2 = _ from fun p => by kernel_rfl) noLoops .nil
noncomputable def fan_pressure_1 (p : SPoint) (x : Int) : Option (Bool) := fan_pressure_1_m.val (p, x)
theorem fan_pressure_1_eq (p : SPoint) (x : Int) : fan_pressure_1 p x = (fan_pressure_1_t p x).get := fan_pressure_1_m.val_eq (fun x => (SPoint.dec (aggL (gd x.1 0)), intA (gd (varL (dB x.2 0)) 0))) (fun p => by kernel_rfl) (p, x)

/-! slices.IndexFunc[[]minecontrol/api.Point,minecontrol/api.Point] -/
noncomputable def slices_IndexFunc_Point_l2_step (u2_0 : Sq SPoint) (u2_2 u2_3 : Int) : DT (LR (Int) (Unit) (Int)) :=
 .ite (decide (u2_3 < ((u2_0.n : Nat) : Int))) (
 .ite (decide ((0 : Int) ≤ u2_3 ∧ u2_3 < ((u2_0.n : Nat) : Int))) (
 .bind (fan_pressure_1 (u2_0.f (Int.toNat u2_3)) u2_2) fun z0 =>
 .ite z0 (
 .leaf (.r u2_3)) (
 .leaf (.next (wr (u2_3 + (1 : Int)))))) (
 .fail)) (
 .leaf (.l ()))
noncomputable def slices_IndexFunc_Point_l2_m : LpM := ⟨(Sq SPoint) × Int, Int, Unit, Int, fun p => ⟨[(0, sqA 2 SPoint.enc p.1.1), (1, .fn 144 [.ptr 0 0]), (7, .int .i64 ((p.1.1.n : Nat) : Int)), (8, .int .i64 p.2)], [(0, .var [.int .i64 p.1.2])], 257⟩, fun f v => slices_IndexFunc_Point_l2_step f.1 f.2 v, false, (.exit 0), (fun x _ => ⟨[(4, .undef)], [(0, blkS x 0)], 257⟩), .ret, (fun x a => ⟨[(4, .int .i64 a)], [(0, blkS x 0)], 257⟩), c1, c1k⟩
noncomputable def slices_IndexFunc_Point_l2 (u2_0 : Sq SPoint) (u2_2 u2_3 : Int) : Option ((Unit) ⊕ (Int)) := slices_IndexFunc_Point_l2_m.val ((u2_0, u2_2), u2_3)
theorem slices_IndexFunc_Point_l2_eq (u2_0 : Sq SPoint) (u2_2 u2_3 : Int) : slices_IndexFunc_Point_l2 u2_0 u2_2 u2_3 = fixO (fun v : Int => slices_IndexFunc_Point_l2_step u2_0 u2_2 v) u2_3 := slices_IndexFunc_Point_l2_m.val_eq (fun x => ((sqD SPoint.dec (aget x.tm 0), intA (cellS x 0 0)), intA (aget x.tm 8))) (fun p => by kernel_rfl) ((u2_0, u2_2), u2_3)
noncomputable def slices_IndexFunc_Point_t (s : Sq SPoint) (y0 : Int) : DT (Int) :=
 .sum (slices_IndexFunc_Point_l2 s y0 (0 : Int)) (fun _ =>
 .leaf (-1 : Int)) (fun y1 => .leaf y1)
noncomputable def slices_IndexFunc_Point_m : FnM := nfM ((Sq SPoint) × Int) (Int) (fun p => ([sqA 2 SPoint.enc p.1, .fn 144 [.ptr 0 0]], [.var [.int .i64 p.2]])) (fun p => slices_IndexFunc_Point_t p.1 p.2) (fun r => .int .i64 r) (fun ins _ => [dB ins 0])
noncomputable def slices_IndexFunc_Point_env : Env := envM [(144, fan_pressure_1_m.c)] [(2, [0, 1, 7, 8], [4])] [(2, slices_IndexFunc_Point_l2_m.c)] [] [(2, [0])] 1
noncomputable def slices_IndexFunc_Point_e : Env := { slices_IndexFunc_Point_env with nt := 19 }
theorem slices_IndexFunc_Point_l2_tells : LoopTells slices_IndexFunc_Point_e (loopOf 2 Tryz.f143) slices_IndexFunc_Point_l2_m.c := slices_IndexFunc_Point_l2_m.tells 257 (fun _ => by kernel_rfl) (fun _ _ _ _ => by kernel_rfl) (fun _ _ _ _ => by kernel_rfl) fun R f v N K => by kernel_rfl
theorem slices_IndexFunc_Point_tells : Tells Tryz.prog 143 slices_IndexFunc_Point_m.c := slices_IndexFunc_Point_m.tells Tryz.func143 (show ∀ p, arun slices_IndexFunc_Point_env Tryz.f143 (slices_IndexFunc_Point_m.enc p).1 (slices_IndexFunc_Point_m.enc p).2 = _ from fun p => by kernel_rfl) (loopsL [loopOf 2 Tryz.f143] (by kernel_rfl) ⟨lpT (by kernel_rfl) slices_IndexFunc_Point_l2_tells, trivial⟩) (.cons fan_pressure_1_tells .nil)
noncomputable def slices_IndexFunc_Point (s : Sq SPoint) (y0 : Int) : Option (Int) := slices_IndexFunc_Point_m.val (s, y0)
theorem slices_IndexFunc_Point_eq (s : Sq SPoint) (y0 : Int) : slices_IndexFunc_Point s y0 = (slices_IndexFunc_Point_t s y0).get := slices_IndexFunc_Point_m.val_eq (fun x => (sqD SPoint.dec (gd x.1 0), intA (gd (varL (dB x.2 0)) 0))) (fun p => by kernel_rfl) (s, y0)

/-! minecontrol/fan.exactly -/
noncomputable def fan_exactly_t (n : Int) : DT (SSpan) :=
 .leaf (SSpan.mk n n)
noncomputable def fan_exactly_m : FnM := flM (Int) (SSpan) (fun p => ([.int .i64 p], [])) (fun p => fan_exactly_t p) (fun r => .agg (SSpan.enc r)) (fun _ => rfl)
noncomputable def fan_exactly_env : Env := envM [] [] [] [] [] 0
theorem fan_exactly_tells : Tells Tryz.prog 145 fan_exactly_m.c := fan_exactly_m.tells Tryz.func145 (show ∀ p, arun fan_exactly_env Tryz.f145 (fan_exactly_m.enc p).1 (fan_exactly_m.enc p).2 = _ from fun p => by kernel_rfl) noLoops .nil
noncomputable def fan_exactly (n : Int) : Option (SSpan) := fan_exactly_m.val n
theorem fan_exactly_eq (n : Int) : fan_exactly n = (fan_exactly_t n).get := fan_exactly_m.val_eq (fun x => intA (gd x.1 0)) (fun p => by kernel_rfl) n

/-! minecontrol/fan.between -/
noncomputable def fan_between_t (from_ to_ : SPoint) (flow : Int) : DT (SSpan) :=
 .ite ((wr (to_.Flow - from_.Flow)) != 0) (
 .bind (fan_exactly (wr (from_.Pressure - (wr (Int.tdiv (wr ((wr (from_.Pressure - to_.Pressure)) * (wr (flow - from_.Flow)))) (wr (to_.Flow - from_.Flow))))))) fun z0 =>
 .ite ((wr (to_.Flow - from_.Flow)) != 0) (
 .ite (decide ((Int.tmod (wr ((wr (from_.Pressure - to_.Pressure)) * (wr (flow - from_.Flow)))) (wr (to_.Flow - from_.Flow))) > (0 : Int))) (.leaf (SSpan.mk (wr (z0.Low - (1 : Int))) z0.High)) (.leaf z0)) (
 .fail)) (
 .fail)
noncomputable def fan_between_m : FnM := flM (SPoint × SPoint × Int) (SSpan) (fun p => ([.agg (SPoint.enc p.1), .agg (SPoint.enc p.2.1), .int .i64 p.2.2], [])) (fun p => fan_between_t p.1 p.2.1 p.2.2) (fun r => .agg (SSpan.enc r)) (fun _ => rfl)
noncomputable def fan_between_env : Env := envM [(145, fan_exactly_m.c)] [] [] [] [] 0
theorem fan_between_tells : Tells Tryz.prog 146 fan_between_m.c := fan_between_m.tells Tryz.func146 (show ∀ p, arun fan_between_env Tryz.f146 (fan_between_m.enc p).1 (fan_between_m.enc p).2 = _ from fun p => by kernel_rfl) noLoops (.cons fan_exactly_tells .nil)
noncomputable def fan_between (from_ to_ : SPoint) (flow : Int) : Option (SSpan) := fan_between_m.val (from_, to_, flow)
theorem fan_between_eq (from_ to_ : SPoint) (flow : Int) : fan_between from_ to_ flow = (fan_between_t from_ to_ flow).get := fan_between_m.val_eq (fun x => (SPoint.dec (aggL (gd x.1 0)), SPoint.dec (aggL (gd x.1 1)), intA (gd x.1 2))) (fun p => by kernel_rfl) (from_, to_, flow)

/-! minecontrol/fan.pressure -/
noncomputable def fan_pressure_t (curve : Sq SPoint) (flow : Int) : DT (SSpan) :=
 .bind (slices_IndexFunc_Point curve flow) fun z0 =>
 .ite (z0 == (0 : Int)) (
 .ite (decide ((0 : Int) ≤ (0 : Int) ∧ (0 : Int) < ((curve.n : Nat) : Int))) (
 .bind (fan_exactly (curve.f 0).Pressure) fun z1 =>
 .leaf z1) (
 .fail)) (
 .ite (z0 == (-1 : Int)) (
 .ite (decide ((0 : Int) ≤ (wr (((curve.n : Nat) : Int) - (1 : Int))) ∧ (wr (((curve.n : Nat) : Int) - (1 : Int))) < ((curve.n : Nat) : Int))) (
 .bind (fan_exactly (curve.f (Int.toNat (wr (((curve.n : Nat) : Int) - (1 : Int))))).Pressure) fun z2 =>
 .leaf z2) (
 .fail)) (
 .ite (decide ((0 : Int) ≤ (wr (z0 - (1 : Int))) ∧ (wr (z0 - (1 : Int))) < ((curve.n : Nat) : Int))) (
 .ite (decide ((0 : Int) ≤ z0 ∧ z0 < ((curve.n : Nat) : Int))) (
 .bind (fan_between (curve.f (Int.toNat (wr (z0 - (1 : Int))))) (curve.f (Int.toNat z0)) flow) fun z3 =>
 .leaf z3) (
 .fail)) (
 .fail)))
noncomputable def fan_pressure_m : FnM := flM ((Sq SPoint) × Int) (SSpan) (fun p => ([sqA 2 SPoint.enc p.1, .int .i64 p.2], [])) (fun p => fan_pressure_t p.1 p.2) (fun r => .agg (SSpan.enc r)) (fun _ => rfl)
noncomputable def fan_pressure_env : Env := envM [(143, slices_IndexFunc_Point_m.c), (145, fan_exactly_m.c), (146, fan_between_m.c)] [] [] [] [] 0
theorem fan_pressure_tells : Tells Tryz.prog 141 fan_pressure_m.c := fan_pressure_m.tells Tryz.func141 (show ∀ p, arun fan_pressure_env Tryz.f141 (fan_pressure_m.enc p).1 (fan_pressure_m.enc p).2 = _ from fun p => by kernel_rfl) noLoops (.cons slices_IndexFunc_Point_tells (.cons fan_exactly_tells (.cons fan_between_tells .nil)))
noncomputable def fan_pressure (curve : Sq SPoint) (flow : Int) : Option (SSpan) := fan_pressure_m.val (curve, flow)
theorem fan_pressure_eq (curve : Sq SPoint) (flow : Int) : fan_pressure curve flow = (fan_pressure_t curve flow).get := fan_pressure_m.val_eq (fun x => (sqD SPoint.dec (gd x.1 0), intA (gd x.1 1))) (fun p => by kernel_rfl) (curve, flow)

/-! minecontrol/fan.blowing -/
noncomputable def fan_blowing_t (curve : Sq SPoint) (back : Bool) (flow : Int) : DT (SSpan) :=
 .ite (!back) (
 .bind (fan_pressure curve flow) fun z0 =>
 .leaf z0) (
 .bind (fan_pressure curve (wr (0 - flow))) fun z1 =>
 .leaf (SSpan.mk (wr (0 - z1.High)) (wr (0 - z1.Low))))
noncomputable def fan_blowing_m : FnM := flM ((Sq SPoint) × Bool × Int) (SSpan) (fun p => ([sqA 2 SPoint.enc p.1, .bool p.2.1, .int .i64 p.2.2], [])) (fun p => fan_blowing_t p.1 p.2.1 p.2.2) (fun r => .agg (SSpan.enc r)) (fun _ => rfl)
noncomputable def fan_blowing_env : Env := envM [(141, fan_pressure_m.c)] [] [] [] [] 0
theorem fan_blowing_tells : Tells Tryz.prog 125 fan_blowing_m.c := fan_blowing_m.tells Tryz.func125 (show ∀ p, arun fan_blowing_env Tryz.f125 (fan_blowing_m.enc p).1 (fan_blowing_m.enc p).2 = _ from fun p => by kernel_rfl) noLoops (.cons fan_pressure_tells .nil)
noncomputable def fan_blowing (curve : Sq SPoint) (back : Bool) (flow : Int) : Option (SSpan) := fan_blowing_m.val (curve, back, flow)
theorem fan_blowing_eq (curve : Sq SPoint) (back : Bool) (flow : Int) : fan_blowing curve back flow = (fan_blowing_t curve back flow).get := fan_blowing_m.val_eq (fun x => (sqD SPoint.dec (gd x.1 0), boolA (gd x.1 1), intA (gd x.1 2))) (fun p => by kernel_rfl) (curve, back, flow)

/-! minecontrol/fan.At -/
noncomputable def fan_At_t (f : SFan) (state flow : Int) : DT (SSpan) :=
 .bind (fan_Check f) fun z0 =>
 .ite (z0 != (0 : Int)) (
 .leaf (SSpan.mk (0 : Int) (0 : Int))) (
 .bind (fan_within flow (-1048577 : Int) (1048577 : Int)) fun z1 =>
 .ite (!z1) (
 .leaf (SSpan.mk (0 : Int) (0 : Int))) (
 .ite (state == (1 : Int)) (
 .bind (fan_blowing f.Curve f.Back flow) fun z2 =>
 .leaf z2) (
 .ite (state == (2 : Int)) (
 .bind (fan_blowing f.Curve (!f.Back) flow) fun z3 =>
 .leaf z3) (
 .ite (state == (-1 : Int)) (
 .bind (fan_blowing f.Curve f.Back flow) fun z4 =>
 .bind (fan_blowing f.Curve (!f.Back) flow) fun z5 =>
 .leaf (SSpan.mk (if z5.Low < (if z4.Low < (0 : Int) then z4.Low else (0 : Int)) then z5.Low else (if z4.Low < (0 : Int) then z4.Low else (0 : Int))) (if (if (0 : Int) < z4.High then z4.High else (0 : Int)) < z5.High then z5.High else (if (0 : Int) < z4.High then z4.High else (0 : Int))))) (
 .leaf (SSpan.mk (0 : Int) (0 : Int)))))))
noncomputable def fan_At_m : FnM := flM (SFan × Int × Int) (SSpan) (fun p => ([.agg (SFan.enc p.1), .int .i64 p.2.1, .int .i64 p.2.2], [])) (fun p => fan_At_t p.1 p.2.1 p.2.2) (fun r => .agg (SSpan.enc r)) (fun _ => rfl)
noncomputable def fan_At_env : Env := envM [(85, fan_Check_m.c), (106, fan_within_m.c), (125, fan_blowing_m.c)] [] [] [] [] 0
theorem fan_At_tells : Tells Tryz.prog 101 fan_At_m.c := fan_At_m.tells Tryz.func101 (show ∀ p, arun fan_At_env Tryz.f101 (fan_At_m.enc p).1 (fan_At_m.enc p).2 = _ from fun p => by kernel_rfl) noLoops (.cons fan_Check_tells (.cons fan_within_tells (.cons fan_blowing_tells .nil)))
noncomputable def fan_At (f : SFan) (state flow : Int) : Option (SSpan) := fan_At_m.val (f, state, flow)
theorem fan_At_eq (f : SFan) (state flow : Int) : fan_At f state flow = (fan_At_t f state flow).get := fan_At_m.val_eq (fun x => (SFan.dec (aggL (gd x.1 0)), intA (gd x.1 1), intA (gd x.1 2))) (fun p => by kernel_rfl) (f, state, flow)

/-! (*minecontrol/branch.airway).drop -/
noncomputable def branch_airway_drop_l4_step (u4_0 _u4_2 _u4_3 _u4_4 _u4_5 : Int) (_u4_6 _u4_7 : Bool) (_u4_8 _u4_9 _u4_10 _u4_11 : Int) (u4_12 : Sq Sblower) (u4_13 u4_14 u4_15 : Int) : DT (LR (Int × Int × Int) (Int × Int) (Unit)) :=
 .ite (decide (u4_15 < ((u4_12.n : Nat) : Int))) (
 .ite (decide ((0 : Int) ≤ u4_15 ∧ u4_15 < ((u4_12.n : Nat) : Int))) (
 .bind (fan_At (u4_12.f (Int.toNat u4_15)).Fan (u4_12.f (Int.toNat u4_15)).state_ u4_0) fun z0 =>
 .bind (branch_less (SSpan.mk u4_13 u4_14) z0) fun z1 =>
 .leaf (.next (z1.Low, z1.High, (wr (u4_15 + (1 : Int)))))) (
 .fail)) (
 .leaf (.l (u4_13, u4_14)))
noncomputable def branch_airway_drop_l4_m : LpM := ⟨Int × Int × Int × Int × Int × Bool × Bool × Int × Int × Int × Int × (Sq Sblower), Int × Int × Int, Int × Int, Unit, fun p => ⟨[(1, .int .i64 p.1.1), (4, .ptr 2 0), (6, .ptr 1346 0), (31, .own 1 0), (32, .int .i64 ((p.1.2.2.2.2.2.2.2.2.2.2.2.n : Nat) : Int)), (33, .int .i64 p.2.2.2)], [(0, .var [.int .i64 p.1.2.1, .int .i64 p.1.2.2.1, .int .i64 p.1.2.2.2.1, .int .i64 p.1.2.2.2.2.1, .bool p.1.2.2.2.2.2.1, .bool p.1.2.2.2.2.2.2.1, .int .i64 p.1.2.2.2.2.2.2.2.1, .int .i64 p.1.2.2.2.2.2.2.2.2.1, .int .i64 p.1.2.2.2.2.2.2.2.2.2.1, .int .i64 p.1.2.2.2.2.2.2.2.2.2.2.1, .own 1 0]), (1, rowA 0 5 142 Sblower.enc p.1.2.2.2.2.2.2.2.2.2.2.2), (2, .var [.int .i64 (0 : Int), .int .i64 (0 : Int)]), (1346, .var [.int .i64 p.2.1, .int .i64 p.2.2.1])], 1858⟩, fun f v => branch_airway_drop_l4_step f.1 f.2.1 f.2.2.1 f.2.2.2.1 f.2.2.2.2.1 f.2.2.2.2.2.1 f.2.2.2.2.2.2.1 f.2.2.2.2.2.2.2.1 f.2.2.2.2.2.2.2.2.1 f.2.2.2.2.2.2.2.2.2.1 f.2.2.2.2.2.2.2.2.2.2.1 f.2.2.2.2.2.2.2.2.2.2.2 v.1 v.2.1 v.2.2, true, (.exit 0), (fun x a => ⟨[(4, .ptr 2 0), (6, .ptr 1346 0)], [(0, blkS x 0), (1, blkS x 1), (2, .var [.int .i64 (0 : Int), .int .i64 (0 : Int)]), (1346, .var [.int .i64 a.1, .int .i64 a.2])], 1858⟩), .ret, (fun _ _ => ⟨[], [], 0⟩), c1, c1k⟩
noncomputable def branch_airway_drop_l4 (u4_0 u4_2 u4_3 u4_4 u4_5 : Int) (u4_6 u4_7 : Bool) (u4_8 u4_9 u4_10 u4_11 : Int) (u4_12 : Sq Sblower) (u4_13 u4_14 u4_15 : Int) : Option ((Int × Int) ⊕ (Unit)) := branch_airway_drop_l4_m.val ((u4_0, u4_2, u4_3, u4_4, u4_5, u4_6, u4_7, u4_8, u4_9, u4_10, u4_11, u4_12), (u4_13, u4_14, u4_15))
theorem branch_airway_drop_l4_eq (u4_0 u4_2 u4_3 u4_4 u4_5 : Int) (u4_6 u4_7 : Bool) (u4_8 u4_9 u4_10 u4_11 : Int) (u4_12 : Sq Sblower) (u4_13 u4_14 u4_15 : Int) : branch_airway_drop_l4 u4_0 u4_2 u4_3 u4_4 u4_5 u4_6 u4_7 u4_8 u4_9 u4_10 u4_11 u4_12 u4_13 u4_14 u4_15 = fixO (fun v : Int × Int × Int => branch_airway_drop_l4_step u4_0 u4_2 u4_3 u4_4 u4_5 u4_6 u4_7 u4_8 u4_9 u4_10 u4_11 u4_12 v.1 v.2.1 v.2.2) (u4_13, u4_14, u4_15) := branch_airway_drop_l4_m.val_eq (fun x => ((intA (aget x.tm 1), intA (cellS x 0 0), intA (cellS x 0 1), intA (cellS x 0 2), intA (cellS x 0 3), boolA (cellS x 0 4), boolA (cellS x 0 5), intA (cellS x 0 6), intA (cellS x 0 7), intA (cellS x 0 8), intA (cellS x 0 9), sqB Sblower.dec (blkS x 1)), (intA (cellS x 1346 0), intA (cellS x 1346 1), intA (aget x.tm 33)))) (fun p => by kernel_rfl) ((u4_0, u4_2, u4_3, u4_4, u4_5, u4_6, u4_7, u4_8, u4_9, u4_10, u4_11, u4_12), (u4_13, u4_14, u4_15))
noncomputable def branch_airway_drop_t (w : Sairway) (flow : Int) : DT (SSpan) :=
 .bind (branch_times w.Road.Rest (wr (flow * (if flow < (wr (0 - flow)) then (wr (0 - flow)) else flow)))) fun z2 =>
 .bind (branch_less z2 w.Road.Lift) fun z3 =>
 .sum (branch_airway_drop_l4 flow w.Road.From w.Road.To w.Road.Length w.Road.Area w.Road.Walk w.Road.Closed w.Road.Rest.Low w.Road.Rest.High w.Road.Lift.Low w.Road.Lift.High w.blowers_ z3.Low z3.High (0 : Int)) (fun y0 =>
 .leaf (SSpan.mk y0.1 y0.2)) (fun _ => .fail)
noncomputable def branch_airway_drop_m : FnM := nfM (Sairway × Int) (SSpan) (fun p => ([.ptr 0 0, .int .i64 p.2], [.var [.int .i64 p.1.Road.From, .int .i64 p.1.Road.To, .int .i64 p.1.Road.Length, .int .i64 p.1.Road.Area, .bool p.1.Road.Walk, .bool p.1.Road.Closed, .int .i64 p.1.Road.Rest.Low, .int .i64 p.1.Road.Rest.High, .int .i64 p.1.Road.Lift.Low, .int .i64 p.1.Road.Lift.High, .own 1 0], rowA 0 5 142 Sblower.enc p.1.blowers_])) (fun p => branch_airway_drop_t p.1 p.2) (fun r => .agg (SSpan.enc r)) (fun ins _ => [dB ins 0, dB ins 1])
noncomputable def branch_airway_drop_env : Env := envM [(100, branch_times_m.c), (99, branch_less_m.c), (101, fan_At_m.c)] [(4, [1, 4, 6, 31, 32, 33], [4, 6])] [(4, branch_airway_drop_l4_m.c)] [] [(4, [0, 1, 2, 1346])] 2
noncomputable def branch_airway_drop_e : Env := { branch_airway_drop_env with nt := 47 }
theorem branch_airway_drop_l4_tells : LoopTells branch_airway_drop_e (loopOf 4 Tryz.f76) branch_airway_drop_l4_m.c := branch_airway_drop_l4_m.tells 1858 (fun _ => by kernel_rfl) (fun _ _ _ _ => by kernel_rfl) (fun _ _ _ _ => by kernel_rfl) fun R f v N K => by kernel_rfl
theorem branch_airway_drop_tells : Tells Tryz.prog 76 branch_airway_drop_m.c := branch_airway_drop_m.tells Tryz.func76 (show ∀ p, arun branch_airway_drop_env Tryz.f76 (branch_airway_drop_m.enc p).1 (branch_airway_drop_m.enc p).2 = _ from fun p => by kernel_rfl) (loopsL [loopOf 4 Tryz.f76] (by kernel_rfl) ⟨lpT (by kernel_rfl) branch_airway_drop_l4_tells, trivial⟩) (.cons branch_times_tells (.cons branch_less_tells (.cons fan_At_tells .nil)))
noncomputable def branch_airway_drop (w : Sairway) (flow : Int) : Option (SSpan) := branch_airway_drop_m.val (w, flow)
theorem branch_airway_drop_eq (w : Sairway) (flow : Int) : branch_airway_drop w flow = (branch_airway_drop_t w flow).get := branch_airway_drop_m.val_eq (fun x => (⟨⟨intA (gd (varL (dB x.2 0)) 0), intA (gd (varL (dB x.2 0)) 1), intA (gd (varL (dB x.2 0)) 2), intA (gd (varL (dB x.2 0)) 3), boolA (gd (varL (dB x.2 0)) 4), boolA (gd (varL (dB x.2 0)) 5), ⟨intA (gd (varL (dB x.2 0)) 6), intA (gd (varL (dB x.2 0)) 7)⟩, ⟨intA (gd (varL (dB x.2 0)) 8), intA (gd (varL (dB x.2 0)) 9)⟩⟩, sqB Sblower.dec (dB x.2 1)⟩, intA (gd x.1 1))) (fun p => by kernel_rfl) (w, flow)

/-! minecontrol/branch.Flow$1 -/
noncomputable def branch_Flow_1_t (flow : Int) (x : Sairway) (x2 : Int) : DT (Bool) :=
 .bind (branch_airway_drop x flow) fun z0 =>
 .leaf (decide (z0.High > x2))
noncomputable def branch_Flow_1_m : FnM := nfM (Int × Sairway × Int) (Bool) (fun p => ([.int .i64 p.1, .ptr 0 0, .ptr 1 0], [.var [.int .i64 p.2.1.Road.From, .int .i64 p.2.1.Road.To, .int .i64 p.2.1.Road.Length, .int .i64 p.2.1.Road.Area, .bool p.2.1.Road.Walk, .bool p.2.1.Road.Closed, .int .i64 p.2.1.Road.Rest.Low, .int .i64 p.2.1.Road.Rest.High, .int .i64 p.2.1.Road.Lift.Low, .int .i64 p.2.1.Road.Lift.High, .own 2 0], .var [.int .i64 p.2.2], rowA 0 5 142 Sblower.enc p.2.1.blowers_])) (fun p => branch_Flow_1_t p.1 p.2.1 p.2.2) (fun r => .bool r) (fun ins _ => [dB ins 0, dB ins 1, dB ins 2])
noncomputable def branch_Flow_1_env : Env := envM [(76, branch_airway_drop_m.c)] [] [] [] [] 3
theorem branch_Flow_1_tells : Tells Tryz.prog 95 branch_Flow_1_m.c := branch_Flow_1_m.tells Tryz.func95 (show ∀ p, arun branch_Flow_1_env Tryz.f95 (branch_Flow_1_m.enc p).1 (branch_Flow_1_m.enc p).2 = _ from fun p => by kernel_rfl) noLoops (.cons branch_airway_drop_tells .nil)
noncomputable def branch_Flow_1 (flow : Int) (x : Sairway) (x2 : Int) : Option (Bool) := branch_Flow_1_m.val (flow, x, x2)
theorem branch_Flow_1_eq (flow : Int) (x : Sairway) (x2 : Int) : branch_Flow_1 flow x x2 = (branch_Flow_1_t flow x x2).get := branch_Flow_1_m.val_eq (fun x => (intA (gd x.1 0), ⟨⟨intA (gd (varL (dB x.2 0)) 0), intA (gd (varL (dB x.2 0)) 1), intA (gd (varL (dB x.2 0)) 2), intA (gd (varL (dB x.2 0)) 3), boolA (gd (varL (dB x.2 0)) 4), boolA (gd (varL (dB x.2 0)) 5), ⟨intA (gd (varL (dB x.2 0)) 6), intA (gd (varL (dB x.2 0)) 7)⟩, ⟨intA (gd (varL (dB x.2 0)) 8), intA (gd (varL (dB x.2 0)) 9)⟩⟩, sqB Sblower.dec (dB x.2 2)⟩, intA (gd (varL (dB x.2 1)) 0))) (fun p => by kernel_rfl) (flow, x, x2)

/-! minecontrol/branch.first$1 -/
noncomputable def branch_first_1_t (i : Int) (y0 : Sairway) (y1 : Int) : DT (Bool) :=
 .bind (branch_Flow_1 (wr (i - (1048576 : Int))) y0 y1) fun z0 =>
 .leaf z0
noncomputable def branch_first_1_m : FnM := nfM (Int × Sairway × Int) (Bool) (fun p => ([.int .i64 p.1, .ptr 0 0], [.var [.fn 95 [.ptr 1 0, .ptr 2 0]], .var [.int .i64 p.2.1.Road.From, .int .i64 p.2.1.Road.To, .int .i64 p.2.1.Road.Length, .int .i64 p.2.1.Road.Area, .bool p.2.1.Road.Walk, .bool p.2.1.Road.Closed, .int .i64 p.2.1.Road.Rest.Low, .int .i64 p.2.1.Road.Rest.High, .int .i64 p.2.1.Road.Lift.Low, .int .i64 p.2.1.Road.Lift.High, .own 3 0], .var [.int .i64 p.2.2], rowA 0 5 142 Sblower.enc p.2.1.blowers_])) (fun p => branch_first_1_t p.1 p.2.1 p.2.2) (fun r => .bool r) (fun ins _ => [dB ins 0, dB ins 1, dB ins 2, dB ins 3])
noncomputable def branch_first_1_env : Env := envM [(95, branch_Flow_1_m.c)] [] [] [] [] 4
theorem branch_first_1_tells : Tells Tryz.prog 121 branch_first_1_m.c := branch_first_1_m.tells Tryz.func121 (show ∀ p, arun branch_first_1_env Tryz.f121 (branch_first_1_m.enc p).1 (branch_first_1_m.enc p).2 = _ from fun p => by kernel_rfl) noLoops (.cons branch_Flow_1_tells .nil)
noncomputable def branch_first_1 (i : Int) (y0 : Sairway) (y1 : Int) : Option (Bool) := branch_first_1_m.val (i, y0, y1)
theorem branch_first_1_eq (i : Int) (y0 : Sairway) (y1 : Int) : branch_first_1 i y0 y1 = (branch_first_1_t i y0 y1).get := branch_first_1_m.val_eq (fun x => (intA (gd x.1 0), ⟨⟨intA (gd (varL (dB x.2 1)) 0), intA (gd (varL (dB x.2 1)) 1), intA (gd (varL (dB x.2 1)) 2), intA (gd (varL (dB x.2 1)) 3), boolA (gd (varL (dB x.2 1)) 4), boolA (gd (varL (dB x.2 1)) 5), ⟨intA (gd (varL (dB x.2 1)) 6), intA (gd (varL (dB x.2 1)) 7)⟩, ⟨intA (gd (varL (dB x.2 1)) 8), intA (gd (varL (dB x.2 1)) 9)⟩⟩, sqB Sblower.dec (dB x.2 3)⟩, intA (gd (varL (dB x.2 2)) 0))) (fun p => by kernel_rfl) (i, y0, y1)

/-! sort.Search -/
noncomputable def sort_Search_l2_step (u2_1 u2_2 u2_3 u2_4 : Int) (u2_5 u2_6 : Bool) (u2_7 u2_8 u2_9 u2_10 u2_11 : Int) (u2_12 : Sq Sblower) (u2_0 u2_13 : Int) : DT (LR (Int × Int) (Int) (Unit)) :=
 .ite (decide (u2_13 < u2_0)) (
 .bind (branch_first_1 (wr ((IntKind.u64.wrap (wr (u2_13 + u2_0))) / 2 ^ (Int.toNat (1 : Int)))) (Sairway.mk (SRoad.mk u2_1 u2_2 u2_3 u2_4 u2_5 u2_6 (SSpan.mk u2_7 u2_8) (SSpan.mk u2_9 u2_10)) u2_12) u2_11) fun z0 =>
 .ite (!z0) (
 .leaf (.next (u2_0, (wr ((wr ((IntKind.u64.wrap (wr (u2_13 + u2_0))) / 2 ^ (Int.toNat (1 : Int)))) + (1 : Int)))))) (
 .leaf (.next ((wr ((IntKind.u64.wrap (wr (u2_13 + u2_0))) / 2 ^ (Int.toNat (1 : Int)))), u2_13)))) (
 .leaf (.l u2_13))
noncomputable def sort_Search_l2_m : LpM := ⟨Int × Int × Int × Int × Bool × Bool × Int × Int × Int × Int × Int × (Sq Sblower), Int × Int, Int, Unit, fun p => ⟨[(1, .fn 121 [.ptr 0 0]), (5, .int .i64 p.2.2), (6, .int .i64 p.2.1)], [(0, .var [.fn 95 [.ptr 1 0, .ptr 2 0]]), (1, .var [.int .i64 p.1.1, .int .i64 p.1.2.1, .int .i64 p.1.2.2.1, .int .i64 p.1.2.2.2.1, .bool p.1.2.2.2.2.1, .bool p.1.2.2.2.2.2.1, .int .i64 p.1.2.2.2.2.2.2.1, .int .i64 p.1.2.2.2.2.2.2.2.1, .int .i64 p.1.2.2.2.2.2.2.2.2.1, .int .i64 p.1.2.2.2.2.2.2.2.2.2.1, .own 3 0]), (2, .var [.int .i64 p.1.2.2.2.2.2.2.2.2.2.2.1]), (3, rowA 0 5 142 Sblower.enc p.1.2.2.2.2.2.2.2.2.2.2.2)], 260⟩, fun f v => sort_Search_l2_step f.1 f.2.1 f.2.2.1 f.2.2.2.1 f.2.2.2.2.1 f.2.2.2.2.2.1 f.2.2.2.2.2.2.1 f.2.2.2.2.2.2.2.1 f.2.2.2.2.2.2.2.2.1 f.2.2.2.2.2.2.2.2.2.1 f.2.2.2.2.2.2.2.2.2.2.1 f.2.2.2.2.2.2.2.2.2.2.2 v.1 v.2, true, (.exit 0), (fun x a => ⟨[(5, .int .i64 a)], [(0, .var [.fn 95 [.ptr 1 0, .ptr 2 0]]), (1, blkS x 1), (2, blkS x 2), (3, blkS x 3)], 260⟩), .ret, (fun _ _ => ⟨[], [], 0⟩), c1, c1k⟩
noncomputable def sort_Search_l2 (u2_1 u2_2 u2_3 u2_4 : Int) (u2_5 u2_6 : Bool) (u2_7 u2_8 u2_9 u2_10 u2_11 : Int) (u2_12 : Sq Sblower) (u2_0 u2_13 : Int) : Option ((Int) ⊕ (Unit)) := sort_Search_l2_m.val ((u2_1, u2_2, u2_3, u2_4, u2_5, u2_6, u2_7, u2_8, u2_9, u2_10, u2_11, u2_12), (u2_0, u2_13))
theorem sort_Search_l2_eq (u2_1 u2_2 u2_3 u2_4 : Int) (u2_5 u2_6 : Bool) (u2_7 u2_8 u2_9 u2_10 u2_11 : Int) (u2_12 : Sq Sblower) (u2_0 u2_13 : Int) : sort_Search_l2 u2_1 u2_2 u2_3 u2_4 u2_5 u2_6 u2_7 u2_8 u2_9 u2_10 u2_11 u2_12 u2_0 u2_13 = fixO (fun v : Int × Int => sort_Search_l2_step u2_1 u2_2 u2_3 u2_4 u2_5 u2_6 u2_7 u2_8 u2_9 u2_10 u2_11 u2_12 v.1 v.2) (u2_0, u2_13) := sort_Search_l2_m.val_eq (fun x => ((intA (cellS x 1 0), intA (cellS x 1 1), intA (cellS x 1 2), intA (cellS x 1 3), boolA (cellS x 1 4), boolA (cellS x 1 5), intA (cellS x 1 6), intA (cellS x 1 7), intA (cellS x 1 8), intA (cellS x 1 9), intA (cellS x 2 0), sqB Sblower.dec (blkS x 3)), (intA (aget x.tm 6), intA (aget x.tm 5)))) (fun p => by kernel_rfl) ((u2_1, u2_2, u2_3, u2_4, u2_5, u2_6, u2_7, u2_8, u2_9, u2_10, u2_11, u2_12), (u2_0, u2_13))
noncomputable def sort_Search_t (n : Int) (y0 : Sairway) (y1 : Int) : DT (Int) :=
 .sum (sort_Search_l2 y0.Road.From y0.Road.To y0.Road.Length y0.Road.Area y0.Road.Walk y0.Road.Closed y0.Road.Rest.Low y0.Road.Rest.High y0.Road.Lift.Low y0.Road.Lift.High y1 y0.blowers_ n (0 : Int)) (fun y2 =>
 .leaf y2) (fun _ => .fail)
noncomputable def sort_Search_m : FnM := nfM (Int × Sairway × Int) (Int) (fun p => ([.int .i64 p.1, .fn 121 [.ptr 0 0]], [.var [.fn 95 [.ptr 1 0, .ptr 2 0]], .var [.int .i64 p.2.1.Road.From, .int .i64 p.2.1.Road.To, .int .i64 p.2.1.Road.Length, .int .i64 p.2.1.Road.Area, .bool p.2.1.Road.Walk, .bool p.2.1.Road.Closed, .int .i64 p.2.1.Road.Rest.Low, .int .i64 p.2.1.Road.Rest.High, .int .i64 p.2.1.Road.Lift.Low, .int .i64 p.2.1.Road.Lift.High, .own 3 0], .var [.int .i64 p.2.2], rowA 0 5 142 Sblower.enc p.2.1.blowers_])) (fun p => sort_Search_t p.1 p.2.1 p.2.2) (fun r => .int .i64 r) (fun ins _ => [dB ins 0, dB ins 1, dB ins 2, dB ins 3])
noncomputable def sort_Search_env : Env := envM [(121, branch_first_1_m.c)] [(2, [1, 5, 6], [5])] [(2, sort_Search_l2_m.c)] [] [(2, [0, 1, 2, 3])] 4
noncomputable def sort_Search_e : Env := { sort_Search_env with nt := 26 }
theorem sort_Search_l2_tells : LoopTells sort_Search_e (loopOf 2 Tryz.f120) sort_Search_l2_m.c := sort_Search_l2_m.tells 260 (fun _ => by kernel_rfl) (fun _ _ _ _ => by kernel_rfl) (fun _ _ _ _ => by kernel_rfl) fun R f v N K => by kernel_rfl
theorem sort_Search_tells : Tells Tryz.prog 120 sort_Search_m.c := sort_Search_m.tells Tryz.func120 (show ∀ p, arun sort_Search_env Tryz.f120 (sort_Search_m.enc p).1 (sort_Search_m.enc p).2 = _ from fun p => by kernel_rfl) (loopsL [loopOf 2 Tryz.f120] (by kernel_rfl) ⟨lpT (by kernel_rfl) sort_Search_l2_tells, trivial⟩) (.cons branch_first_1_tells .nil)
noncomputable def sort_Search (n : Int) (y0 : Sairway) (y1 : Int) : Option (Int) := sort_Search_m.val (n, y0, y1)
theorem sort_Search_eq (n : Int) (y0 : Sairway) (y1 : Int) : sort_Search n y0 y1 = (sort_Search_t n y0 y1).get := sort_Search_m.val_eq (fun x => (intA (gd x.1 0), ⟨⟨intA (gd (varL (dB x.2 1)) 0), intA (gd (varL (dB x.2 1)) 1), intA (gd (varL (dB x.2 1)) 2), intA (gd (varL (dB x.2 1)) 3), boolA (gd (varL (dB x.2 1)) 4), boolA (gd (varL (dB x.2 1)) 5), ⟨intA (gd (varL (dB x.2 1)) 6), intA (gd (varL (dB x.2 1)) 7)⟩, ⟨intA (gd (varL (dB x.2 1)) 8), intA (gd (varL (dB x.2 1)) 9)⟩⟩, sqB Sblower.dec (dB x.2 3)⟩, intA (gd (varL (dB x.2 2)) 0))) (fun p => by kernel_rfl) (n, y0, y1)

/-! minecontrol/branch.first -/
noncomputable def branch_first_t (y0 : Sairway) (y1 : Int) : DT (Int) :=
 .bind (sort_Search (2097153 : Int) y0 y1) fun z0 =>
 .leaf (wr (z0 - (1048576 : Int)))
noncomputable def branch_first_m : FnM := nfM (Sairway × Int) (Int) (fun p => ([.fn 95 [.ptr 0 0, .ptr 1 0]], [.var [.int .i64 p.1.Road.From, .int .i64 p.1.Road.To, .int .i64 p.1.Road.Length, .int .i64 p.1.Road.Area, .bool p.1.Road.Walk, .bool p.1.Road.Closed, .int .i64 p.1.Road.Rest.Low, .int .i64 p.1.Road.Rest.High, .int .i64 p.1.Road.Lift.Low, .int .i64 p.1.Road.Lift.High, .own 2 0], .var [.int .i64 p.2], rowA 0 5 142 Sblower.enc p.1.blowers_])) (fun p => branch_first_t p.1 p.2) (fun r => .int .i64 r) (fun ins _ => [dB ins 0, dB ins 1, dB ins 2])
noncomputable def branch_first_env : Env := envM [(120, sort_Search_m.c)] [] [] [] [] 3
theorem branch_first_tells : Tells Tryz.prog 94 branch_first_m.c := branch_first_m.tells Tryz.func94 (show ∀ p, arun branch_first_env Tryz.f94 (branch_first_m.enc p).1 (branch_first_m.enc p).2 = _ from fun p => by kernel_rfl) noLoops (.cons sort_Search_tells .nil)
noncomputable def branch_first (y0 : Sairway) (y1 : Int) : Option (Int) := branch_first_m.val (y0, y1)
theorem branch_first_eq (y0 : Sairway) (y1 : Int) : branch_first y0 y1 = (branch_first_t y0 y1).get := branch_first_m.val_eq (fun x => (⟨⟨intA (gd (varL (dB x.2 0)) 0), intA (gd (varL (dB x.2 0)) 1), intA (gd (varL (dB x.2 0)) 2), intA (gd (varL (dB x.2 0)) 3), boolA (gd (varL (dB x.2 0)) 4), boolA (gd (varL (dB x.2 0)) 5), ⟨intA (gd (varL (dB x.2 0)) 6), intA (gd (varL (dB x.2 0)) 7)⟩, ⟨intA (gd (varL (dB x.2 0)) 8), intA (gd (varL (dB x.2 0)) 9)⟩⟩, sqB Sblower.dec (dB x.2 2)⟩, intA (gd (varL (dB x.2 1)) 0))) (fun p => by kernel_rfl) (y0, y1)

/-! minecontrol/branch.Flow$2 -/
noncomputable def branch_Flow_2_t (flow : Int) (x : Sairway) (x2 : Int) : DT (Bool) :=
 .bind (branch_airway_drop x flow) fun z0 =>
 .leaf (decide (z0.Low ≥ x2))
noncomputable def branch_Flow_2_m : FnM := nfM (Int × Sairway × Int) (Bool) (fun p => ([.int .i64 p.1, .ptr 0 0, .ptr 1 0], [.var [.int .i64 p.2.1.Road.From, .int .i64 p.2.1.Road.To, .int .i64 p.2.1.Road.Length, .int .i64 p.2.1.Road.Area, .bool p.2.1.Road.Walk, .bool p.2.1.Road.Closed, .int .i64 p.2.1.Road.Rest.Low, .int .i64 p.2.1.Road.Rest.High, .int .i64 p.2.1.Road.Lift.Low, .int .i64 p.2.1.Road.Lift.High, .own 2 0], .var [.int .i64 p.2.2], rowA 0 5 142 Sblower.enc p.2.1.blowers_])) (fun p => branch_Flow_2_t p.1 p.2.1 p.2.2) (fun r => .bool r) (fun ins _ => [dB ins 0, dB ins 1, dB ins 2])
noncomputable def branch_Flow_2_env : Env := envM [(76, branch_airway_drop_m.c)] [] [] [] [] 3
theorem branch_Flow_2_tells : Tells Tryz.prog 96 branch_Flow_2_m.c := branch_Flow_2_m.tells Tryz.func96 (show ∀ p, arun branch_Flow_2_env Tryz.f96 (branch_Flow_2_m.enc p).1 (branch_Flow_2_m.enc p).2 = _ from fun p => by kernel_rfl) noLoops (.cons branch_airway_drop_tells .nil)
noncomputable def branch_Flow_2 (flow : Int) (x : Sairway) (x2 : Int) : Option (Bool) := branch_Flow_2_m.val (flow, x, x2)
theorem branch_Flow_2_eq (flow : Int) (x : Sairway) (x2 : Int) : branch_Flow_2 flow x x2 = (branch_Flow_2_t flow x x2).get := branch_Flow_2_m.val_eq (fun x => (intA (gd x.1 0), ⟨⟨intA (gd (varL (dB x.2 0)) 0), intA (gd (varL (dB x.2 0)) 1), intA (gd (varL (dB x.2 0)) 2), intA (gd (varL (dB x.2 0)) 3), boolA (gd (varL (dB x.2 0)) 4), boolA (gd (varL (dB x.2 0)) 5), ⟨intA (gd (varL (dB x.2 0)) 6), intA (gd (varL (dB x.2 0)) 7)⟩, ⟨intA (gd (varL (dB x.2 0)) 8), intA (gd (varL (dB x.2 0)) 9)⟩⟩, sqB Sblower.dec (dB x.2 2)⟩, intA (gd (varL (dB x.2 1)) 0))) (fun p => by kernel_rfl) (flow, x, x2)

/-! minecontrol/branch.first$1 -/
noncomputable def branch_first_1_v2_t (i : Int) (y0 : Sairway) (y1 : Int) : DT (Bool) :=
 .bind (branch_Flow_2 (wr (i - (1048576 : Int))) y0 y1) fun z0 =>
 .leaf z0
noncomputable def branch_first_1_v2_m : FnM := nfM (Int × Sairway × Int) (Bool) (fun p => ([.int .i64 p.1, .ptr 0 0], [.var [.fn 96 [.ptr 1 0, .ptr 2 0]], .var [.int .i64 p.2.1.Road.From, .int .i64 p.2.1.Road.To, .int .i64 p.2.1.Road.Length, .int .i64 p.2.1.Road.Area, .bool p.2.1.Road.Walk, .bool p.2.1.Road.Closed, .int .i64 p.2.1.Road.Rest.Low, .int .i64 p.2.1.Road.Rest.High, .int .i64 p.2.1.Road.Lift.Low, .int .i64 p.2.1.Road.Lift.High, .own 3 0], .var [.int .i64 p.2.2], rowA 0 5 142 Sblower.enc p.2.1.blowers_])) (fun p => branch_first_1_v2_t p.1 p.2.1 p.2.2) (fun r => .bool r) (fun ins _ => [dB ins 0, dB ins 1, dB ins 2, dB ins 3])
noncomputable def branch_first_1_v2_env : Env := envM [(96, branch_Flow_2_m.c)] [] [] [] [] 4
theorem branch_first_1_v2_tells : Tells Tryz.prog 121 branch_first_1_v2_m.c := branch_first_1_v2_m.tells Tryz.func121 (show ∀ p, arun branch_first_1_v2_env Tryz.f121 (branch_first_1_v2_m.enc p).1 (branch_first_1_v2_m.enc p).2 = _ from fun p => by kernel_rfl) noLoops (.cons branch_Flow_2_tells .nil)
noncomputable def branch_first_1_v2 (i : Int) (y0 : Sairway) (y1 : Int) : Option (Bool) := branch_first_1_v2_m.val (i, y0, y1)
theorem branch_first_1_v2_eq (i : Int) (y0 : Sairway) (y1 : Int) : branch_first_1_v2 i y0 y1 = (branch_first_1_v2_t i y0 y1).get := branch_first_1_v2_m.val_eq (fun x => (intA (gd x.1 0), ⟨⟨intA (gd (varL (dB x.2 1)) 0), intA (gd (varL (dB x.2 1)) 1), intA (gd (varL (dB x.2 1)) 2), intA (gd (varL (dB x.2 1)) 3), boolA (gd (varL (dB x.2 1)) 4), boolA (gd (varL (dB x.2 1)) 5), ⟨intA (gd (varL (dB x.2 1)) 6), intA (gd (varL (dB x.2 1)) 7)⟩, ⟨intA (gd (varL (dB x.2 1)) 8), intA (gd (varL (dB x.2 1)) 9)⟩⟩, sqB Sblower.dec (dB x.2 3)⟩, intA (gd (varL (dB x.2 2)) 0))) (fun p => by kernel_rfl) (i, y0, y1)

/-! sort.Search -/
noncomputable def sort_Search_v2_l2_step (u2_1 u2_2 u2_3 u2_4 : Int) (u2_5 u2_6 : Bool) (u2_7 u2_8 u2_9 u2_10 u2_11 : Int) (u2_12 : Sq Sblower) (u2_0 u2_13 : Int) : DT (LR (Int × Int) (Int) (Unit)) :=
 .ite (decide (u2_13 < u2_0)) (
 .bind (branch_first_1_v2 (wr ((IntKind.u64.wrap (wr (u2_13 + u2_0))) / 2 ^ (Int.toNat (1 : Int)))) (Sairway.mk (SRoad.mk u2_1 u2_2 u2_3 u2_4 u2_5 u2_6 (SSpan.mk u2_7 u2_8) (SSpan.mk u2_9 u2_10)) u2_12) u2_11) fun z0 =>
 .ite (!z0) (
 .leaf (.next (u2_0, (wr ((wr ((IntKind.u64.wrap (wr (u2_13 + u2_0))) / 2 ^ (Int.toNat (1 : Int)))) + (1 : Int)))))) (
 .leaf (.next ((wr ((IntKind.u64.wrap (wr (u2_13 + u2_0))) / 2 ^ (Int.toNat (1 : Int)))), u2_13)))) (
 .leaf (.l u2_13))
noncomputable def sort_Search_v2_l2_m : LpM := ⟨Int × Int × Int × Int × Bool × Bool × Int × Int × Int × Int × Int × (Sq Sblower), Int × Int, Int, Unit, fun p => ⟨[(1, .fn 121 [.ptr 0 0]), (5, .int .i64 p.2.2), (6, .int .i64 p.2.1)], [(0, .var [.fn 96 [.ptr 1 0, .ptr 2 0]]), (1, .var [.int .i64 p.1.1, .int .i64 p.1.2.1, .int .i64 p.1.2.2.1, .int .i64 p.1.2.2.2.1, .bool p.1.2.2.2.2.1, .bool p.1.2.2.2.2.2.1, .int .i64 p.1.2.2.2.2.2.2.1, .int .i64 p.1.2.2.2.2.2.2.2.1, .int .i64 p.1.2.2.2.2.2.2.2.2.1, .int .i64 p.1.2.2.2.2.2.2.2.2.2.1, .own 3 0]), (2, .var [.int .i64 p.1.2.2.2.2.2.2.2.2.2.2.1]), (3, rowA 0 5 142 Sblower.enc p.1.2.2.2.2.2.2.2.2.2.2.2)], 260⟩, fun f v => sort_Search_v2_l2_step f.1 f.2.1 f.2.2.1 f.2.2.2.1 f.2.2.2.2.1 f.2.2.2.2.2.1 f.2.2.2.2.2.2.1 f.2.2.2.2.2.2.2.1 f.2.2.2.2.2.2.2.2.1 f.2.2.2.2.2.2.2.2.2.1 f.2.2.2.2.2.2.2.2.2.2.1 f.2.2.2.2.2.2.2.2.2.2.2 v.1 v.2, true, (.exit 0), (fun x a => ⟨[(5, .int .i64 a)], [(0, .var [.fn 96 [.ptr 1 0, .ptr 2 0]]), (1, blkS x 1), (2, blkS x 2), (3, blkS x 3)], 260⟩), .ret, (fun _ _ => ⟨[], [], 0⟩), c1, c1k⟩
noncomputable def sort_Search_v2_l2 (u2_1 u2_2 u2_3 u2_4 : Int) (u2_5 u2_6 : Bool) (u2_7 u2_8 u2_9 u2_10 u2_11 : Int) (u2_12 : Sq Sblower) (u2_0 u2_13 : Int) : Option ((Int) ⊕ (Unit)) := sort_Search_v2_l2_m.val ((u2_1, u2_2, u2_3, u2_4, u2_5, u2_6, u2_7, u2_8, u2_9, u2_10, u2_11, u2_12), (u2_0, u2_13))
theorem sort_Search_v2_l2_eq (u2_1 u2_2 u2_3 u2_4 : Int) (u2_5 u2_6 : Bool) (u2_7 u2_8 u2_9 u2_10 u2_11 : Int) (u2_12 : Sq Sblower) (u2_0 u2_13 : Int) : sort_Search_v2_l2 u2_1 u2_2 u2_3 u2_4 u2_5 u2_6 u2_7 u2_8 u2_9 u2_10 u2_11 u2_12 u2_0 u2_13 = fixO (fun v : Int × Int => sort_Search_v2_l2_step u2_1 u2_2 u2_3 u2_4 u2_5 u2_6 u2_7 u2_8 u2_9 u2_10 u2_11 u2_12 v.1 v.2) (u2_0, u2_13) := sort_Search_v2_l2_m.val_eq (fun x => ((intA (cellS x 1 0), intA (cellS x 1 1), intA (cellS x 1 2), intA (cellS x 1 3), boolA (cellS x 1 4), boolA (cellS x 1 5), intA (cellS x 1 6), intA (cellS x 1 7), intA (cellS x 1 8), intA (cellS x 1 9), intA (cellS x 2 0), sqB Sblower.dec (blkS x 3)), (intA (aget x.tm 6), intA (aget x.tm 5)))) (fun p => by kernel_rfl) ((u2_1, u2_2, u2_3, u2_4, u2_5, u2_6, u2_7, u2_8, u2_9, u2_10, u2_11, u2_12), (u2_0, u2_13))
noncomputable def sort_Search_v2_t (n : Int) (y0 : Sairway) (y1 : Int) : DT (Int) :=
 .sum (sort_Search_v2_l2 y0.Road.From y0.Road.To y0.Road.Length y0.Road.Area y0.Road.Walk y0.Road.Closed y0.Road.Rest.Low y0.Road.Rest.High y0.Road.Lift.Low y0.Road.Lift.High y1 y0.blowers_ n (0 : Int)) (fun y2 =>
 .leaf y2) (fun _ => .fail)
noncomputable def sort_Search_v2_m : FnM := nfM (Int × Sairway × Int) (Int) (fun p => ([.int .i64 p.1, .fn 121 [.ptr 0 0]], [.var [.fn 96 [.ptr 1 0, .ptr 2 0]], .var [.int .i64 p.2.1.Road.From, .int .i64 p.2.1.Road.To, .int .i64 p.2.1.Road.Length, .int .i64 p.2.1.Road.Area, .bool p.2.1.Road.Walk, .bool p.2.1.Road.Closed, .int .i64 p.2.1.Road.Rest.Low, .int .i64 p.2.1.Road.Rest.High, .int .i64 p.2.1.Road.Lift.Low, .int .i64 p.2.1.Road.Lift.High, .own 3 0], .var [.int .i64 p.2.2], rowA 0 5 142 Sblower.enc p.2.1.blowers_])) (fun p => sort_Search_v2_t p.1 p.2.1 p.2.2) (fun r => .int .i64 r) (fun ins _ => [dB ins 0, dB ins 1, dB ins 2, dB ins 3])
noncomputable def sort_Search_v2_env : Env := envM [(121, branch_first_1_v2_m.c)] [(2, [1, 5, 6], [5])] [(2, sort_Search_v2_l2_m.c)] [] [(2, [0, 1, 2, 3])] 4
noncomputable def sort_Search_v2_e : Env := { sort_Search_v2_env with nt := 26 }
theorem sort_Search_v2_l2_tells : LoopTells sort_Search_v2_e (loopOf 2 Tryz.f120) sort_Search_v2_l2_m.c := sort_Search_v2_l2_m.tells 260 (fun _ => by kernel_rfl) (fun _ _ _ _ => by kernel_rfl) (fun _ _ _ _ => by kernel_rfl) fun R f v N K => by kernel_rfl
theorem sort_Search_v2_tells : Tells Tryz.prog 120 sort_Search_v2_m.c := sort_Search_v2_m.tells Tryz.func120 (show ∀ p, arun sort_Search_v2_env Tryz.f120 (sort_Search_v2_m.enc p).1 (sort_Search_v2_m.enc p).2 = _ from fun p => by kernel_rfl) (loopsL [loopOf 2 Tryz.f120] (by kernel_rfl) ⟨lpT (by kernel_rfl) sort_Search_v2_l2_tells, trivial⟩) (.cons branch_first_1_v2_tells .nil)
noncomputable def sort_Search_v2 (n : Int) (y0 : Sairway) (y1 : Int) : Option (Int) := sort_Search_v2_m.val (n, y0, y1)
theorem sort_Search_v2_eq (n : Int) (y0 : Sairway) (y1 : Int) : sort_Search_v2 n y0 y1 = (sort_Search_v2_t n y0 y1).get := sort_Search_v2_m.val_eq (fun x => (intA (gd x.1 0), ⟨⟨intA (gd (varL (dB x.2 1)) 0), intA (gd (varL (dB x.2 1)) 1), intA (gd (varL (dB x.2 1)) 2), intA (gd (varL (dB x.2 1)) 3), boolA (gd (varL (dB x.2 1)) 4), boolA (gd (varL (dB x.2 1)) 5), ⟨intA (gd (varL (dB x.2 1)) 6), intA (gd (varL (dB x.2 1)) 7)⟩, ⟨intA (gd (varL (dB x.2 1)) 8), intA (gd (varL (dB x.2 1)) 9)⟩⟩, sqB Sblower.dec (dB x.2 3)⟩, intA (gd (varL (dB x.2 2)) 0))) (fun p => by kernel_rfl) (n, y0, y1)

/-! minecontrol/branch.first -/
noncomputable def branch_first_v2_t (y0 : Sairway) (y1 : Int) : DT (Int) :=
 .bind (sort_Search_v2 (2097153 : Int) y0 y1) fun z0 =>
 .leaf (wr (z0 - (1048576 : Int)))
noncomputable def branch_first_v2_m : FnM := nfM (Sairway × Int) (Int) (fun p => ([.fn 96 [.ptr 0 0, .ptr 1 0]], [.var [.int .i64 p.1.Road.From, .int .i64 p.1.Road.To, .int .i64 p.1.Road.Length, .int .i64 p.1.Road.Area, .bool p.1.Road.Walk, .bool p.1.Road.Closed, .int .i64 p.1.Road.Rest.Low, .int .i64 p.1.Road.Rest.High, .int .i64 p.1.Road.Lift.Low, .int .i64 p.1.Road.Lift.High, .own 2 0], .var [.int .i64 p.2], rowA 0 5 142 Sblower.enc p.1.blowers_])) (fun p => branch_first_v2_t p.1 p.2) (fun r => .int .i64 r) (fun ins _ => [dB ins 0, dB ins 1, dB ins 2])
noncomputable def branch_first_v2_env : Env := envM [(120, sort_Search_v2_m.c)] [] [] [] [] 3
theorem branch_first_v2_tells : Tells Tryz.prog 94 branch_first_v2_m.c := branch_first_v2_m.tells Tryz.func94 (show ∀ p, arun branch_first_v2_env Tryz.f94 (branch_first_v2_m.enc p).1 (branch_first_v2_m.enc p).2 = _ from fun p => by kernel_rfl) noLoops (.cons sort_Search_v2_tells .nil)
noncomputable def branch_first_v2 (y0 : Sairway) (y1 : Int) : Option (Int) := branch_first_v2_m.val (y0, y1)
theorem branch_first_v2_eq (y0 : Sairway) (y1 : Int) : branch_first_v2 y0 y1 = (branch_first_v2_t y0 y1).get := branch_first_v2_m.val_eq (fun x => (⟨⟨intA (gd (varL (dB x.2 0)) 0), intA (gd (varL (dB x.2 0)) 1), intA (gd (varL (dB x.2 0)) 2), intA (gd (varL (dB x.2 0)) 3), boolA (gd (varL (dB x.2 0)) 4), boolA (gd (varL (dB x.2 0)) 5), ⟨intA (gd (varL (dB x.2 0)) 6), intA (gd (varL (dB x.2 0)) 7)⟩, ⟨intA (gd (varL (dB x.2 0)) 8), intA (gd (varL (dB x.2 0)) 9)⟩⟩, sqB Sblower.dec (dB x.2 2)⟩, intA (gd (varL (dB x.2 1)) 0))) (fun p => by kernel_rfl) (y0, y1)

/-! minecontrol/branch.Flow -/
noncomputable def branch_Flow_t (a : SAir) (s : SSetting) (road pressure : Int) : DT (SSpan) :=
 .bind (branch_open a s road) fun z0 =>
 .ite (!z0.2) (
 .leaf (SSpan.mk (0 : Int) (0 : Int))) (
 .bind (branch_first z0.1 pressure) fun z1 =>
 .bind (branch_first_v2 z0.1 pressure) fun z2 =>
 .leaf (SSpan.mk (wr (z1 - (1 : Int))) z2))
noncomputable def branch_Flow_m : FnM := flM (SAir × SSetting × Int × Int) (SSpan) (fun p => ([.agg (SAir.enc p.1), .agg (SSetting.enc p.2.1), .int .i64 p.2.2.1, .int .i64 p.2.2.2], [])) (fun p => branch_Flow_t p.1 p.2.1 p.2.2.1 p.2.2.2) (fun r => .agg (SSpan.enc r)) (fun _ => rfl)
noncomputable def branch_Flow_env : Env := envM [(93, branch_open_m.c), (94, orC [6, 95, 2, 5, 0, 0, 5, 1, 0, 10, 11, 1, 1, 1, 1, 2, 2, 1, 1, 1, 1, 4, 2, 0, 10, 1, 1, 11, 5] branch_first_m.c (branch_first_v2_m.c))] [] [] [] [] 0
theorem branch_Flow_tells : Tells Tryz.prog 72 branch_Flow_m.c := branch_Flow_m.tells Tryz.func72 (show ∀ p, arun branch_Flow_env Tryz.f72 (branch_Flow_m.enc p).1 (branch_Flow_m.enc p).2 = _ from fun p => by kernel_rfl) noLoops (.cons branch_open_tells (.cons (orC_tells branch_first_tells (branch_first_v2_tells)) .nil))
noncomputable def branch_Flow (a : SAir) (s : SSetting) (road pressure : Int) : Option (SSpan) := branch_Flow_m.val (a, s, road, pressure)
theorem branch_Flow_eq (a : SAir) (s : SSetting) (road pressure : Int) : branch_Flow a s road pressure = (branch_Flow_t a s road pressure).get := branch_Flow_m.val_eq (fun x => (SAir.dec (aggL (gd x.1 0)), SSetting.dec (aggL (gd x.1 1)), intA (gd x.1 2), intA (gd x.1 3))) (fun p => by kernel_rfl) (a, s, road, pressure)

/-! (*minecontrol/balance.junction).leaving -/
noncomputable def balance_junction_leaving_t (j : Sjunction) (road pressure : Int) : DT (SSpan) :=
 .bind (plan_Other j.air_.Mine road j.place_) fun z0 =>
 .ite (decide ((0 : Int) ≤ z0 ∧ z0 < ((j.pressures_.n : Nat) : Int))) (
 .ite (decide ((0 : Int) ≤ road ∧ road < ((j.air_.Mine.Roads.n : Nat) : Int))) (
 .ite ((j.air_.Mine.Roads.f (Int.toNat road)).From == j.place_) (
 .bind (branch_Flow j.air_ j.setting_ road (wr (pressure - (j.pressures_.f (Int.toNat z0))))) fun z1 =>
 .leaf z1) (
 .bind (branch_Flow j.air_ j.setting_ road (wr ((j.pressures_.f (Int.toNat z0)) - pressure))) fun z2 =>
 .leaf (SSpan.mk (wr (0 - z2.High)) (wr (0 - z2.Low))))) (
 .fail)) (
 .fail)
noncomputable def balance_junction_leaving_m : FnM := nfM (Sjunction × Int × Int) (SSpan) (fun p => ([.ptr 0 0, .int .i64 p.2.1, .int .i64 p.2.2], [.var [sqA 2 SPlace.enc p.1.air_.Mine.Places, .own 1 0, .own 2 0, .own 3 0, .own 4 0, .own 5 0, sqA 1 (eI .i64) p.1.pressures_, .int .i64 p.1.place_], rowA 0 10 71 SRoad.enc p.1.air_.Mine.Roads, rowA 0 4 99 SFan.enc p.1.air_.Fans, rowA 0 3 61 SDoor.enc p.1.air_.Doors, rowA 0 1 3 (eI .i64) p.1.setting_.Fans, rowA 0 1 3 (eI .i64) p.1.setting_.Doors])) (fun p => balance_junction_leaving_t p.1 p.2.1 p.2.2) (fun r => .agg (SSpan.enc r)) (fun ins _ => [dB ins 0, dB ins 1, dB ins 2, dB ins 3, dB ins 4, dB ins 5])
noncomputable def balance_junction_leaving_env : Env := envM [(102, plan_Other_m.c), (72, branch_Flow_m.c)] [] [] [] [] 6
theorem balance_junction_leaving_tells : Tells Tryz.prog 79 balance_junction_leaving_m.c := balance_junction_leaving_m.tells Tryz.func79 (show ∀ p, arun balance_junction_leaving_env Tryz.f79 (balance_junction_leaving_m.enc p).1 (balance_junction_leaving_m.enc p).2 = _ from fun p => by kernel_rfl) noLoops (.cons plan_Other_tells (.cons branch_Flow_tells .nil))
noncomputable def balance_junction_leaving (j : Sjunction) (road pressure : Int) : Option (SSpan) := balance_junction_leaving_m.val (j, road, pressure)
theorem balance_junction_leaving_eq (j : Sjunction) (road pressure : Int) : balance_junction_leaving j road pressure = (balance_junction_leaving_t j road pressure).get := balance_junction_leaving_m.val_eq (fun x => (⟨⟨⟨sqD SPlace.dec (gd (varL (dB x.2 0)) 0), sqB SRoad.dec (dB x.2 1)⟩, sqB SFan.dec (dB x.2 2), sqB SDoor.dec (dB x.2 3)⟩, ⟨sqB dI (dB x.2 4), sqB dI (dB x.2 5)⟩, sqD dI (gd (varL (dB x.2 0)) 6), intA (gd (varL (dB x.2 0)) 7)⟩, intA (gd x.1 1), intA (gd x.1 2))) (fun p => by kernel_rfl) (j, road, pressure)

/-! (*minecontrol/balance.junction).net -/
noncomputable def balance_junction_net_l3_step (u3_0 : Int) (u3_2 : Sq SPlace) (u3_3 : Sq Int) (u3_4 : Int) (u3_5 : Sq SRoad) (u3_6 : Sq SFan) (u3_7 : Sq SDoor) (u3_8 u3_9 : Sq Int) (u3_10 u3_11 u3_12 : Int) : DT (LR (Int × Int × Int) (Int × Int) (Unit)) :=
 .ite (decide (u3_10 < ((u3_5.n : Nat) : Int))) (
 .bind (balance_junction_leaving (Sjunction.mk (SAir.mk (SMine.mk u3_2 u3_5) u3_6 u3_7) (SSetting.mk u3_8 u3_9) u3_3 u3_4) u3_10 u3_0) fun z0 =>
 .leaf (.next ((wr (u3_10 + (1 : Int))), (wr (u3_11 + z0.Low)), (wr (u3_12 + z0.High))))) (
 .leaf (.l (u3_11, u3_12)))
noncomputable def balance_junction_net_l3_m : LpM := ⟨Int × (Sq SPlace) × (Sq Int) × Int × (Sq SRoad) × (Sq SFan) × (Sq SDoor) × (Sq Int) × (Sq Int), Int × Int × Int, Int × Int, Unit, fun p => ⟨[(0, .ptr 0 0), (1, .int .i64 p.1.1), (4, .ptr 6 0), (5, .ptr 70 0), (14, .int .i64 ((p.1.2.2.2.2.1.n : Nat) : Int)), (15, .int .i64 p.2.1)], [(0, .var [sqA 2 SPlace.enc p.1.2.1, .own 1 0, .own 2 0, .own 3 0, .own 4 0, .own 5 0, sqA 1 (eI .i64) p.1.2.2.1, .int .i64 p.1.2.2.2.1]), (1, rowA 0 10 71 SRoad.enc p.1.2.2.2.2.1), (2, rowA 0 4 99 SFan.enc p.1.2.2.2.2.2.1), (3, rowA 0 3 61 SDoor.enc p.1.2.2.2.2.2.2.1), (4, rowA 0 1 3 (eI .i64) p.1.2.2.2.2.2.2.2.1), (5, rowA 0 1 3 (eI .i64) p.1.2.2.2.2.2.2.2.2), (6, .var [.int .i64 (0 : Int), .int .i64 (0 : Int)]), (70, .var [.int .i64 p.2.2.1, .int .i64 p.2.2.2])], 646⟩, fun f v => balance_junction_net_l3_step f.1 f.2.1 f.2.2.1 f.2.2.2.1 f.2.2.2.2.1 f.2.2.2.2.2.1 f.2.2.2.2.2.2.1 f.2.2.2.2.2.2.2.1 f.2.2.2.2.2.2.2.2 v.1 v.2.1 v.2.2, true, (.exit 0), (fun x a => ⟨[(4, .ptr 6 0), (5, .ptr 70 0)], [(0, blkS x 0), (1, blkS x 1), (2, blkS x 2), (3, blkS x 3), (4, blkS x 4), (5, blkS x 5), (6, .var [.int .i64 (0 : Int), .int .i64 (0 : Int)]), (70, .var [.int .i64 a.1, .int .i64 a.2])], 646⟩), .ret, (fun _ _ => ⟨[], [], 0⟩), c1, c1k⟩
noncomputable def balance_junction_net_l3 (u3_0 : Int) (u3_2 : Sq SPlace) (u3_3 : Sq Int) (u3_4 : Int) (u3_5 : Sq SRoad) (u3_6 : Sq SFan) (u3_7 : Sq SDoor) (u3_8 u3_9 : Sq Int) (u3_10 u3_11 u3_12 : Int) : Option ((Int × Int) ⊕ (Unit)) := balance_junction_net_l3_m.val ((u3_0, u3_2, u3_3, u3_4, u3_5, u3_6, u3_7, u3_8, u3_9), (u3_10, u3_11, u3_12))
theorem balance_junction_net_l3_eq (u3_0 : Int) (u3_2 : Sq SPlace) (u3_3 : Sq Int) (u3_4 : Int) (u3_5 : Sq SRoad) (u3_6 : Sq SFan) (u3_7 : Sq SDoor) (u3_8 u3_9 : Sq Int) (u3_10 u3_11 u3_12 : Int) : balance_junction_net_l3 u3_0 u3_2 u3_3 u3_4 u3_5 u3_6 u3_7 u3_8 u3_9 u3_10 u3_11 u3_12 = fixO (fun v : Int × Int × Int => balance_junction_net_l3_step u3_0 u3_2 u3_3 u3_4 u3_5 u3_6 u3_7 u3_8 u3_9 v.1 v.2.1 v.2.2) (u3_10, u3_11, u3_12) := balance_junction_net_l3_m.val_eq (fun x => ((intA (aget x.tm 1), sqD SPlace.dec (cellS x 0 0), sqD dI (cellS x 0 6), intA (cellS x 0 7), sqB SRoad.dec (blkS x 1), sqB SFan.dec (blkS x 2), sqB SDoor.dec (blkS x 3), sqB dI (blkS x 4), sqB dI (blkS x 5)), (intA (aget x.tm 15), intA (cellS x 70 0), intA (cellS x 70 1)))) (fun p => by kernel_rfl) ((u3_0, u3_2, u3_3, u3_4, u3_5, u3_6, u3_7, u3_8, u3_9), (u3_10, u3_11, u3_12))
noncomputable def balance_junction_net_t (j : Sjunction) (pressure : Int) : DT (SSpan) :=
 .sum (balance_junction_net_l3 pressure j.air_.Mine.Places j.pressures_ j.place_ j.air_.Mine.Roads j.air_.Fans j.air_.Doors j.setting_.Fans j.setting_.Doors (0 : Int) (0 : Int) (0 : Int)) (fun y0 =>
 .leaf (SSpan.mk y0.1 y0.2)) (fun _ => .fail)
noncomputable def balance_junction_net_m : FnM := nfM (Sjunction × Int) (SSpan) (fun p => ([.ptr 0 0, .int .i64 p.2], [.var [sqA 2 SPlace.enc p.1.air_.Mine.Places, .own 1 0, .own 2 0, .own 3 0, .own 4 0, .own 5 0, sqA 1 (eI .i64) p.1.pressures_, .int .i64 p.1.place_], rowA 0 10 71 SRoad.enc p.1.air_.Mine.Roads, rowA 0 4 99 SFan.enc p.1.air_.Fans, rowA 0 3 61 SDoor.enc p.1.air_.Doors, rowA 0 1 3 (eI .i64) p.1.setting_.Fans, rowA 0 1 3 (eI .i64) p.1.setting_.Doors])) (fun p => balance_junction_net_t p.1 p.2) (fun r => .agg (SSpan.enc r)) (fun ins _ => [dB ins 0, dB ins 1, dB ins 2, dB ins 3, dB ins 4, dB ins 5])
noncomputable def balance_junction_net_env : Env := envM [(79, balance_junction_leaving_m.c)] [(3, [0, 1, 4, 5, 14, 15], [4, 5])] [(3, balance_junction_net_l3_m.c)] [] [(3, [0, 1, 2, 3, 4, 5, 6, 70])] 6
noncomputable def balance_junction_net_e : Env := { balance_junction_net_env with nt := 36 }
theorem balance_junction_net_l3_tells : LoopTells balance_junction_net_e (loopOf 3 Tryz.f55) balance_junction_net_l3_m.c := balance_junction_net_l3_m.tells 646 (fun _ => by kernel_rfl) (fun _ _ _ _ => by kernel_rfl) (fun _ _ _ _ => by kernel_rfl) fun R f v N K => by kernel_rfl
theorem balance_junction_net_tells : Tells Tryz.prog 55 balance_junction_net_m.c := balance_junction_net_m.tells Tryz.func55 (show ∀ p, arun balance_junction_net_env Tryz.f55 (balance_junction_net_m.enc p).1 (balance_junction_net_m.enc p).2 = _ from fun p => by kernel_rfl) (loopsL [loopOf 3 Tryz.f55] (by kernel_rfl) ⟨lpT (by kernel_rfl) balance_junction_net_l3_tells, trivial⟩) (.cons balance_junction_leaving_tells .nil)
noncomputable def balance_junction_net (j : Sjunction) (pressure : Int) : Option (SSpan) := balance_junction_net_m.val (j, pressure)
theorem balance_junction_net_eq (j : Sjunction) (pressure : Int) : balance_junction_net j pressure = (balance_junction_net_t j pressure).get := balance_junction_net_m.val_eq (fun x => (⟨⟨⟨sqD SPlace.dec (gd (varL (dB x.2 0)) 0), sqB SRoad.dec (dB x.2 1)⟩, sqB SFan.dec (dB x.2 2), sqB SDoor.dec (dB x.2 3)⟩, ⟨sqB dI (dB x.2 4), sqB dI (dB x.2 5)⟩, sqD dI (gd (varL (dB x.2 0)) 6), intA (gd (varL (dB x.2 0)) 7)⟩, intA (gd x.1 1))) (fun p => by kernel_rfl) (j, pressure)

/-! minecontrol/balance.Net -/
noncomputable def balance_Net_t (a : SAir) (s : SSetting) (pressures : Sq Int) (place : Int) : DT (SSpan) :=
 .bind (balance_proper a s pressures place) fun z0 =>
 .ite (!z0) (
 .leaf (SSpan.mk (0 : Int) (0 : Int))) (
 .bind (balance_junctionOf a s pressures place) fun z1 =>
 .ite (decide ((0 : Int) ≤ place ∧ place < ((pressures.n : Nat) : Int))) (
 .bind (balance_junction_net z1 (pressures.f (Int.toNat place))) fun z2 =>
 .leaf z2) (
 .fail))
noncomputable def balance_Net_m : FnM := flM (SAir × SSetting × (Sq Int) × Int) (SSpan) (fun p => ([.agg (SAir.enc p.1), .agg (SSetting.enc p.2.1), sqA 1 (eI .i64) p.2.2.1, .int .i64 p.2.2.2], [])) (fun p => balance_Net_t p.1 p.2.1 p.2.2.1 p.2.2.2) (fun r => .agg (SSpan.enc r)) (fun _ => rfl)
noncomputable def balance_Net_env : Env := envM [(53, balance_proper_m.c), (54, balance_junctionOf_m.c), (55, balance_junction_net_m.c)] [] [] [] [] 0
theorem balance_Net_tells : Tells Tryz.prog 21 balance_Net_m.c := balance_Net_m.tells Tryz.func21 (show ∀ p, arun balance_Net_env Tryz.f21 (balance_Net_m.enc p).1 (balance_Net_m.enc p).2 = _ from fun p => by kernel_rfl) noLoops (.cons balance_proper_tells (.cons balance_junctionOf_tells (.cons balance_junction_net_tells .nil)))
noncomputable def balance_Net (a : SAir) (s : SSetting) (pressures : Sq Int) (place : Int) : Option (SSpan) := balance_Net_m.val (a, s, pressures, place)
theorem balance_Net_eq (a : SAir) (s : SSetting) (pressures : Sq Int) (place : Int) : balance_Net a s pressures place = (balance_Net_t a s pressures place).get := balance_Net_m.val_eq (fun x => (SAir.dec (aggL (gd x.1 0)), SSetting.dec (aggL (gd x.1 1)), sqD dI (gd x.1 2), intA (gd x.1 3))) (fun p => by kernel_rfl) (a, s, pressures, place)

/-! minecontrol/minecontrolref05.Nothing -/
noncomputable def ref05_Nothing_t : DT (SSpan) :=
 .leaf (SSpan.mk (-1125899906842624 : Int) (1125899906842624 : Int))
noncomputable def ref05_Nothing_m : FnM := flM (Unit) (SSpan) (fun _ => ([], [])) (fun _ => ref05_Nothing_t) (fun r => .agg (SSpan.enc r)) (fun _ => rfl)
noncomputable def ref05_Nothing_env : Env := envM [] [] [] [] [] 0
theorem ref05_Nothing_tells : Tells Tryz.prog 44 ref05_Nothing_m.c := ref05_Nothing_m.tells Tryz.func44 (show ∀ p, arun ref05_Nothing_env Tryz.f44 (ref05_Nothing_m.enc p).1 (ref05_Nothing_m.enc p).2 = _ from fun p => by kernel_rfl) noLoops .nil
noncomputable def ref05_Nothing : Option (SSpan) := ref05_Nothing_m.val ()
theorem ref05_Nothing_eq : ref05_Nothing = (ref05_Nothing_t).get := ref05_Nothing_m.val_eq (fun _ => ()) (fun p => by kernel_rfl) ()
end Go.Proofs.YtnoeblpanfbpjaaGreat.Ab
