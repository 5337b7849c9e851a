/- Mirrors of code, stage 11. -/
import Derived.Test.YtnoeblpanfbpjaaGreatXc
namespace Go.Proofs.YtnoeblpanfbpjaaGreat.Ab
open Go
attribute [local irreducible] arun



/-! minecontrol/minecontrolref10.Up -/
noncomputable def ref10_Up_l5_step (u5_0 : Int) (u5_2 : Sq SPlace) (u5_3 : Sq SRoad) (u5_4 : Sq SFan) (u5_5 : Sq SDoor) (u5_6 u5_7 : Sq Int) (u5_1 : Int) (u5_8 : Sq Int) (u5_9 : Int) : DT (LR (Int × (Sq Int) × Int) (Int × (Sq Int)) (Int × (Sq Int))) :=
 .ite (decide ((0 : Int) ≤ u5_0 ∧ u5_0 < ((u5_8.n : Nat) : Int))) (
 .bind (ref10_Lowest (SAir.mk (SMine.mk u5_2 u5_3) u5_4 u5_5) (SSetting.mk u5_6 u5_7) (Sq.mk u5_8.n (fun k0 => (cond (Nat.beq k0 (Int.toNat u5_0)) (if (70368744177664 : Int) < (wr (u5_1 + u5_9)) then (70368744177664 : Int) else (wr (u5_1 + u5_9))) (u5_8.f k0)))) u5_0) fun z0 =>
 .ite (decide (z0 ≥ (0 : Int))) (
 .leaf (.l (u5_1, (Sq.mk u5_8.n (fun k1 => (cond (Nat.beq k1 (Int.toNat u5_0)) (if (70368744177664 : Int) < (wr (u5_1 + u5_9)) then (70368744177664 : Int) else (wr (u5_1 + u5_9))) (u5_8.f k1))))))) (
 .ite (decide ((0 : Int) ≤ u5_0 ∧ u5_0 < ((u5_8.n : Nat) : Int))) (
 .ite ((cond (Nat.beq (Int.toNat u5_0) (Int.toNat u5_0)) (if (70368744177664 : Int) < (wr (u5_1 + u5_9)) then (70368744177664 : Int) else (wr (u5_1 + u5_9))) (u5_8.f (Int.toNat u5_0))) == (70368744177664 : Int)) (
 .leaf (.r (u5_1, (Sq.mk u5_8.n (fun k2 => (cond (Nat.beq k2 (Int.toNat u5_0)) (if (70368744177664 : Int) < (wr (u5_1 + u5_9)) then (70368744177664 : Int) else (wr (u5_1 + u5_9))) (u5_8.f k2))))))) (
 .ite (decide ((0 : Int) ≤ u5_0 ∧ u5_0 < ((u5_8.n : Nat) : Int))) (
 .leaf (.next ((cond (Nat.beq (Int.toNat u5_0) (Int.toNat u5_0)) (if (70368744177664 : Int) < (wr (u5_1 + u5_9)) then (70368744177664 : Int) else (wr (u5_1 + u5_9))) (u5_8.f (Int.toNat u5_0))), (Sq.mk u5_8.n (fun k3 => (cond (Nat.beq k3 (Int.toNat u5_0)) (if (70368744177664 : Int) < (wr (u5_1 + u5_9)) then (70368744177664 : Int) else (wr (u5_1 + u5_9))) (u5_8.f k3)))), (wr (u5_9 * (2 : Int)))))) (
 .fail))) (
 .fail))) (
 .fail)
noncomputable def ref10_Up_l5_m : LpM := ⟨Int × (Sq SPlace) × (Sq SRoad) × (Sq SFan) × (Sq SDoor) × (Sq Int) × (Sq Int), Int × (Sq Int) × Int, Int × (Sq Int), Int × (Sq Int), fun p => ⟨[(3, .int .i64 p.1.1), (4, .ptr 0 0), (5, .ptr 64 0), (10, .own 320 0), (11, .int .i64 p.2.1), (12, .int .i64 p.2.2.2)], [(0, .var [sqA 2 SPlace.enc p.1.2.1, sqA 10 SRoad.enc p.1.2.2.1, sqA 4 SFan.enc p.1.2.2.2.1, sqA 3 SDoor.enc p.1.2.2.2.2.1]), (64, .var [sqA 1 (eI .i64) p.1.2.2.2.2.2.1, sqA 1 (eI .i64) p.1.2.2.2.2.2.2]), (320, rowA 0 1 3 (eI .i64) p.2.2.1)], 1600⟩, fun f v => ref10_Up_l5_step f.1 f.2.1 f.2.2.1 f.2.2.2.1 f.2.2.2.2.1 f.2.2.2.2.2.1 f.2.2.2.2.2.2 v.1 v.2.1 v.2.2, false, (.exit 0), (fun x a => ⟨[(3, aget x.tm 3), (4, .ptr 0 0), (5, .ptr 64 0), (8, .undef), (9, .undef), (10, .own 320 0), (11, .int .i64 a.1)], [(0, blkS x 0), (64, blkS x 64), (320, rowA 0 1 3 (eI .i64) a.2)], 1600⟩), .ret, (fun x a => ⟨[(3, aget x.tm 3), (4, .ptr 0 0), (5, .ptr 64 0), (8, .int .i64 (0 : Int)), (9, .bool false), (10, .own 320 0), (11, .int .i64 a.1)], [(0, blkS x 0), (64, blkS x 64), (320, rowA 0 1 3 (eI .i64) a.2)], 1600⟩), c1, c1k⟩
noncomputable def ref10_Up_l5 (u5_0 : Int) (u5_2 : Sq SPlace) (u5_3 : Sq SRoad) (u5_4 : Sq SFan) (u5_5 : Sq SDoor) (u5_6 u5_7 : Sq Int) (u5_1 : Int) (u5_8 : Sq Int) (u5_9 : Int) : Option ((Int × (Sq Int)) ⊕ (Int × (Sq Int))) := ref10_Up_l5_m.val ((u5_0, u5_2, u5_3, u5_4, u5_5, u5_6, u5_7), (u5_1, u5_8, u5_9))
theorem ref10_Up_l5_eq (u5_0 : Int) (u5_2 : Sq SPlace) (u5_3 : Sq SRoad) (u5_4 : Sq SFan) (u5_5 : Sq SDoor) (u5_6 u5_7 : Sq Int) (u5_1 : Int) (u5_8 : Sq Int) (u5_9 : Int) : ref10_Up_l5 u5_0 u5_2 u5_3 u5_4 u5_5 u5_6 u5_7 u5_1 u5_8 u5_9 = fixO (fun v : Int × (Sq Int) × Int => ref10_Up_l5_step u5_0 u5_2 u5_3 u5_4 u5_5 u5_6 u5_7 v.1 v.2.1 v.2.2) (u5_1, u5_8, u5_9) := ref10_Up_l5_m.val_eq (fun x => ((intA (aget x.tm 3), sqD SPlace.dec (cellS x 0 0), sqD SRoad.dec (cellS x 0 1), sqD SFan.dec (cellS x 0 2), sqD SDoor.dec (cellS x 0 3), sqD dI (cellS x 64 0), sqD dI (cellS x 64 1)), (intA (aget x.tm 11), sqB dI (blkS x 320), intA (aget x.tm 12)))) (fun p => by kernel_rfl) ((u5_0, u5_2, u5_3, u5_4, u5_5, u5_6, u5_7), (u5_1, u5_8, u5_9))
noncomputable def ref10_Up_l12_step (u12_0 : Int) (u12_3 : Sq SPlace) (u12_4 : Sq SRoad) (u12_5 : Sq SFan) (u12_6 : Sq SDoor) (u12_7 u12_8 : Sq Int) (u12_1 u12_2 : Int) (u12_9 : Sq Int) : DT (LR (Int × Int × (Sq Int)) (Int × (Sq Int)) (Unit)) :=
 .ite (decide ((wr (u12_1 + (1 : Int))) < u12_2)) (
 .ite (decide ((0 : Int) ≤ u12_0 ∧ u12_0 < ((u12_9.n : Nat) : Int))) (
 .bind (ref10_Lowest (SAir.mk (SMine.mk u12_3 u12_4) u12_5 u12_6) (SSetting.mk u12_7 u12_8) (Sq.mk u12_9.n (fun k4 => (cond (Nat.beq k4 (Int.toNat u12_0)) (wr (u12_1 + (wr (Int.tdiv (wr (u12_2 - u12_1)) (2 : Int))))) (u12_9.f k4)))) u12_0) fun z1 =>
 .ite (decide (z1 ≥ (0 : Int))) (
 .ite (decide ((0 : Int) ≤ u12_0 ∧ u12_0 < ((u12_9.n : Nat) : Int))) (
 .leaf (.next (u12_1, (cond (Nat.beq (Int.toNat u12_0) (Int.toNat u12_0)) (wr (u12_1 + (wr (Int.tdiv (wr (u12_2 - u12_1)) (2 : Int))))) (u12_9.f (Int.toNat u12_0))), (Sq.mk u12_9.n (fun k5 => (cond (Nat.beq k5 (Int.toNat u12_0)) (wr (u12_1 + (wr (Int.tdiv (wr (u12_2 - u12_1)) (2 : Int))))) (u12_9.f k5))))))) (
 .fail)) (
 .ite (decide ((0 : Int) ≤ u12_0 ∧ u12_0 < ((u12_9.n : Nat) : Int))) (
 .leaf (.next ((cond (Nat.beq (Int.toNat u12_0) (Int.toNat u12_0)) (wr (u12_1 + (wr (Int.tdiv (wr (u12_2 - u12_1)) (2 : Int))))) (u12_9.f (Int.toNat u12_0))), u12_2, (Sq.mk u12_9.n (fun k6 => (cond (Nat.beq k6 (Int.toNat u12_0)) (wr (u12_1 + (wr (Int.tdiv (wr (u12_2 - u12_1)) (2 : Int))))) (u12_9.f k6))))))) (
 .fail))) (
 .fail)) (
 .leaf (.l (u12_2, u12_9)))
noncomputable def ref10_Up_l12_m : LpM := ⟨Int × (Sq SPlace) × (Sq SRoad) × (Sq SFan) × (Sq SDoor) × (Sq Int) × (Sq Int), Int × Int × (Sq Int), Int × (Sq Int), Unit, fun p => ⟨[(3, .int .i64 p.1.1), (4, .ptr 0 0), (5, .ptr 64 0), (10, .own 320 0), (11, .int .i64 p.2.1), (13, .int .i64 p.2.2.1)], [(0, .var [sqA 2 SPlace.enc p.1.2.1, sqA 10 SRoad.enc p.1.2.2.1, sqA 4 SFan.enc p.1.2.2.2.1, sqA 3 SDoor.enc p.1.2.2.2.2.1]), (64, .var [sqA 1 (eI .i64) p.1.2.2.2.2.2.1, sqA 1 (eI .i64) p.1.2.2.2.2.2.2]), (320, rowA 0 1 3 (eI .i64) p.2.2.2)], 1920⟩, fun f v => ref10_Up_l12_step f.1 f.2.1 f.2.2.1 f.2.2.2.1 f.2.2.2.2.1 f.2.2.2.2.2.1 f.2.2.2.2.2.2 v.1 v.2.1 v.2.2, true, (.exit 2), (fun x a => ⟨[(13, .int .i64 a.1)], [(0, blkS x 0), (64, blkS x 64), (320, rowA 0 1 3 (eI .i64) a.2)], 1920⟩), .ret, (fun _ _ => ⟨[], [], 0⟩), c1, c1k⟩
noncomputable def ref10_Up_l12 (u12_0 : Int) (u12_3 : Sq SPlace) (u12_4 : Sq SRoad) (u12_5 : Sq SFan) (u12_6 : Sq SDoor) (u12_7 u12_8 : Sq Int) (u12_1 u12_2 : Int) (u12_9 : Sq Int) : Option ((Int × (Sq Int)) ⊕ (Unit)) := ref10_Up_l12_m.val ((u12_0, u12_3, u12_4, u12_5, u12_6, u12_7, u12_8), (u12_1, u12_2, u12_9))
theorem ref10_Up_l12_eq (u12_0 : Int) (u12_3 : Sq SPlace) (u12_4 : Sq SRoad) (u12_5 : Sq SFan) (u12_6 : Sq SDoor) (u12_7 u12_8 : Sq Int) (u12_1 u12_2 : Int) (u12_9 : Sq Int) : ref10_Up_l12 u12_0 u12_3 u12_4 u12_5 u12_6 u12_7 u12_8 u12_1 u12_2 u12_9 = fixO (fun v : Int × Int × (Sq Int) => ref10_Up_l12_step u12_0 u12_3 u12_4 u12_5 u12_6 u12_7 u12_8 v.1 v.2.1 v.2.2) (u12_1, u12_2, u12_9) := ref10_Up_l12_m.val_eq (fun x => ((intA (aget x.tm 3), sqD SPlace.dec (cellS x 0 0), sqD SRoad.dec (cellS x 0 1), sqD SFan.dec (cellS x 0 2), sqD SDoor.dec (cellS x 0 3), sqD dI (cellS x 64 0), sqD dI (cellS x 64 1)), (intA (aget x.tm 11), intA (aget x.tm 13), sqB dI (blkS x 320)))) (fun p => by kernel_rfl) ((u12_0, u12_3, u12_4, u12_5, u12_6, u12_7, u12_8), (u12_1, u12_2, u12_9))
noncomputable def ref10_Up_t (a : SAir) (s : SSetting) (pressures : Sq Int) (place : Int) : DT (Int × Bool) :=
 .ite (decide (pressures.n * 8 ≤ 140737488355328 ∧ pressures.n ≤ 1099511627776)) (
 .bind (ref10_Lowest a s pressures place) fun z2 =>
 .ite (decide (z2 ≥ (0 : Int))) (
 .ite (decide ((0 : Int) ≤ place ∧ place < ((pressures.n : Nat) : Int))) (.leaf ((pressures.f (Int.toNat place)), true)) (.fail)) (
 .ite (decide ((0 : Int) ≤ place ∧ place < ((pressures.n : Nat) : Int))) (
 .sum (ref10_Up_l5 place a.Mine.Places a.Mine.Roads a.Fans a.Doors s.Fans s.Doors (pressures.f (Int.toNat place)) pressures (1 : Int)) (fun y0 =>
 .ite (decide ((0 : Int) ≤ place ∧ place < ((y0.2.n : Nat) : Int))) (
 .sum (ref10_Up_l12 place a.Mine.Places a.Mine.Roads a.Fans a.Doors s.Fans s.Doors y0.1 (y0.2.f (Int.toNat place)) y0.2) (fun y1 =>
 .leaf (y1.1, true)) (fun _ => .fail)) (
 .fail)) (fun _ => .leaf ((0 : Int), false))) (
 .fail))) (
 .fail)
noncomputable def ref10_Up_m : FnM := flM (SAir × SSetting × (Sq Int) × Int) (Int × Bool) (fun p => ([.agg (SAir.enc p.1), .agg (SSetting.enc p.2.1), sqA 1 (eI .i64) p.2.2.1, .int .i64 p.2.2.2], [])) (fun p => ref10_Up_t p.1 p.2.1 p.2.2.1 p.2.2.2) (fun r => .tup [.int .i64 r.1, .bool r.2]) (fun _ => rfl)
noncomputable def ref10_Up_env : Env := envM [(39, ref10_Lowest_m.c)] [(5, [3, 4, 5, 10, 11, 12], [3, 4, 5, 8, 9, 10, 11]), (12, [3, 4, 5, 10, 11, 13], [13])] [(5, ref10_Up_l5_m.c), (12, ref10_Up_l12_m.c)] [] [(5, [0, 64, 320]), (12, [0, 64, 320])] 0
noncomputable def ref10_Up_e : Env := { ref10_Up_env with nt := 86 }
theorem ref10_Up_l5_tells : LoopTells ref10_Up_e (loopOf 5 Tryz.f130) ref10_Up_l5_m.c := ref10_Up_l5_m.tells 1600 (fun _ => by kernel_rfl) (fun _ _ _ _ => by kernel_rfl) (fun _ _ _ _ => by kernel_rfl) fun R f v N K => by kernel_rfl
theorem ref10_Up_l12_tells : LoopTells ref10_Up_e (loopOf 12 Tryz.f130) ref10_Up_l12_m.c := ref10_Up_l12_m.tells 1920 (fun _ => by kernel_rfl) (fun _ _ _ _ => by kernel_rfl) (fun _ _ _ _ => by kernel_rfl) fun R f v N K => by kernel_rfl
theorem ref10_Up_tells : Tells Tryz.prog 130 ref10_Up_m.c := ref10_Up_m.tells Tryz.func130 (show ∀ p, arun ref10_Up_env Tryz.f130 (ref10_Up_m.enc p).1 (ref10_Up_m.enc p).2 = _ from fun p => by kernel_rfl) (loopsL [loopOf 5 Tryz.f130, loopOf 12 Tryz.f130] (by kernel_rfl) ⟨lpT (by kernel_rfl) ref10_Up_l5_tells, ⟨lpT (by kernel_rfl) ref10_Up_l12_tells, trivial⟩⟩) (.cons ref10_Lowest_tells .nil)
noncomputable def ref10_Up (a : SAir) (s : SSetting) (pressures : Sq Int) (place : Int) : Option (Int × Bool) := ref10_Up_m.val (a, s, pressures, place)
theorem ref10_Up_eq (a : SAir) (s : SSetting) (pressures : Sq Int) (place : Int) : ref10_Up a s pressures place = (ref10_Up_t a s pressures place).get := ref10_Up_m.val_eq (fun x => (SAir.dec (aggL (gd x.1 0)), SSetting.dec (aggL (gd x.1 1)), sqD dI (gd x.1 2), intA (gd x.1 3))) (fun p => by kernel_rfl) (a, s, pressures, place)

/-! minecontrol/minecontrolref10.Down -/
noncomputable def ref10_Down_l5_step (u5_0 : Int) (u5_2 : Sq SPlace) (u5_3 : Sq SRoad) (u5_4 : Sq SFan) (u5_5 : Sq SDoor) (u5_6 u5_7 : Sq Int) (u5_1 : Int) (u5_8 : Sq Int) (u5_9 : Int) : DT (LR (Int × (Sq Int) × Int) (Int × (Sq Int)) (Int × (Sq Int))) :=
 .ite (decide ((0 : Int) ≤ u5_0 ∧ u5_0 < ((u5_8.n : Nat) : Int))) (
 .bind (ref10_Highest (SAir.mk (SMine.mk u5_2 u5_3) u5_4 u5_5) (SSetting.mk u5_6 u5_7) (Sq.mk u5_8.n (fun k0 => (cond (Nat.beq k0 (Int.toNat u5_0)) (if (wr (u5_1 - u5_9)) < (-70368744177664 : Int) then (-70368744177664 : Int) else (wr (u5_1 - u5_9))) (u5_8.f k0)))) u5_0) fun z0 =>
 .ite (decide (z0 ≤ (0 : Int))) (
 .leaf (.l (u5_1, (Sq.mk u5_8.n (fun k1 => (cond (Nat.beq k1 (Int.toNat u5_0)) (if (wr (u5_1 - u5_9)) < (-70368744177664 : Int) then (-70368744177664 : Int) else (wr (u5_1 - u5_9))) (u5_8.f k1))))))) (
 .ite (decide ((0 : Int) ≤ u5_0 ∧ u5_0 < ((u5_8.n : Nat) : Int))) (
 .ite ((cond (Nat.beq (Int.toNat u5_0) (Int.toNat u5_0)) (if (wr (u5_1 - u5_9)) < (-70368744177664 : Int) then (-70368744177664 : Int) else (wr (u5_1 - u5_9))) (u5_8.f (Int.toNat u5_0))) == (-70368744177664 : Int)) (
 .leaf (.r (u5_1, (Sq.mk u5_8.n (fun k2 => (cond (Nat.beq k2 (Int.toNat u5_0)) (if (wr (u5_1 - u5_9)) < (-70368744177664 : Int) then (-70368744177664 : Int) else (wr (u5_1 - u5_9))) (u5_8.f k2))))))) (
 .ite (decide ((0 : Int) ≤ u5_0 ∧ u5_0 < ((u5_8.n : Nat) : Int))) (
 .leaf (.next ((cond (Nat.beq (Int.toNat u5_0) (Int.toNat u5_0)) (if (wr (u5_1 - u5_9)) < (-70368744177664 : Int) then (-70368744177664 : Int) else (wr (u5_1 - u5_9))) (u5_8.f (Int.toNat u5_0))), (Sq.mk u5_8.n (fun k3 => (cond (Nat.beq k3 (Int.toNat u5_0)) (if (wr (u5_1 - u5_9)) < (-70368744177664 : Int) then (-70368744177664 : Int) else (wr (u5_1 - u5_9))) (u5_8.f k3)))), (wr (u5_9 * (2 : Int)))))) (
 .fail))) (
 .fail))) (
 .fail)
noncomputable def ref10_Down_l5_m : LpM := ⟨Int × (Sq SPlace) × (Sq SRoad) × (Sq SFan) × (Sq SDoor) × (Sq Int) × (Sq Int), Int × (Sq Int) × Int, Int × (Sq Int), Int × (Sq Int), fun p => ⟨[(3, .int .i64 p.1.1), (4, .ptr 0 0), (5, .ptr 64 0), (10, .own 320 0), (11, .int .i64 p.2.1), (12, .int .i64 p.2.2.2)], [(0, .var [sqA 2 SPlace.enc p.1.2.1, sqA 10 SRoad.enc p.1.2.2.1, sqA 4 SFan.enc p.1.2.2.2.1, sqA 3 SDoor.enc p.1.2.2.2.2.1]), (64, .var [sqA 1 (eI .i64) p.1.2.2.2.2.2.1, sqA 1 (eI .i64) p.1.2.2.2.2.2.2]), (320, rowA 0 1 3 (eI .i64) p.2.2.1)], 1600⟩, fun f v => ref10_Down_l5_step f.1 f.2.1 f.2.2.1 f.2.2.2.1 f.2.2.2.2.1 f.2.2.2.2.2.1 f.2.2.2.2.2.2 v.1 v.2.1 v.2.2, false, (.exit 0), (fun x a => ⟨[(3, aget x.tm 3), (4, .ptr 0 0), (5, .ptr 64 0), (8, .undef), (9, .undef), (10, .own 320 0), (11, .int .i64 a.1)], [(0, blkS x 0), (64, blkS x 64), (320, rowA 0 1 3 (eI .i64) a.2)], 1600⟩), .ret, (fun x a => ⟨[(3, aget x.tm 3), (4, .ptr 0 0), (5, .ptr 64 0), (8, .int .i64 (0 : Int)), (9, .bool false), (10, .own 320 0), (11, .int .i64 a.1)], [(0, blkS x 0), (64, blkS x 64), (320, rowA 0 1 3 (eI .i64) a.2)], 1600⟩), c1, c1k⟩
noncomputable def ref10_Down_l5 (u5_0 : Int) (u5_2 : Sq SPlace) (u5_3 : Sq SRoad) (u5_4 : Sq SFan) (u5_5 : Sq SDoor) (u5_6 u5_7 : Sq Int) (u5_1 : Int) (u5_8 : Sq Int) (u5_9 : Int) : Option ((Int × (Sq Int)) ⊕ (Int × (Sq Int))) := ref10_Down_l5_m.val ((u5_0, u5_2, u5_3, u5_4, u5_5, u5_6, u5_7), (u5_1, u5_8, u5_9))
theorem ref10_Down_l5_eq (u5_0 : Int) (u5_2 : Sq SPlace) (u5_3 : Sq SRoad) (u5_4 : Sq SFan) (u5_5 : Sq SDoor) (u5_6 u5_7 : Sq Int) (u5_1 : Int) (u5_8 : Sq Int) (u5_9 : Int) : ref10_Down_l5 u5_0 u5_2 u5_3 u5_4 u5_5 u5_6 u5_7 u5_1 u5_8 u5_9 = fixO (fun v : Int × (Sq Int) × Int => ref10_Down_l5_step u5_0 u5_2 u5_3 u5_4 u5_5 u5_6 u5_7 v.1 v.2.1 v.2.2) (u5_1, u5_8, u5_9) := ref10_Down_l5_m.val_eq (fun x => ((intA (aget x.tm 3), sqD SPlace.dec (cellS x 0 0), sqD SRoad.dec (cellS x 0 1), sqD SFan.dec (cellS x 0 2), sqD SDoor.dec (cellS x 0 3), sqD dI (cellS x 64 0), sqD dI (cellS x 64 1)), (intA (aget x.tm 11), sqB dI (blkS x 320), intA (aget x.tm 12)))) (fun p => by kernel_rfl) ((u5_0, u5_2, u5_3, u5_4, u5_5, u5_6, u5_7), (u5_1, u5_8, u5_9))
noncomputable def ref10_Down_l12_step (u12_0 : Int) (u12_3 : Sq SPlace) (u12_4 : Sq SRoad) (u12_5 : Sq SFan) (u12_6 : Sq SDoor) (u12_7 u12_8 : Sq Int) (u12_1 u12_2 : Int) (u12_9 : Sq Int) : DT (LR (Int × Int × (Sq Int)) (Int × (Sq Int)) (Unit)) :=
 .ite (decide ((wr (u12_2 + (1 : Int))) < u12_1)) (
 .ite (decide ((0 : Int) ≤ u12_0 ∧ u12_0 < ((u12_9.n : Nat) : Int))) (
 .bind (ref10_Highest (SAir.mk (SMine.mk u12_3 u12_4) u12_5 u12_6) (SSetting.mk u12_7 u12_8) (Sq.mk u12_9.n (fun k4 => (cond (Nat.beq k4 (Int.toNat u12_0)) (wr (u12_2 + (wr (Int.tdiv (wr (u12_1 - u12_2)) (2 : Int))))) (u12_9.f k4)))) u12_0) fun z1 =>
 .ite (decide (z1 ≤ (0 : Int))) (
 .ite (decide ((0 : Int) ≤ u12_0 ∧ u12_0 < ((u12_9.n : Nat) : Int))) (
 .leaf (.next (u12_1, (cond (Nat.beq (Int.toNat u12_0) (Int.toNat u12_0)) (wr (u12_2 + (wr (Int.tdiv (wr (u12_1 - u12_2)) (2 : Int))))) (u12_9.f (Int.toNat u12_0))), (Sq.mk u12_9.n (fun k5 => (cond (Nat.beq k5 (Int.toNat u12_0)) (wr (u12_2 + (wr (Int.tdiv (wr (u12_1 - u12_2)) (2 : Int))))) (u12_9.f k5))))))) (
 .fail)) (
 .ite (decide ((0 : Int) ≤ u12_0 ∧ u12_0 < ((u12_9.n : Nat) : Int))) (
 .leaf (.next ((cond (Nat.beq (Int.toNat u12_0) (Int.toNat u12_0)) (wr (u12_2 + (wr (Int.tdiv (wr (u12_1 - u12_2)) (2 : Int))))) (u12_9.f (Int.toNat u12_0))), u12_2, (Sq.mk u12_9.n (fun k6 => (cond (Nat.beq k6 (Int.toNat u12_0)) (wr (u12_2 + (wr (Int.tdiv (wr (u12_1 - u12_2)) (2 : Int))))) (u12_9.f k6))))))) (
 .fail))) (
 .fail)) (
 .leaf (.l (u12_2, u12_9)))
noncomputable def ref10_Down_l12_m : LpM := ⟨Int × (Sq SPlace) × (Sq SRoad) × (Sq SFan) × (Sq SDoor) × (Sq Int) × (Sq Int), Int × Int × (Sq Int), Int × (Sq Int), Unit, fun p => ⟨[(3, .int .i64 p.1.1), (4, .ptr 0 0), (5, .ptr 64 0), (10, .own 320 0), (11, .int .i64 p.2.1), (13, .int .i64 p.2.2.1)], [(0, .var [sqA 2 SPlace.enc p.1.2.1, sqA 10 SRoad.enc p.1.2.2.1, sqA 4 SFan.enc p.1.2.2.2.1, sqA 3 SDoor.enc p.1.2.2.2.2.1]), (64, .var [sqA 1 (eI .i64) p.1.2.2.2.2.2.1, sqA 1 (eI .i64) p.1.2.2.2.2.2.2]), (320, rowA 0 1 3 (eI .i64) p.2.2.2)], 1920⟩, fun f v => ref10_Down_l12_step f.1 f.2.1 f.2.2.1 f.2.2.2.1 f.2.2.2.2.1 f.2.2.2.2.2.1 f.2.2.2.2.2.2 v.1 v.2.1 v.2.2, true, (.exit 2), (fun x a => ⟨[(13, .int .i64 a.1)], [(0, blkS x 0), (64, blkS x 64), (320, rowA 0 1 3 (eI .i64) a.2)], 1920⟩), .ret, (fun _ _ => ⟨[], [], 0⟩), c1, c1k⟩
noncomputable def ref10_Down_l12 (u12_0 : Int) (u12_3 : Sq SPlace) (u12_4 : Sq SRoad) (u12_5 : Sq SFan) (u12_6 : Sq SDoor) (u12_7 u12_8 : Sq Int) (u12_1 u12_2 : Int) (u12_9 : Sq Int) : Option ((Int × (Sq Int)) ⊕ (Unit)) := ref10_Down_l12_m.val ((u12_0, u12_3, u12_4, u12_5, u12_6, u12_7, u12_8), (u12_1, u12_2, u12_9))
theorem ref10_Down_l12_eq (u12_0 : Int) (u12_3 : Sq SPlace) (u12_4 : Sq SRoad) (u12_5 : Sq SFan) (u12_6 : Sq SDoor) (u12_7 u12_8 : Sq Int) (u12_1 u12_2 : Int) (u12_9 : Sq Int) : ref10_Down_l12 u12_0 u12_3 u12_4 u12_5 u12_6 u12_7 u12_8 u12_1 u12_2 u12_9 = fixO (fun v : Int × Int × (Sq Int) => ref10_Down_l12_step u12_0 u12_3 u12_4 u12_5 u12_6 u12_7 u12_8 v.1 v.2.1 v.2.2) (u12_1, u12_2, u12_9) := ref10_Down_l12_m.val_eq (fun x => ((intA (aget x.tm 3), sqD SPlace.dec (cellS x 0 0), sqD SRoad.dec (cellS x 0 1), sqD SFan.dec (cellS x 0 2), sqD SDoor.dec (cellS x 0 3), sqD dI (cellS x 64 0), sqD dI (cellS x 64 1)), (intA (aget x.tm 11), intA (aget x.tm 13), sqB dI (blkS x 320)))) (fun p => by kernel_rfl) ((u12_0, u12_3, u12_4, u12_5, u12_6, u12_7, u12_8), (u12_1, u12_2, u12_9))
noncomputable def ref10_Down_t (a : SAir) (s : SSetting) (pressures : Sq Int) (place : Int) : DT (Int × Bool) :=
 .ite (decide (pressures.n * 8 ≤ 140737488355328 ∧ pressures.n ≤ 1099511627776)) (
 .bind (ref10_Highest a s pressures place) fun z2 =>
 .ite (decide (z2 ≤ (0 : Int))) (
 .ite (decide ((0 : Int) ≤ place ∧ place < ((pressures.n : Nat) : Int))) (.leaf ((pressures.f (Int.toNat place)), true)) (.fail)) (
 .ite (decide ((0 : Int) ≤ place ∧ place < ((pressures.n : Nat) : Int))) (
 .sum (ref10_Down_l5 place a.Mine.Places a.Mine.Roads a.Fans a.Doors s.Fans s.Doors (pressures.f (Int.toNat place)) pressures (1 : Int)) (fun y0 =>
 .ite (decide ((0 : Int) ≤ place ∧ place < ((y0.2.n : Nat) : Int))) (
 .sum (ref10_Down_l12 place a.Mine.Places a.Mine.Roads a.Fans a.Doors s.Fans s.Doors y0.1 (y0.2.f (Int.toNat place)) y0.2) (fun y1 =>
 .leaf (y1.1, true)) (fun _ => .fail)) (
 .fail)) (fun _ => .leaf ((0 : Int), false))) (
 .fail))) (
 .fail)
noncomputable def ref10_Down_m : FnM := flM (SAir × SSetting × (Sq Int) × Int) (Int × Bool) (fun p => ([.agg (SAir.enc p.1), .agg (SSetting.enc p.2.1), sqA 1 (eI .i64) p.2.2.1, .int .i64 p.2.2.2], [])) (fun p => ref10_Down_t p.1 p.2.1 p.2.2.1 p.2.2.2) (fun r => .tup [.int .i64 r.1, .bool r.2]) (fun _ => rfl)
noncomputable def ref10_Down_env : Env := envM [(40, ref10_Highest_m.c)] [(5, [3, 4, 5, 10, 11, 12], [3, 4, 5, 8, 9, 10, 11]), (12, [3, 4, 5, 10, 11, 13], [13])] [(5, ref10_Down_l5_m.c), (12, ref10_Down_l12_m.c)] [] [(5, [0, 64, 320]), (12, [0, 64, 320])] 0
noncomputable def ref10_Down_e : Env := { ref10_Down_env with nt := 86 }
theorem ref10_Down_l5_tells : LoopTells ref10_Down_e (loopOf 5 Tryz.f131) ref10_Down_l5_m.c := ref10_Down_l5_m.tells 1600 (fun _ => by kernel_rfl) (fun _ _ _ _ => by kernel_rfl) (fun _ _ _ _ => by kernel_rfl) fun R f v N K => by kernel_rfl
theorem ref10_Down_l12_tells : LoopTells ref10_Down_e (loopOf 12 Tryz.f131) ref10_Down_l12_m.c := ref10_Down_l12_m.tells 1920 (fun _ => by kernel_rfl) (fun _ _ _ _ => by kernel_rfl) (fun _ _ _ _ => by kernel_rfl) fun R f v N K => by kernel_rfl
theorem ref10_Down_tells : Tells Tryz.prog 131 ref10_Down_m.c := ref10_Down_m.tells Tryz.func131 (show ∀ p, arun ref10_Down_env Tryz.f131 (ref10_Down_m.enc p).1 (ref10_Down_m.enc p).2 = _ from fun p => by kernel_rfl) (loopsL [loopOf 5 Tryz.f131, loopOf 12 Tryz.f131] (by kernel_rfl) ⟨lpT (by kernel_rfl) ref10_Down_l5_tells, ⟨lpT (by kernel_rfl) ref10_Down_l12_tells, trivial⟩⟩) (.cons ref10_Highest_tells .nil)
noncomputable def ref10_Down (a : SAir) (s : SSetting) (pressures : Sq Int) (place : Int) : Option (Int × Bool) := ref10_Down_m.val (a, s, pressures, place)
theorem ref10_Down_eq (a : SAir) (s : SSetting) (pressures : Sq Int) (place : Int) : ref10_Down a s pressures place = (ref10_Down_t a s pressures place).get := ref10_Down_m.val_eq (fun x => (SAir.dec (aggL (gd x.1 0)), SSetting.dec (aggL (gd x.1 1)), sqD dI (gd x.1 2), intA (gd x.1 3))) (fun p => by kernel_rfl) (a, s, pressures, place)
end Go.Proofs.YtnoeblpanfbpjaaGreat.Ab
