/- Mirrors of code, stage 11. -/
import Derived.Test.YtnoeblpanfbpjaaGreatXc
namespace Go.Proofs.YtnoeblpanfbpjaaGreat.Ab
open Go
attribute [local irreducible] arun



/-! minecontrol/branch.reachTo -/
noncomputable def branch_reachTo_l2_step (u2_0 : Int) (u2_1 : Sq Int) (u2_3 : Int) : DT (LR (Int) (Unit) (Unit)) :=
 .ite (decide (u2_3 < ((u2_1.n : Nat) : Int))) (
 .ite (decide ((0 : Int) ≤ u2_3 ∧ u2_3 < ((u2_1.n : Nat) : Int))) (
 .bind (branch_within (u2_1.f (Int.toNat u2_3)) (wr (0 - u2_0)) u2_0) fun z0 =>
 .ite (!z0) (
 .leaf (.r ())) (
 .leaf (.next (wr (u2_3 + (1 : Int)))))) (
 .fail)) (
 .leaf (.l ()))
noncomputable def branch_reachTo_l2_m : LpM := ⟨Int × (Sq Int), Int, Unit, Unit, fun p => ⟨[(1, .int .i64 p.1.1), (7, sqA 1 (eI .i64) p.1.2), (8, .int .i64 ((p.1.2.n : Nat) : Int)), (9, .int .i64 p.2)], [], 256⟩, fun f v => branch_reachTo_l2_step f.1 f.2 v, false, (.exit 0), (fun _ _ => ⟨[(4, .undef)], [], 256⟩), .ret, (fun _ _ => ⟨[(4, .bool false)], [], 256⟩), c1, c1k⟩
noncomputable def branch_reachTo_l2 (u2_0 : Int) (u2_1 : Sq Int) (u2_3 : Int) : Option ((Unit) ⊕ (Unit)) := branch_reachTo_l2_m.val ((u2_0, u2_1), u2_3)
theorem branch_reachTo_l2_eq (u2_0 : Int) (u2_1 : Sq Int) (u2_3 : Int) : branch_reachTo_l2 u2_0 u2_1 u2_3 = fixO (fun v : Int => branch_reachTo_l2_step u2_0 u2_1 v) u2_3 := branch_reachTo_l2_m.val_eq (fun x => ((intA (aget x.tm 1), sqD dI (aget x.tm 7)), intA (aget x.tm 9))) (fun p => by kernel_rfl) ((u2_0, u2_1), u2_3)
noncomputable def branch_reachTo_t (l : Sq Int) (limit : Int) : DT (Bool) :=
 .sum (branch_reachTo_l2 limit l (0 : Int)) (fun _ =>
 .leaf true) (fun _ => .leaf false)
noncomputable def branch_reachTo_m : FnM := flM ((Sq Int) × Int) (Bool) (fun p => ([sqA 1 (eI .i64) p.1, .int .i64 p.2], [])) (fun p => branch_reachTo_t p.1 p.2) (fun r => .bool r) (fun _ => rfl)
noncomputable def branch_reachTo_env : Env := envM [(74, branch_within_m.c)] [(2, [1, 7, 8, 9], [4])] [(2, branch_reachTo_l2_m.c)] [] [(2, [])] 0
noncomputable def branch_reachTo_e : Env := { branch_reachTo_env with nt := 20 }
theorem branch_reachTo_l2_tells : LoopTells branch_reachTo_e (loopOf 2 Tryz.f48) branch_reachTo_l2_m.c := branch_reachTo_l2_m.tells 256 (fun _ => by kernel_rfl) (fun _ _ _ _ => by kernel_rfl) (fun _ _ _ _ => by kernel_rfl) fun R f v N K => by kernel_rfl
theorem branch_reachTo_tells : Tells Tryz.prog 48 branch_reachTo_m.c := branch_reachTo_m.tells Tryz.func48 (show ∀ p, arun branch_reachTo_env Tryz.f48 (branch_reachTo_m.enc p).1 (branch_reachTo_m.enc p).2 = _ from fun p => by kernel_rfl) (loopsL [loopOf 2 Tryz.f48] (by kernel_rfl) ⟨lpT (by kernel_rfl) branch_reachTo_l2_tells, trivial⟩) (.cons branch_within_tells .nil)
noncomputable def branch_reachTo (l : Sq Int) (limit : Int) : Option (Bool) := branch_reachTo_m.val (l, limit)
theorem branch_reachTo_eq (l : Sq Int) (limit : Int) : branch_reachTo l limit = (branch_reachTo_t l limit).get := branch_reachTo_m.val_eq (fun x => (sqD dI (gd x.1 0), intA (gd x.1 1))) (fun p => by kernel_rfl) (l, limit)

/-! minecontrol/branch.surfaceIsCalm -/
noncomputable def branch_surfaceIsCalm_l2_step (u2_0 : Sq Int) (u2_1 : Sq SPlace) (u2_3 : Int) : DT (LR (Int) (Unit) (Unit)) :=
 .ite (decide (u2_3 < ((u2_1.n : Nat) : Int))) (
 .ite (decide ((0 : Int) ≤ u2_3 ∧ u2_3 < ((u2_1.n : Nat) : Int))) (
 .ite (u2_1.f (Int.toNat u2_3)).Surface (
 .ite (decide ((0 : Int) ≤ u2_3 ∧ u2_3 < ((u2_0.n : Nat) : Int))) (
 .ite ((u2_0.f (Int.toNat u2_3)) != (0 : Int)) (
 .leaf (.r ())) (
 .leaf (.next (wr (u2_3 + (1 : Int)))))) (
 .fail)) (
 .leaf (.next (wr (u2_3 + (1 : Int)))))) (
 .fail)) (
 .leaf (.l ()))
noncomputable def branch_surfaceIsCalm_l2_m : LpM := ⟨(Sq Int) × (Sq SPlace), Int, Unit, Unit, fun p => ⟨[(1, sqA 1 (eI .i64) p.1.1), (8, sqA 2 SPlace.enc p.1.2), (9, .int .i64 ((p.1.2.n : Nat) : Int)), (10, .int .i64 p.2)], [], 384⟩, fun f v => branch_surfaceIsCalm_l2_step f.1 f.2 v, false, (.exit 0), (fun _ _ => ⟨[(4, .undef)], [], 384⟩), .ret, (fun _ _ => ⟨[(4, .bool false)], [], 384⟩), c1, c1k⟩
noncomputable def branch_surfaceIsCalm_l2 (u2_0 : Sq Int) (u2_1 : Sq SPlace) (u2_3 : Int) : Option ((Unit) ⊕ (Unit)) := branch_surfaceIsCalm_l2_m.val ((u2_0, u2_1), u2_3)
theorem branch_surfaceIsCalm_l2_eq (u2_0 : Sq Int) (u2_1 : Sq SPlace) (u2_3 : Int) : branch_surfaceIsCalm_l2 u2_0 u2_1 u2_3 = fixO (fun v : Int => branch_surfaceIsCalm_l2_step u2_0 u2_1 v) u2_3 := branch_surfaceIsCalm_l2_m.val_eq (fun x => ((sqD dI (aget x.tm 1), sqD SPlace.dec (aget x.tm 8)), intA (aget x.tm 10))) (fun p => by kernel_rfl) ((u2_0, u2_1), u2_3)
noncomputable def branch_surfaceIsCalm_t (m : SMine) (pressures : Sq Int) : DT (Bool) :=
 .sum (branch_surfaceIsCalm_l2 pressures m.Places (0 : Int)) (fun _ =>
 .leaf true) (fun _ => .leaf false)
noncomputable def branch_surfaceIsCalm_m : FnM := flM (SMine × (Sq Int)) (Bool) (fun p => ([.agg (SMine.enc p.1), sqA 1 (eI .i64) p.2], [])) (fun p => branch_surfaceIsCalm_t p.1 p.2) (fun r => .bool r) (fun _ => rfl)
noncomputable def branch_surfaceIsCalm_env : Env := envM [] [(2, [1, 8, 9, 10], [4])] [(2, branch_surfaceIsCalm_l2_m.c)] [] [(2, [])] 0
noncomputable def branch_surfaceIsCalm_e : Env := { branch_surfaceIsCalm_env with nt := 25 }
theorem branch_surfaceIsCalm_l2_tells : LoopTells branch_surfaceIsCalm_e (loopOf 2 Tryz.f49) branch_surfaceIsCalm_l2_m.c := branch_surfaceIsCalm_l2_m.tells 384 (fun _ => by kernel_rfl) (fun _ _ _ _ => by kernel_rfl) (fun _ _ _ _ => by kernel_rfl) fun R f v N K => by kernel_rfl
theorem branch_surfaceIsCalm_tells : Tells Tryz.prog 49 branch_surfaceIsCalm_m.c := branch_surfaceIsCalm_m.tells Tryz.func49 (show ∀ p, arun branch_surfaceIsCalm_env Tryz.f49 (branch_surfaceIsCalm_m.enc p).1 (branch_surfaceIsCalm_m.enc p).2 = _ from fun p => by kernel_rfl) (loopsL [loopOf 2 Tryz.f49] (by kernel_rfl) ⟨lpT (by kernel_rfl) branch_surfaceIsCalm_l2_tells, trivial⟩) .nil
noncomputable def branch_surfaceIsCalm (m : SMine) (pressures : Sq Int) : Option (Bool) := branch_surfaceIsCalm_m.val (m, pressures)
theorem branch_surfaceIsCalm_eq (m : SMine) (pressures : Sq Int) : branch_surfaceIsCalm m pressures = (branch_surfaceIsCalm_t m pressures).get := branch_surfaceIsCalm_m.val_eq (fun x => (SMine.dec (aggL (gd x.1 0)), sqD dI (gd x.1 1))) (fun p => by kernel_rfl) (m, pressures)

/-! minecontrol/branch.flowsFit -/
noncomputable def branch_flowsFit_l2_step (u2_0 : Sq SRoad) (u2_2 : Sq SPlace) (u2_3 : Sq SFan) (u2_4 : Sq SDoor) (u2_5 u2_6 u2_7 u2_8 : Sq Int) (u2_9 : Int) : DT (LR (Int) (Unit) (Unit)) :=
 .ite (decide (u2_9 < ((u2_0.n : Nat) : Int))) (
 .ite (decide ((0 : Int) ≤ u2_9 ∧ u2_9 < ((u2_0.n : Nat) : Int))) (
 .ite (u2_0.f (Int.toNat u2_9)).Closed (
 .ite (decide ((0 : Int) ≤ u2_9 ∧ u2_9 < ((u2_8.n : Nat) : Int))) (
 .ite ((u2_8.f (Int.toNat u2_9)) != (0 : Int)) (
 .leaf (.r ())) (
 .leaf (.next (wr (u2_9 + (1 : Int)))))) (
 .fail)) (
 .bind (branch_airwayOf (SAir.mk (SMine.mk u2_2 u2_0) u2_3 u2_4) (SSetting.mk u2_5 u2_6) u2_9) fun z0 =>
 .ite (decide ((0 : Int) ≤ u2_9 ∧ u2_9 < ((u2_8.n : Nat) : Int))) (
 .bind (branch_airway_drop z0 (u2_8.f (Int.toNat u2_9))) fun z1 =>
 .ite (decide ((0 : Int) ≤ (u2_0.f (Int.toNat u2_9)).From ∧ (u2_0.f (Int.toNat u2_9)).From < ((u2_7.n : Nat) : Int))) (
 .ite (decide ((0 : Int) ≤ (u2_0.f (Int.toNat u2_9)).To ∧ (u2_0.f (Int.toNat u2_9)).To < ((u2_7.n : Nat) : Int))) (
 .bind (branch_within (wr ((u2_7.f (Int.toNat (u2_0.f (Int.toNat u2_9)).From)) - (u2_7.f (Int.toNat (u2_0.f (Int.toNat u2_9)).To)))) z1.Low z1.High) fun z2 =>
 .ite (!z2) (
 .leaf (.r ())) (
 .leaf (.next (wr (u2_9 + (1 : Int)))))) (
 .fail)) (
 .fail)) (
 .fail))) (
 .fail)) (
 .leaf (.l ()))
noncomputable def branch_flowsFit_l2_m : LpM := ⟨(Sq SRoad) × (Sq SPlace) × (Sq SFan) × (Sq SDoor) × (Sq Int) × (Sq Int) × (Sq Int) × (Sq Int), Int, Unit, Unit, fun p => ⟨[(3, .ptr 0 0), (4, .ptr 64 0), (5, .ptr 128 0), (13, sqA 10 SRoad.enc p.1.1), (14, .int .i64 ((p.1.1.n : Nat) : Int)), (15, .int .i64 p.2)], [(0, .var [sqA 2 SPlace.enc p.1.2.1, sqA 10 SRoad.enc p.1.1, sqA 4 SFan.enc p.1.2.2.1, sqA 3 SDoor.enc p.1.2.2.2.1]), (64, .var [sqA 1 (eI .i64) p.1.2.2.2.2.1, sqA 1 (eI .i64) p.1.2.2.2.2.2.1]), (128, .var [sqA 1 (eI .i64) p.1.2.2.2.2.2.2.1, sqA 1 (eI .i64) p.1.2.2.2.2.2.2.2])], 576⟩, fun f v => branch_flowsFit_l2_step f.1 f.2.1 f.2.2.1 f.2.2.2.1 f.2.2.2.2.1 f.2.2.2.2.2.1 f.2.2.2.2.2.2.1 f.2.2.2.2.2.2.2 v, false, (.exit 0), (fun x _ => ⟨[(6, .undef)], [(0, blkS x 0), (64, blkS x 64), (128, blkS x 128)], 576⟩), .ret, (fun x _ => ⟨[(6, .bool false)], [(0, blkS x 0), (64, blkS x 64), (128, blkS x 128)], 576⟩), c1, c1k⟩
noncomputable def branch_flowsFit_l2 (u2_0 : Sq SRoad) (u2_2 : Sq SPlace) (u2_3 : Sq SFan) (u2_4 : Sq SDoor) (u2_5 u2_6 u2_7 u2_8 : Sq Int) (u2_9 : Int) : Option ((Unit) ⊕ (Unit)) := branch_flowsFit_l2_m.val ((u2_0, u2_2, u2_3, u2_4, u2_5, u2_6, u2_7, u2_8), u2_9)
theorem branch_flowsFit_l2_eq (u2_0 : Sq SRoad) (u2_2 : Sq SPlace) (u2_3 : Sq SFan) (u2_4 : Sq SDoor) (u2_5 u2_6 u2_7 u2_8 : Sq Int) (u2_9 : Int) : branch_flowsFit_l2 u2_0 u2_2 u2_3 u2_4 u2_5 u2_6 u2_7 u2_8 u2_9 = fixO (fun v : Int => branch_flowsFit_l2_step u2_0 u2_2 u2_3 u2_4 u2_5 u2_6 u2_7 u2_8 v) u2_9 := branch_flowsFit_l2_m.val_eq (fun x => ((sqD SRoad.dec (aget x.tm 13), sqD SPlace.dec (cellS x 0 0), sqD SFan.dec (cellS x 0 2), sqD SDoor.dec (cellS x 0 3), sqD dI (cellS x 64 0), sqD dI (cellS x 64 1), sqD dI (cellS x 128 0), sqD dI (cellS x 128 1)), intA (aget x.tm 15))) (fun p => by kernel_rfl) ((u2_0, u2_2, u2_3, u2_4, u2_5, u2_6, u2_7, u2_8), u2_9)
noncomputable def branch_flowsFit_t (a : SAir) (s : SSetting) (x : SState) : DT (Bool) :=
 .sum (branch_flowsFit_l2 a.Mine.Roads a.Mine.Places a.Fans a.Doors s.Fans s.Doors x.Pressures x.Flows (0 : Int)) (fun _ =>
 .leaf true) (fun _ => .leaf false)
noncomputable def branch_flowsFit_m : FnM := flM (SAir × SSetting × SState) (Bool) (fun p => ([.agg (SAir.enc p.1), .agg (SSetting.enc p.2.1), .agg (SState.enc p.2.2)], [])) (fun p => branch_flowsFit_t p.1 p.2.1 p.2.2) (fun r => .bool r) (fun _ => rfl)
noncomputable def branch_flowsFit_env : Env := envM [(75, branch_airwayOf_m.c), (76, branch_airway_drop_m.c), (74, branch_within_m.c)] [(2, [3, 4, 5, 13, 14, 15], [6])] [(2, branch_flowsFit_l2_m.c)] [] [(2, [0, 64, 128])] 0
noncomputable def branch_flowsFit_e : Env := { branch_flowsFit_env with nt := 58 }
theorem branch_flowsFit_l2_tells : LoopTells branch_flowsFit_e (loopOf 2 Tryz.f50) branch_flowsFit_l2_m.c := branch_flowsFit_l2_m.tells 576 (fun _ => by kernel_rfl) (fun _ _ _ _ => by kernel_rfl) (fun _ _ _ _ => by kernel_rfl) fun R f v N K => by kernel_rfl
theorem branch_flowsFit_tells : Tells Tryz.prog 50 branch_flowsFit_m.c := branch_flowsFit_m.tells Tryz.func50 (show ∀ p, arun branch_flowsFit_env Tryz.f50 (branch_flowsFit_m.enc p).1 (branch_flowsFit_m.enc p).2 = _ from fun p => by kernel_rfl) (loopsL [loopOf 2 Tryz.f50] (by kernel_rfl) ⟨lpT (by kernel_rfl) branch_flowsFit_l2_tells, trivial⟩) (.cons branch_airwayOf_tells (.cons branch_airway_drop_tells (.cons branch_within_tells .nil)))
noncomputable def branch_flowsFit (a : SAir) (s : SSetting) (x : SState) : Option (Bool) := branch_flowsFit_m.val (a, s, x)
theorem branch_flowsFit_eq (a : SAir) (s : SSetting) (x : SState) : branch_flowsFit a s x = (branch_flowsFit_t a s x).get := branch_flowsFit_m.val_eq (fun x => (SAir.dec (aggL (gd x.1 0)), SSetting.dec (aggL (gd x.1 1)), SState.dec (aggL (gd x.1 2)))) (fun p => by kernel_rfl) (a, s, x)

/-! minecontrol/branch.flowsAddUp -/
noncomputable def branch_flowsAddUp_l3_step (u3_0 : Sq Int) (u3_1 : Sq SRoad) (_u3_3 : Sq SPlace) (u3_4 : Sq Int) (u3_5 : Int) : DT (LR ((Sq Int) × Int) ((Sq Int)) (Unit)) :=
 .ite (decide (u3_5 < ((u3_1.n : Nat) : Int))) (
 .ite (decide ((0 : Int) ≤ u3_5 ∧ u3_5 < ((u3_1.n : Nat) : Int))) (
 .ite (decide ((0 : Int) ≤ (u3_1.f (Int.toNat u3_5)).From ∧ (u3_1.f (Int.toNat u3_5)).From < ((u3_4.n : Nat) : Int))) (
 .ite (decide ((0 : Int) ≤ u3_5 ∧ u3_5 < ((u3_0.n : Nat) : Int))) (
 .ite (decide ((0 : Int) ≤ (u3_1.f (Int.toNat u3_5)).From ∧ (u3_1.f (Int.toNat u3_5)).From < ((u3_4.n : Nat) : Int))) (
 .ite (decide ((0 : Int) ≤ (u3_1.f (Int.toNat u3_5)).To ∧ (u3_1.f (Int.toNat u3_5)).To < ((u3_4.n : Nat) : Int))) (
 .ite (decide ((0 : Int) ≤ u3_5 ∧ u3_5 < ((u3_0.n : Nat) : Int))) (
 .ite (decide ((0 : Int) ≤ (u3_1.f (Int.toNat u3_5)).To ∧ (u3_1.f (Int.toNat u3_5)).To < ((u3_4.n : Nat) : Int))) (
 .leaf (.next ((Sq.mk u3_4.n (fun k0 => (cond (Nat.beq k0 (Int.toNat (u3_1.f (Int.toNat u3_5)).To)) (wr ((cond (Nat.beq (Int.toNat (u3_1.f (Int.toNat u3_5)).To) (Int.toNat (u3_1.f (Int.toNat u3_5)).From)) (wr ((u3_4.f (Int.toNat (u3_1.f (Int.toNat u3_5)).From)) + (u3_0.f (Int.toNat u3_5)))) (u3_4.f (Int.toNat (u3_1.f (Int.toNat u3_5)).To))) - (u3_0.f (Int.toNat u3_5)))) (cond (Nat.beq k0 (Int.toNat (u3_1.f (Int.toNat u3_5)).From)) (wr ((u3_4.f (Int.toNat (u3_1.f (Int.toNat u3_5)).From)) + (u3_0.f (Int.toNat u3_5)))) (u3_4.f k0))))), (wr (u3_5 + (1 : Int)))))) (
 .fail)) (
 .fail)) (
 .fail)) (
 .fail)) (
 .fail)) (
 .fail)) (
 .fail)) (
 .leaf (.l u3_4))
noncomputable def branch_flowsAddUp_l3_m : LpM := ⟨(Sq Int) × (Sq SRoad) × (Sq SPlace), (Sq Int) × Int, (Sq Int), Unit, fun p => ⟨[(1, sqA 1 (eI .i64) p.1.1), (2, .ptr 0 0), (5, .own 320 0), (15, sqA 10 SRoad.enc p.1.2.1), (16, .int .i64 ((p.1.2.1.n : Nat) : Int)), (17, .int .i64 p.2.2)], [(0, .var [sqA 2 SPlace.enc p.1.2.2, sqA 10 SRoad.enc p.1.2.1]), (320, rowA 0 1 3 (eI .i64) p.2.1)], 704⟩, fun f v => branch_flowsAddUp_l3_step f.1 f.2.1 f.2.2 v.1 v.2, true, (.exit 0), (fun x a => ⟨[(2, .ptr 0 0), (5, .own 320 0)], [(0, blkS x 0), (320, rowA 0 1 3 (eI .i64) a)], 704⟩), .ret, (fun _ _ => ⟨[], [], 0⟩), c1, c1k⟩
noncomputable def branch_flowsAddUp_l3 (u3_0 : Sq Int) (u3_1 : Sq SRoad) (u3_3 : Sq SPlace) (u3_4 : Sq Int) (u3_5 : Int) : Option (((Sq Int)) ⊕ (Unit)) := branch_flowsAddUp_l3_m.val ((u3_0, u3_1, u3_3), (u3_4, u3_5))
theorem branch_flowsAddUp_l3_eq (u3_0 : Sq Int) (u3_1 : Sq SRoad) (u3_3 : Sq SPlace) (u3_4 : Sq Int) (u3_5 : Int) : branch_flowsAddUp_l3 u3_0 u3_1 u3_3 u3_4 u3_5 = fixO (fun v : (Sq Int) × Int => branch_flowsAddUp_l3_step u3_0 u3_1 u3_3 v.1 v.2) (u3_4, u3_5) := branch_flowsAddUp_l3_m.val_eq (fun x => ((sqD dI (aget x.tm 1), sqD SRoad.dec (aget x.tm 15), sqD SPlace.dec (cellS x 0 0)), (sqB dI (blkS x 320), intA (aget x.tm 17)))) (fun p => by kernel_rfl) ((u3_0, u3_1, u3_3), (u3_4, u3_5))
noncomputable def branch_flowsAddUp_l9_step (u9_0 : Sq SPlace) (u9_2 : Sq Int) (u9_3 : Int) : DT (LR (Int) (Unit) (Unit)) :=
 .ite (decide (u9_3 < ((u9_0.n : Nat) : Int))) (
 .ite (decide ((0 : Int) ≤ u9_3 ∧ u9_3 < ((u9_0.n : Nat) : Int))) (
 .ite (!(u9_0.f (Int.toNat u9_3)).Surface) (
 .ite (decide ((0 : Int) ≤ u9_3 ∧ u9_3 < ((u9_2.n : Nat) : Int))) (
 .ite ((u9_2.f (Int.toNat u9_3)) != (0 : Int)) (
 .leaf (.r ())) (
 .leaf (.next (wr (u9_3 + (1 : Int)))))) (
 .fail)) (
 .leaf (.next (wr (u9_3 + (1 : Int)))))) (
 .fail)) (
 .leaf (.l ()))
noncomputable def branch_flowsAddUp_l9_m : LpM := ⟨(Sq SPlace) × (Sq Int), Int, Unit, Unit, fun p => ⟨[(5, .own 320 0), (46, sqA 2 SPlace.enc p.1.1), (47, .int .i64 ((p.1.1.n : Nat) : Int)), (48, .int .i64 p.2)], [(320, rowA 0 1 3 (eI .i64) p.1.2)], 960⟩, fun f v => branch_flowsAddUp_l9_step f.1 f.2 v, false, (.exit 2), (fun x _ => ⟨[(4, .undef)], [(320, blkS x 320)], 960⟩), .ret, (fun x _ => ⟨[(4, .bool false)], [(320, blkS x 320)], 960⟩), c1, c1k⟩
noncomputable def branch_flowsAddUp_l9 (u9_0 : Sq SPlace) (u9_2 : Sq Int) (u9_3 : Int) : Option ((Unit) ⊕ (Unit)) := branch_flowsAddUp_l9_m.val ((u9_0, u9_2), u9_3)
theorem branch_flowsAddUp_l9_eq (u9_0 : Sq SPlace) (u9_2 : Sq Int) (u9_3 : Int) : branch_flowsAddUp_l9 u9_0 u9_2 u9_3 = fixO (fun v : Int => branch_flowsAddUp_l9_step u9_0 u9_2 v) u9_3 := branch_flowsAddUp_l9_m.val_eq (fun x => ((sqD SPlace.dec (aget x.tm 46), sqB dI (blkS x 320)), intA (aget x.tm 48))) (fun p => by kernel_rfl) ((u9_0, u9_2), u9_3)
noncomputable def branch_flowsAddUp_t (m : SMine) (flows : Sq Int) : DT (Bool) :=
 .ite (decide ((0 : Int) ≤ ((m.Places.n : Nat) : Int) ∧ ((m.Places.n : Nat) : Int) ≤ ((m.Places.n : Nat) : Int) ∧ ((m.Places.n : Nat) : Int) * ((8 : Nat) : Int) ≤ 140737488355328 ∧ ((m.Places.n : Nat) : Int) ≤ 1099511627776)) (
 .sum (branch_flowsAddUp_l3 flows m.Roads m.Places (Sq.mk (Int.toNat ((m.Places.n : Nat) : Int)) (fun _ => (0 : Int))) (0 : Int)) (fun y0 =>
 .sum (branch_flowsAddUp_l9 m.Places y0 (0 : Int)) (fun _ =>
 .leaf true) (fun _ => .leaf false)) (fun _ => .fail)) (
 .fail)
noncomputable def branch_flowsAddUp_m : FnM := flM (SMine × (Sq Int)) (Bool) (fun p => ([.agg (SMine.enc p.1), sqA 1 (eI .i64) p.2], [])) (fun p => branch_flowsAddUp_t p.1 p.2) (fun r => .bool r) (fun _ => rfl)
noncomputable def branch_flowsAddUp_env : Env := envM [] [(3, [1, 2, 5, 15, 16, 17], [2, 5]), (9, [5, 46, 47, 48], [4])] [(3, branch_flowsAddUp_l3_m.c), (9, branch_flowsAddUp_l9_m.c)] [] [(3, [0, 320]), (9, [320])] 0
noncomputable def branch_flowsAddUp_e : Env := { branch_flowsAddUp_env with nt := 64 }
theorem branch_flowsAddUp_l3_tells : LoopTells branch_flowsAddUp_e (loopOf 3 Tryz.f51) branch_flowsAddUp_l3_m.c := branch_flowsAddUp_l3_m.tells 704 (fun _ => by kernel_rfl) (fun _ _ _ _ => by kernel_rfl) (fun _ _ _ _ => by kernel_rfl) fun R f v N K => by kernel_rfl
theorem branch_flowsAddUp_l9_tells : LoopTells branch_flowsAddUp_e (loopOf 9 Tryz.f51) branch_flowsAddUp_l9_m.c := branch_flowsAddUp_l9_m.tells 960 (fun _ => by kernel_rfl) (fun _ _ _ _ => by kernel_rfl) (fun _ _ _ _ => by kernel_rfl) fun R f v N K => by kernel_rfl
theorem branch_flowsAddUp_tells : Tells Tryz.prog 51 branch_flowsAddUp_m.c := branch_flowsAddUp_m.tells Tryz.func51 (show ∀ p, arun branch_flowsAddUp_env Tryz.f51 (branch_flowsAddUp_m.enc p).1 (branch_flowsAddUp_m.enc p).2 = _ from fun p => by kernel_rfl) (loopsL [loopOf 3 Tryz.f51, loopOf 9 Tryz.f51] (by kernel_rfl) ⟨lpT (by kernel_rfl) branch_flowsAddUp_l3_tells, ⟨lpT (by kernel_rfl) branch_flowsAddUp_l9_tells, trivial⟩⟩) .nil
noncomputable def branch_flowsAddUp (m : SMine) (flows : Sq Int) : Option (Bool) := branch_flowsAddUp_m.val (m, flows)
theorem branch_flowsAddUp_eq (m : SMine) (flows : Sq Int) : branch_flowsAddUp m flows = (branch_flowsAddUp_t m flows).get := branch_flowsAddUp_m.val_eq (fun x => (SMine.dec (aggL (gd x.1 0)), sqD dI (gd x.1 1))) (fun p => by kernel_rfl) (m, flows)

/-! minecontrol/branch.Fits -/
noncomputable def branch_Fits_t (a : SAir) (s : SSetting) (x : SState) : DT (Int) :=
 .bind (branch_Check a) fun z0 =>
 .ite (z0 != (0 : Int)) (
 .leaf z0) (
 .bind (branch_belongs a s) fun z1 =>
 .ite (!z1) (
 .leaf (21 : Int)) (
 .ite (((x.Pressures.n : Nat) : Int) != ((a.Mine.Places.n : Nat) : Int)) (
 .leaf (11 : Int)) (
 .ite (((x.Flows.n : Nat) : Int) != ((a.Mine.Roads.n : Nat) : Int)) (
 .leaf (11 : Int)) (
 .bind (branch_reachTo x.Pressures (70368744177664 : Int)) fun z2 =>
 .ite (!z2) (
 .leaf (1 : Int)) (
 .bind (branch_reachTo x.Flows (1048576 : Int)) fun z3 =>
 .ite (!z3) (
 .leaf (1 : Int)) (
 .bind (branch_surfaceIsCalm a.Mine x.Pressures) fun z4 =>
 .ite (!z4) (
 .leaf (10 : Int)) (
 .bind (branch_flowsFit a s x) fun z5 =>
 .ite (!z5) (
 .leaf (10 : Int)) (
 .bind (branch_flowsAddUp a.Mine x.Flows) fun z6 =>
 .ite (!z6) (.leaf (10 : Int)) (.leaf (0 : Int))))))))))
noncomputable def branch_Fits_m : FnM := flM (SAir × SSetting × SState) (Int) (fun p => ([.agg (SAir.enc p.1), .agg (SSetting.enc p.2.1), .agg (SState.enc p.2.2)], [])) (fun p => branch_Fits_t p.1 p.2.1 p.2.2) (fun r => .int .i64 r) (fun _ => rfl)
noncomputable def branch_Fits_env : Env := envM [(30, branch_Check_m.c), (47, branch_belongs_m.c), (48, branch_reachTo_m.c), (49, branch_surfaceIsCalm_m.c), (50, branch_flowsFit_m.c), (51, branch_flowsAddUp_m.c)] [] [] [] [] 0
theorem branch_Fits_tells : Tells Tryz.prog 18 branch_Fits_m.c := branch_Fits_m.tells Tryz.func18 (show ∀ p, arun branch_Fits_env Tryz.f18 (branch_Fits_m.enc p).1 (branch_Fits_m.enc p).2 = _ from fun p => by kernel_rfl) noLoops (.cons branch_Check_tells (.cons branch_belongs_tells (.cons branch_reachTo_tells (.cons branch_surfaceIsCalm_tells (.cons branch_flowsFit_tells (.cons branch_flowsAddUp_tells .nil))))))
noncomputable def branch_Fits (a : SAir) (s : SSetting) (x : SState) : Option (Int) := branch_Fits_m.val (a, s, x)
theorem branch_Fits_eq (a : SAir) (s : SSetting) (x : SState) : branch_Fits a s x = (branch_Fits_t a s x).get := branch_Fits_m.val_eq (fun x => (SAir.dec (aggL (gd x.1 0)), SSetting.dec (aggL (gd x.1 1)), SState.dec (aggL (gd x.1 2)))) (fun p => by kernel_rfl) (a, s, x)
end Go.Proofs.YtnoeblpanfbpjaaGreat.Ab
