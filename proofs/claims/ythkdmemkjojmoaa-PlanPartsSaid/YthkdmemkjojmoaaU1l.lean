/- Mirrors of code, stage 1. -/
import Derived.Test.YthkdmemkjojmoaaU1a
namespace Go.Proofs.Ythkdmemkjojmoaa.Ab
open Go
attribute [local irreducible] arun



/-! minecontrol/minecontrollaw01.awake -/
noncomputable def law01_awake_t : DT (Bool) :=
 .bind (plan_Apply (SMine.mk (Sq.mk 2 (fun k0 => (SPlace.mk (cond (Nat.beq k0 0) (0 : Int) (0 : Int)) (cond (Nat.beq k0 0) true false)))) (Sq.mk 1 (fun _ => (SRoad.mk (0 : Int) (1 : Int) (1 : Int) (1 : Int) false false (SSpan.mk (1 : Int) (1 : Int)) (SSpan.mk (0 : Int) (0 : Int)))))) (SEdit.mk (3 : Int) (SPlace.mk (0 : Int) false) (SRoad.mk (0 : Int) (0 : Int) (0 : Int) (0 : Int) false false (SSpan.mk (0 : Int) (0 : Int)) (SSpan.mk (0 : Int) (0 : Int))) (0 : Int) (SSpan.mk (0 : Int) (0 : Int)))) fun z0 =>
 .bind (plan_Valid (SMine.mk (Sq.mk 2 (fun k1 => (SPlace.mk (cond (Nat.beq k1 0) (0 : Int) (0 : Int)) (cond (Nat.beq k1 0) true false)))) (Sq.mk 1 (fun _ => (SRoad.mk (0 : Int) (1 : Int) (1 : Int) (1 : Int) false false (SSpan.mk (1 : Int) (1 : Int)) (SSpan.mk (0 : Int) (0 : Int))))))) fun z1 =>
 .ite z1 (
 .bind (plan_CutOff (SMine.mk (Sq.mk 2 (fun k2 => (SPlace.mk (cond (Nat.beq k2 0) (0 : Int) (0 : Int)) (cond (Nat.beq k2 0) true false)))) (Sq.mk 1 (fun _ => (SRoad.mk (0 : Int) (1 : Int) (1 : Int) (1 : Int) false false (SSpan.mk (1 : Int) (1 : Int)) (SSpan.mk (0 : Int) (0 : Int))))))) fun z2 =>
 .ite (((z2.n : Nat) : Int) == (0 : Int)) (
 .ite (z0.2 == (0 : Int)) (
 .bind (plan_CutOff z0.1) fun z3 =>
 .bind (ref01_Ints z3 (Sq.mk 1 (fun _ => (1 : Int)))) fun z4 =>
 .leaf z4) (
 .leaf false)) (
 .leaf false)) (
 .leaf false)
noncomputable def law01_awake_m : FnM := flM (Unit) (Bool) (fun _ => ([], [])) (fun _ => law01_awake_t) (fun r => .bool r) (fun _ => rfl)
noncomputable def law01_awake_env : Env := envM [(20, plan_Apply_m.c), (33, plan_Valid_m.c), (14, plan_CutOff_m.c), (9, ref01_Ints_m.c)] [] [] [(3, [.freeze 448, .freeze 576]), (4, [.freeze 960, .freeze 961])] [] 0
theorem law01_awake_tells : Tells Try.prog 19 law01_awake_m.c := law01_awake_m.tells Try.func19 (show ∀ p, arun law01_awake_env Try.f19 (law01_awake_m.enc p).1 (law01_awake_m.enc p).2 = _ from fun p => by kernel_rfl) noLoops (.cons plan_Apply_tells (.cons plan_Valid_tells (.cons plan_CutOff_tells (.cons ref01_Ints_tells .nil))))
noncomputable def law01_awake : Option (Bool) := law01_awake_m.val ()
theorem law01_awake_eq : law01_awake = (law01_awake_t).get := law01_awake_m.val_eq (fun _ => ()) (fun p => by kernel_rfl) ()
theorem law01_awake_inj : ∀ a b, law01_awake_m.enc a = law01_awake_m.enc b → a = b := linj (fun _ => ()) (fun p => by kernel_rfl)

/-! minecontrol/minecontrollaw01.PlanParts -/
noncomputable def law01_PlanParts_l10_step (u10_0 : Sq SPlace) (_u10_1 : Sq SRoad) (u10_2 : (Sq (Sq Int))) (u10_3 : Sq Int) (_u10_8 u10_9 : Int) (u10_4 : Sq Int) (u10_5 : Bool) (u10_6 u10_7 : Int) : DT (LR ((Sq Int) × Bool × Int × Int) (Bool × Int × (Sq Int)) (Bool × Int × (Sq Int))) :=
 .ite (decide ((0 : Int) ≤ u10_9 ∧ u10_9 < ((u10_2.n : Nat) : Int))) (
 .ite (decide (u10_7 < (((u10_2.f (Int.toNat u10_9)).n : Nat) : Int))) (
 .ite (decide ((0 : Int) ≤ u10_9 ∧ u10_9 < ((u10_2.n : Nat) : Int))) (
 .ite (decide ((0 : Int) ≤ u10_7 ∧ u10_7 < (((u10_2.f (Int.toNat u10_9)).n : Nat) : Int))) (
 .ite (decide (((u10_2.f (Int.toNat u10_9)).f (Int.toNat u10_7)) < (0 : Int))) (
 .leaf (.r (u10_5, u10_6, u10_4))) (
 .ite (decide (((u10_2.f (Int.toNat u10_9)).f (Int.toNat u10_7)) ≥ ((u10_4.n : Nat) : Int))) (
 .leaf (.r (u10_5, u10_6, u10_4))) (
 .ite (decide ((0 : Int) ≤ ((u10_2.f (Int.toNat u10_9)).f (Int.toNat u10_7)) ∧ ((u10_2.f (Int.toNat u10_9)).f (Int.toNat u10_7)) < ((u10_4.n : Nat) : Int))) (
 .ite u10_5 (
 .bind (ref01_Has u10_3 ((u10_2.f (Int.toNat u10_9)).f (Int.toNat u10_7))) fun z0 =>
 .ite z0 (
 .leaf (.next ((Sq.mk u10_4.n (fun k0 => (cond (Nat.beq k0 (Int.toNat ((u10_2.f (Int.toNat u10_9)).f (Int.toNat u10_7)))) (wr (u10_9 + (1 : Int))) (u10_4.f k0)))), true, (wr (u10_6 + (1 : Int))), (wr (u10_7 + (1 : Int)))))) (
 .leaf (.next ((Sq.mk u10_4.n (fun k1 => (cond (Nat.beq k1 (Int.toNat ((u10_2.f (Int.toNat u10_9)).f (Int.toNat u10_7)))) (wr (u10_9 + (1 : Int))) (u10_4.f k1)))), true, u10_6, (wr (u10_7 + (1 : Int))))))) (
 .ite (decide ((0 : Int) ≤ ((u10_2.f (Int.toNat u10_9)).f (Int.toNat u10_7)) ∧ ((u10_2.f (Int.toNat u10_9)).f (Int.toNat u10_7)) < ((u10_0.n : Nat) : Int))) (
 .bind (ref01_Has u10_3 ((u10_2.f (Int.toNat u10_9)).f (Int.toNat u10_7))) fun z1 =>
 .ite z1 (
 .leaf (.next ((Sq.mk u10_4.n (fun k2 => (cond (Nat.beq k2 (Int.toNat ((u10_2.f (Int.toNat u10_9)).f (Int.toNat u10_7)))) (wr (u10_9 + (1 : Int))) (u10_4.f k2)))), (u10_0.f (Int.toNat ((u10_2.f (Int.toNat u10_9)).f (Int.toNat u10_7)))).Surface, (wr (u10_6 + (1 : Int))), (wr (u10_7 + (1 : Int)))))) (
 .leaf (.next ((Sq.mk u10_4.n (fun k3 => (cond (Nat.beq k3 (Int.toNat ((u10_2.f (Int.toNat u10_9)).f (Int.toNat u10_7)))) (wr (u10_9 + (1 : Int))) (u10_4.f k3)))), (u10_0.f (Int.toNat ((u10_2.f (Int.toNat u10_9)).f (Int.toNat u10_7)))).Surface, u10_6, (wr (u10_7 + (1 : Int))))))) (
 .fail))) (
 .fail)))) (
 .fail)) (
 .fail)) (
 .leaf (.l (u10_5, u10_6, u10_4)))) (
 .fail)
noncomputable def law01_PlanParts_l10_m : LpM := ⟨(Sq SPlace) × (Sq SRoad) × (Sq (Sq Int)) × (Sq Int) × Int × Int, (Sq Int) × Bool × Int × Int, Bool × Int × (Sq Int), Bool × Int × (Sq Int), fun p => ⟨[(3, .ptr 256 0), (4, .own 448 0), (5, .own 576 0), (6, .own 960 0), (7, .int .i64 p.1.2.2.2.2.1), (8, .int .i64 p.1.2.2.2.2.2), (9, .bool p.2.2.1), (10, .int .i64 p.2.2.2.1), (11, .int .i64 p.2.2.2.2)], [(256, .var [sqA 2 SPlace.enc p.1.1, sqA 10 SRoad.enc p.1.2.1]), (448, rowA 0 1 33 (eQ 1 (eI .i64)) p.1.2.2.1), (576, rowA 0 1 3 (eI .i64) p.1.2.2.2.1), (960, rowA 0 1 3 (eI .i64) p.2.1)], 1664⟩, fun f v => law01_PlanParts_l10_step f.1 f.2.1 f.2.2.1 f.2.2.2.1 f.2.2.2.2.1 f.2.2.2.2.2 v.1 v.2.1 v.2.2.1 v.2.2.2, false, (.exit 2), (fun x a => ⟨[(2, .undef), (3, .ptr 256 0), (4, .own 448 0), (5, .own 576 0), (6, .own 960 0), (7, aget x.tm 7), (8, aget x.tm 8), (9, .bool a.1), (10, .int .i64 a.2.1)], [(256, blkS x 256), (448, blkS x 448), (576, blkS x 576), (960, rowA 0 1 3 (eI .i64) a.2.2)], 1664⟩), .ret, (fun x a => ⟨[(2, .bool false), (3, .ptr 256 0), (4, .own 448 0), (5, .own 576 0), (6, .own 960 0), (7, aget x.tm 7), (8, aget x.tm 8), (9, .bool a.1), (10, .int .i64 a.2.1)], [(256, blkS x 256), (448, blkS x 448), (576, blkS x 576), (960, rowA 0 1 3 (eI .i64) a.2.2)], 1664⟩)⟩
noncomputable def law01_PlanParts_l10 (u10_0 : Sq SPlace) (u10_1 : Sq SRoad) (u10_2 : (Sq (Sq Int))) (u10_3 : Sq Int) (u10_8 u10_9 : Int) (u10_4 : Sq Int) (u10_5 : Bool) (u10_6 u10_7 : Int) : Option ((Bool × Int × (Sq Int)) ⊕ (Bool × Int × (Sq Int))) := law01_PlanParts_l10_m.val ((u10_0, u10_1, u10_2, u10_3, u10_8, u10_9), (u10_4, u10_5, u10_6, u10_7))
theorem law01_PlanParts_l10_eq (u10_0 : Sq SPlace) (u10_1 : Sq SRoad) (u10_2 : (Sq (Sq Int))) (u10_3 : Sq Int) (u10_8 u10_9 : Int) (u10_4 : Sq Int) (u10_5 : Bool) (u10_6 u10_7 : Int) : law01_PlanParts_l10 u10_0 u10_1 u10_2 u10_3 u10_8 u10_9 u10_4 u10_5 u10_6 u10_7 = fixO (fun v : (Sq Int) × Bool × Int × Int => law01_PlanParts_l10_step u10_0 u10_1 u10_2 u10_3 u10_8 u10_9 v.1 v.2.1 v.2.2.1 v.2.2.2) (u10_4, u10_5, u10_6, u10_7) := law01_PlanParts_l10_m.val_eq (fun x => ((sqD SPlace.dec (cellS x 256 0), sqD SRoad.dec (cellS x 256 1), sqB (dQ dI) (blkS x 448), sqB dI (blkS x 576), intA (aget x.tm 7), intA (aget x.tm 8)), (sqB dI (blkS x 960), boolA (aget x.tm 9), intA (aget x.tm 10), intA (aget x.tm 11)))) (fun p => by kernel_rfl) ((u10_0, u10_1, u10_2, u10_3, u10_8, u10_9), (u10_4, u10_5, u10_6, u10_7))
noncomputable def law01_PlanParts_l6_step (u6_0 : Sq SPlace) (u6_1 : Sq SRoad) (u6_2 : (Sq (Sq Int))) (u6_3 u6_4 : Sq Int) (u6_5 u6_6 : Int) : DT (LR ((Sq Int) × Int × Int) (Int × (Sq Int)) (Int × (Sq Int))) :=
 .ite (decide (u6_6 < ((u6_2.n : Nat) : Int))) (
 .sum (law01_PlanParts_l10 u6_0 u6_1 u6_2 u6_3 u6_5 u6_6 u6_4 false (0 : Int) (0 : Int)) (fun y0 =>
 .ite (y0.2.1 != (0 : Int)) (
 .ite (decide ((0 : Int) ≤ u6_6 ∧ u6_6 < ((u6_2.n : Nat) : Int))) (
 .ite (y0.2.1 != (((u6_2.f (Int.toNat u6_6)).n : Nat) : Int)) (
 .leaf (.r (u6_5, y0.2.2))) (
 .ite (y0.1 == (decide (y0.2.1 > (0 : Int)))) (
 .leaf (.r (u6_5, y0.2.2))) (
 .ite (decide ((0 : Int) ≤ u6_6 ∧ u6_6 < ((u6_2.n : Nat) : Int))) (
 .leaf (.next (y0.2.2, (wr (u6_5 + (((u6_2.f (Int.toNat u6_6)).n : Nat) : Int))), (wr (u6_6 + (1 : Int)))))) (
 .fail)))) (
 .fail)) (
 .ite (y0.1 == (decide (y0.2.1 > (0 : Int)))) (
 .leaf (.r (u6_5, y0.2.2))) (
 .ite (decide ((0 : Int) ≤ u6_6 ∧ u6_6 < ((u6_2.n : Nat) : Int))) (
 .leaf (.next (y0.2.2, (wr (u6_5 + (((u6_2.f (Int.toNat u6_6)).n : Nat) : Int))), (wr (u6_6 + (1 : Int)))))) (
 .fail)))) (fun y1 => .leaf (.r (u6_5, y1.2.2)))) (
 .leaf (.l (u6_5, u6_4)))
noncomputable def law01_PlanParts_l6_m : LpM := ⟨(Sq SPlace) × (Sq SRoad) × (Sq (Sq Int)) × (Sq Int), (Sq Int) × Int × Int, Int × (Sq Int), Int × (Sq Int), fun p => ⟨[(3, .ptr 256 0), (4, .own 448 0), (5, .own 576 0), (6, .own 960 0), (7, .int .i64 p.2.2.1), (8, .int .i64 p.2.2.2)], [(256, .var [sqA 2 SPlace.enc p.1.1, sqA 10 SRoad.enc p.1.2.1]), (448, rowA 0 1 33 (eQ 1 (eI .i64)) p.1.2.2.1), (576, rowA 0 1 3 (eI .i64) p.1.2.2.2), (960, rowA 0 1 3 (eI .i64) p.2.1)], 1216⟩, fun f v => law01_PlanParts_l6_step f.1 f.2.1 f.2.2.1 f.2.2.2 v.1 v.2.1 v.2.2, false, (.exit 0), (fun x a => ⟨[(2, .undef), (3, .ptr 256 0), (6, .own 960 0), (7, .int .i64 a.1)], [(256, blkS x 256), (448, blkS x 448), (576, blkS x 576), (960, rowA 0 1 3 (eI .i64) a.2)], 1216⟩), .ret, (fun x a => ⟨[(2, .bool false), (3, .ptr 256 0), (6, .own 960 0), (7, .int .i64 a.1)], [(256, blkS x 256), (448, blkS x 448), (576, blkS x 576), (960, rowA 0 1 3 (eI .i64) a.2)], 1216⟩)⟩
noncomputable def law01_PlanParts_l6 (u6_0 : Sq SPlace) (u6_1 : Sq SRoad) (u6_2 : (Sq (Sq Int))) (u6_3 u6_4 : Sq Int) (u6_5 u6_6 : Int) : Option ((Int × (Sq Int)) ⊕ (Int × (Sq Int))) := law01_PlanParts_l6_m.val ((u6_0, u6_1, u6_2, u6_3), (u6_4, u6_5, u6_6))
theorem law01_PlanParts_l6_eq (u6_0 : Sq SPlace) (u6_1 : Sq SRoad) (u6_2 : (Sq (Sq Int))) (u6_3 u6_4 : Sq Int) (u6_5 u6_6 : Int) : law01_PlanParts_l6 u6_0 u6_1 u6_2 u6_3 u6_4 u6_5 u6_6 = fixO (fun v : (Sq Int) × Int × Int => law01_PlanParts_l6_step u6_0 u6_1 u6_2 u6_3 v.1 v.2.1 v.2.2) (u6_4, u6_5, u6_6) := law01_PlanParts_l6_m.val_eq (fun x => ((sqD SPlace.dec (cellS x 256 0), sqD SRoad.dec (cellS x 256 1), sqB (dQ dI) (blkS x 448), sqB dI (blkS x 576)), (sqB dI (blkS x 960), intA (aget x.tm 7), intA (aget x.tm 8)))) (fun p => by kernel_rfl) ((u6_0, u6_1, u6_2, u6_3), (u6_4, u6_5, u6_6))
noncomputable def law01_PlanParts_l25_step (_u25_0 : Sq SPlace) (_u25_1 : Sq SRoad) (u25_2 : Sq Int) (u25_3 : Int) : DT (LR (Int) (Unit) (Unit)) :=
 .ite (decide (u25_3 < ((u25_2.n : Nat) : Int))) (
 .ite (decide ((0 : Int) ≤ u25_3 ∧ u25_3 < ((u25_2.n : Nat) : Int))) (
 .ite ((u25_2.f (Int.toNat u25_3)) == (0 : Int)) (
 .leaf (.r ())) (
 .leaf (.next (wr (u25_3 + (1 : Int)))))) (
 .fail)) (
 .leaf (.l ()))
noncomputable def law01_PlanParts_l25_m : LpM := ⟨(Sq SPlace) × (Sq SRoad) × (Sq Int), Int, Unit, Unit, fun p => ⟨[(3, .ptr 256 0), (6, .own 960 0), (13, .int .i64 p.2)], [(256, .var [sqA 2 SPlace.enc p.1.1, sqA 10 SRoad.enc p.1.2.1]), (960, rowA 0 1 3 (eI .i64) p.1.2.2)], 1600⟩, fun f v => law01_PlanParts_l25_step f.1 f.2.1 f.2.2 v, false, (.exit 4), (fun x _ => ⟨[(2, .undef), (3, .ptr 256 0), (6, .own 960 0)], [(256, blkS x 256), (960, blkS x 960)], 1600⟩), .ret, (fun x _ => ⟨[(2, .bool false), (3, .ptr 256 0), (6, .own 960 0)], [(256, blkS x 256), (960, blkS x 960)], 1600⟩)⟩
noncomputable def law01_PlanParts_l25 (u25_0 : Sq SPlace) (u25_1 : Sq SRoad) (u25_2 : Sq Int) (u25_3 : Int) : Option ((Unit) ⊕ (Unit)) := law01_PlanParts_l25_m.val ((u25_0, u25_1, u25_2), u25_3)
theorem law01_PlanParts_l25_eq (u25_0 : Sq SPlace) (u25_1 : Sq SRoad) (u25_2 : Sq Int) (u25_3 : Int) : law01_PlanParts_l25 u25_0 u25_1 u25_2 u25_3 = fixO (fun v : Int => law01_PlanParts_l25_step u25_0 u25_1 u25_2 v) u25_3 := law01_PlanParts_l25_m.val_eq (fun x => ((sqD SPlace.dec (cellS x 256 0), sqD SRoad.dec (cellS x 256 1), sqB dI (blkS x 960)), intA (aget x.tm 13))) (fun p => by kernel_rfl) ((u25_0, u25_1, u25_2), u25_3)
noncomputable def law01_PlanParts_l30_step (_u30_0 : Sq SPlace) (u30_1 : Sq SRoad) (u30_2 : Sq Int) (u30_3 : Int) : DT (LR (Int) (Unit) (Unit)) :=
 .ite (decide (u30_3 < ((u30_1.n : Nat) : Int))) (
 .ite (decide ((0 : Int) ≤ u30_3 ∧ u30_3 < ((u30_1.n : Nat) : Int))) (
 .ite (!(u30_1.f (Int.toNat u30_3)).Closed) (
 .ite (decide ((0 : Int) ≤ (u30_1.f (Int.toNat u30_3)).From ∧ (u30_1.f (Int.toNat u30_3)).From < ((u30_2.n : Nat) : Int))) (
 .ite (decide ((0 : Int) ≤ (u30_1.f (Int.toNat u30_3)).To ∧ (u30_1.f (Int.toNat u30_3)).To < ((u30_2.n : Nat) : Int))) (
 .ite ((u30_2.f (Int.toNat (u30_1.f (Int.toNat u30_3)).From)) != (u30_2.f (Int.toNat (u30_1.f (Int.toNat u30_3)).To))) (
 .leaf (.r ())) (
 .leaf (.next (wr (u30_3 + (1 : Int)))))) (
 .fail)) (
 .fail)) (
 .leaf (.next (wr (u30_3 + (1 : Int)))))) (
 .fail)) (
 .leaf (.l ()))
noncomputable def law01_PlanParts_l30_m : LpM := ⟨(Sq SPlace) × (Sq SRoad) × (Sq Int), Int, Unit, Unit, fun p => ⟨[(3, .ptr 256 0), (6, .own 960 0), (14, .int .i64 p.2)], [(256, .var [sqA 2 SPlace.enc p.1.1, sqA 10 SRoad.enc p.1.2.1]), (960, rowA 0 1 3 (eI .i64) p.1.2.2)], 1664⟩, fun f v => law01_PlanParts_l30_step f.1 f.2.1 f.2.2 v, false, (.exit 6), (fun x _ => ⟨[(2, .undef)], [(256, blkS x 256), (960, blkS x 960)], 1664⟩), .ret, (fun x _ => ⟨[(2, .bool false)], [(256, blkS x 256), (960, blkS x 960)], 1664⟩)⟩
noncomputable def law01_PlanParts_l30 (u30_0 : Sq SPlace) (u30_1 : Sq SRoad) (u30_2 : Sq Int) (u30_3 : Int) : Option ((Unit) ⊕ (Unit)) := law01_PlanParts_l30_m.val ((u30_0, u30_1, u30_2), u30_3)
theorem law01_PlanParts_l30_eq (u30_0 : Sq SPlace) (u30_1 : Sq SRoad) (u30_2 : Sq Int) (u30_3 : Int) : law01_PlanParts_l30 u30_0 u30_1 u30_2 u30_3 = fixO (fun v : Int => law01_PlanParts_l30_step u30_0 u30_1 u30_2 v) u30_3 := law01_PlanParts_l30_m.val_eq (fun x => ((sqD SPlace.dec (cellS x 256 0), sqD SRoad.dec (cellS x 256 1), sqB dI (blkS x 960)), intA (aget x.tm 14))) (fun p => by kernel_rfl) ((u30_0, u30_1, u30_2), u30_3)
noncomputable def law01_PlanParts_t (codes : Sq Int) : DT (Bool) :=
 .bind (New codes) fun z2 =>
 .bind (Codes_Mine z2) fun z3 =>
 .bind (plan_Parts z3.1) fun z4 =>
 .bind (plan_CutOff z3.1) fun z5 =>
 .ite (decide ((0 : Int) ≤ ((z3.1.Places.n : Nat) : Int) ∧ ((z3.1.Places.n : Nat) : Int) ≤ ((z3.1.Places.n : Nat) : Int) ∧ ((z3.1.Places.n : Nat) : Int) * ((8 : Nat) : Int) ≤ 140737488355328 ∧ ((z3.1.Places.n : Nat) : Int) ≤ 1099511627776)) (
 .sum (law01_PlanParts_l6 z3.1.Places z3.1.Roads z4 z5 (Sq.mk (Int.toNat ((z3.1.Places.n : Nat) : Int)) (fun _ => (0 : Int))) (0 : Int) (0 : Int)) (fun y2 =>
 .ite (y2.1 != ((y2.2.n : Nat) : Int)) (
 .leaf false) (
 .sum (law01_PlanParts_l25 z3.1.Places z3.1.Roads y2.2 (0 : Int)) (fun _ =>
 .sum (law01_PlanParts_l30 z3.1.Places z3.1.Roads y2.2 (0 : Int)) (fun _ =>
 .bind (law01_awake) fun z6 =>
 .leaf z6) (fun _ => .leaf false)) (fun _ => .leaf false))) (fun _ => .leaf false)) (
 .fail)
noncomputable def law01_PlanParts_m : FnM := flM ((Sq Int)) (Bool) (fun p => ([sqA 1 (eI .u8) p], [])) (fun p => law01_PlanParts_t p) (fun r => .bool r) (fun _ => rfl)
noncomputable def law01_PlanParts_env : Env := envM [(6, New_m.c), (7, Codes_Mine_m.c), (17, plan_Parts_m.c), (14, plan_CutOff_m.c), (22, ref01_Has_m.c), (19, law01_awake_m.c)] [(10, [3, 4, 5, 6, 7, 8, 9, 10, 11], [2, 3, 4, 5, 6, 7, 8, 9, 10]), (6, [3, 4, 5, 6, 7, 8], [2, 3, 6, 7]), (25, [3, 6, 13], [2, 3, 6]), (30, [3, 6, 14], [2])] [(10, law01_PlanParts_l10_m.c), (6, law01_PlanParts_l6_m.c), (25, law01_PlanParts_l25_m.c), (30, law01_PlanParts_l30_m.c)] [(2, [.freeze 192, .freeze 193])] [(10, [256, 448, 576, 960]), (6, [256, 448, 576, 960]), (25, [256, 960]), (30, [256, 960])] 0
noncomputable def law01_PlanParts_e : Env := { law01_PlanParts_env with nt := 144 }
theorem law01_PlanParts_l10_tells : LoopTells law01_PlanParts_e (loopOf 10 Try.f5) law01_PlanParts_l10_m.c := law01_PlanParts_l10_m.tells 1664 (fun _ => by kernel_rfl) (fun _ _ _ _ => by kernel_rfl) (fun _ _ _ _ => by kernel_rfl) fun R f v N K => by kernel_rfl
theorem law01_PlanParts_l6_tells : LoopTells law01_PlanParts_e (loopOf 6 Try.f5) law01_PlanParts_l6_m.c := law01_PlanParts_l6_m.tells 1216 (fun _ => by kernel_rfl) (fun _ _ _ _ => by kernel_rfl) (fun _ _ _ _ => by kernel_rfl) fun R f v N K => by kernel_rfl
theorem law01_PlanParts_l25_tells : LoopTells law01_PlanParts_e (loopOf 25 Try.f5) law01_PlanParts_l25_m.c := law01_PlanParts_l25_m.tells 1600 (fun _ => by kernel_rfl) (fun _ _ _ _ => by kernel_rfl) (fun _ _ _ _ => by kernel_rfl) fun R f v N K => by kernel_rfl
theorem law01_PlanParts_l30_tells : LoopTells law01_PlanParts_e (loopOf 30 Try.f5) law01_PlanParts_l30_m.c := law01_PlanParts_l30_m.tells 1664 (fun _ => by kernel_rfl) (fun _ _ _ _ => by kernel_rfl) (fun _ _ _ _ => by kernel_rfl) fun R f v N K => by kernel_rfl
theorem law01_PlanParts_tells : Tells Try.prog 5 law01_PlanParts_m.c := law01_PlanParts_m.tells Try.func5 (show ∀ p, arun law01_PlanParts_env Try.f5 (law01_PlanParts_m.enc p).1 (law01_PlanParts_m.enc p).2 = _ from fun p => by kernel_rfl) (loopsL [loopOf 6 Try.f5, loopOf 10 Try.f5, loopOf 25 Try.f5, loopOf 30 Try.f5] (by kernel_rfl) ⟨lpT (by kernel_rfl) law01_PlanParts_l6_tells, ⟨lpT (by kernel_rfl) law01_PlanParts_l10_tells, ⟨lpT (by kernel_rfl) law01_PlanParts_l25_tells, ⟨lpT (by kernel_rfl) law01_PlanParts_l30_tells, trivial⟩⟩⟩⟩) (.cons New_tells (.cons Codes_Mine_tells (.cons plan_Parts_tells (.cons plan_CutOff_tells (.cons ref01_Has_tells (.cons law01_awake_tells .nil))))))
noncomputable def law01_PlanParts (codes : Sq Int) : Option (Bool) := law01_PlanParts_m.val codes
theorem law01_PlanParts_eq (codes : Sq Int) : law01_PlanParts codes = (law01_PlanParts_t codes).get := law01_PlanParts_m.val_eq (fun x => sqD dI (gd x.1 0)) (fun p => by kernel_rfl) codes
theorem law01_PlanParts_inj : ∀ a b, law01_PlanParts_m.enc a = law01_PlanParts_m.enc b → a = b := linj (fun x => sqD dI (gd x.1 0)) (fun p => by kernel_rfl)

/-! minecontrol/minecontrollaw01.PlanBack -/
noncomputable def law01_PlanBack_l17_step (_u17_0 : Sq SPlace) (_u17_1 : Sq SRoad) (_u17_2 : Sq SPlace) (_u17_3 : Sq SRoad) (u17_4 u17_5 : Sq Int) (u17_6 : Int) : DT (LR (Int) (Unit) (Unit)) :=
 .ite (decide (u17_6 < ((u17_5.n : Nat) : Int))) (
 .ite (decide ((0 : Int) ≤ u17_6 ∧ u17_6 < ((u17_5.n : Nat) : Int))) (
 .bind (ref01_Has u17_4 (u17_5.f (Int.toNat u17_6))) fun z0 =>
 .ite (!z0) (
 .leaf (.r ())) (
 .leaf (.next (wr (u17_6 + (1 : Int)))))) (
 .fail)) (
 .leaf (.l ()))
noncomputable def law01_PlanBack_l17_m : LpM := ⟨(Sq SPlace) × (Sq SRoad) × (Sq SPlace) × (Sq SRoad) × (Sq Int) × (Sq Int), Int, Unit, Unit, fun p => ⟨[(13, .ptr 4288 0), (14, .ptr 4352 0), (15, .own 4992 0), (16, .own 5120 0), (17, .int .i64 p.2)], [(4288, .var [sqA 2 SPlace.enc p.1.1, sqA 10 SRoad.enc p.1.2.1]), (4352, .var [sqA 2 SPlace.enc p.1.2.2.1, sqA 10 SRoad.enc p.1.2.2.2.1]), (4992, rowA 0 1 3 (eI .i64) p.1.2.2.2.2.1), (5120, rowA 0 1 3 (eI .i64) p.1.2.2.2.2.2)], 5376⟩, fun f v => law01_PlanBack_l17_step f.1 f.2.1 f.2.2.1 f.2.2.2.1 f.2.2.2.2.1 f.2.2.2.2.2 v, false, (.exit 0), (fun x _ => ⟨[(4, .undef), (13, .ptr 4288 0), (14, .ptr 4352 0)], [(4288, blkS x 4288), (4352, blkS x 4352), (4992, blkS x 4992), (5120, blkS x 5120)], 5376⟩), .ret, (fun x _ => ⟨[(4, .bool false), (13, .ptr 4288 0), (14, .ptr 4352 0)], [(4288, blkS x 4288), (4352, blkS x 4352), (4992, blkS x 4992), (5120, blkS x 5120)], 5376⟩)⟩
noncomputable def law01_PlanBack_l17 (u17_0 : Sq SPlace) (u17_1 : Sq SRoad) (u17_2 : Sq SPlace) (u17_3 : Sq SRoad) (u17_4 u17_5 : Sq Int) (u17_6 : Int) : Option ((Unit) ⊕ (Unit)) := law01_PlanBack_l17_m.val ((u17_0, u17_1, u17_2, u17_3, u17_4, u17_5), u17_6)
theorem law01_PlanBack_l17_eq (u17_0 : Sq SPlace) (u17_1 : Sq SRoad) (u17_2 : Sq SPlace) (u17_3 : Sq SRoad) (u17_4 u17_5 : Sq Int) (u17_6 : Int) : law01_PlanBack_l17 u17_0 u17_1 u17_2 u17_3 u17_4 u17_5 u17_6 = fixO (fun v : Int => law01_PlanBack_l17_step u17_0 u17_1 u17_2 u17_3 u17_4 u17_5 v) u17_6 := law01_PlanBack_l17_m.val_eq (fun x => ((sqD SPlace.dec (cellS x 4288 0), sqD SRoad.dec (cellS x 4288 1), sqD SPlace.dec (cellS x 4352 0), sqD SRoad.dec (cellS x 4352 1), sqB dI (blkS x 4992), sqB dI (blkS x 5120)), intA (aget x.tm 17))) (fun p => by kernel_rfl) ((u17_0, u17_1, u17_2, u17_3, u17_4, u17_5), u17_6)
noncomputable def law01_PlanBack_t (codes : Sq Int) (road : Int) : DT (Bool) :=
 .bind (New codes) fun z1 =>
 .bind (Codes_Mine z1) fun z2 =>
 .ite (((z2.1.Roads.n : Nat) : Int) == (0 : Int)) (
 .bind (law01_awake) fun z3 =>
 .leaf z3) (
 .bind (Mod road ((z2.1.Roads.n : Nat) : Int)) fun z4 =>
 .ite (decide ((0 : Int) ≤ z4 ∧ z4 < ((z2.1.Roads.n : Nat) : Int))) (
 .ite (z2.1.Roads.f (Int.toNat z4)).Closed (
 .bind (plan_Apply z2.1 (SEdit.mk (4 : Int) (SPlace.mk (0 : Int) false) (SRoad.mk (0 : Int) (0 : Int) (0 : Int) (0 : Int) false false (SSpan.mk (0 : Int) (0 : Int)) (SSpan.mk (0 : Int) (0 : Int))) z4 (SSpan.mk (0 : Int) (0 : Int)))) fun z5 =>
 .bind (plan_Apply z5.1 (SEdit.mk (3 : Int) (SPlace.mk (0 : Int) false) (SRoad.mk (0 : Int) (0 : Int) (0 : Int) (0 : Int) false false (SSpan.mk (0 : Int) (0 : Int)) (SSpan.mk (0 : Int) (0 : Int))) z4 (SSpan.mk (0 : Int) (0 : Int)))) fun z6 =>
 .ite (z5.2 != (0 : Int)) (
 .leaf false) (
 .ite (z6.2 != (0 : Int)) (
 .leaf false) (
 .bind (ref01_Same z6.1 z2.1) fun z7 =>
 .ite (!z7) (
 .leaf false) (
 .bind (plan_CutOff z2.1) fun z8 =>
 .bind (plan_CutOff z5.1) fun z9 =>
 .sum (law01_PlanBack_l17 z2.1.Places z2.1.Roads z5.1.Places z5.1.Roads z8 z9 (0 : Int)) (fun _ =>
 .bind (plan_Parts z2.1) fun z10 =>
 .bind (plan_Parts z5.1) fun z11 =>
 .ite (decide (((z10.n : Nat) : Int) ≥ ((z11.n : Nat) : Int))) (
 .bind (law01_awake) fun z12 =>
 .leaf z12) (
 .leaf false)) (fun _ => .leaf false))))) (
 .bind (plan_Apply z2.1 (SEdit.mk (3 : Int) (SPlace.mk (0 : Int) false) (SRoad.mk (0 : Int) (0 : Int) (0 : Int) (0 : Int) false false (SSpan.mk (0 : Int) (0 : Int)) (SSpan.mk (0 : Int) (0 : Int))) z4 (SSpan.mk (0 : Int) (0 : Int)))) fun z13 =>
 .bind (plan_Apply z13.1 (SEdit.mk (4 : Int) (SPlace.mk (0 : Int) false) (SRoad.mk (0 : Int) (0 : Int) (0 : Int) (0 : Int) false false (SSpan.mk (0 : Int) (0 : Int)) (SSpan.mk (0 : Int) (0 : Int))) z4 (SSpan.mk (0 : Int) (0 : Int)))) fun z14 =>
 .ite (z13.2 != (0 : Int)) (
 .leaf false) (
 .ite (z14.2 != (0 : Int)) (
 .leaf false) (
 .bind (ref01_Same z14.1 z2.1) fun z15 =>
 .ite (!z15) (
 .leaf false) (
 .bind (plan_CutOff z13.1) fun z16 =>
 .bind (plan_CutOff z2.1) fun z17 =>
 .sum (law01_PlanBack_l17 z13.1.Places z13.1.Roads z2.1.Places z2.1.Roads z16 z17 (0 : Int)) (fun _ =>
 .bind (plan_Parts z13.1) fun z18 =>
 .bind (plan_Parts z2.1) fun z19 =>
 .ite (decide (((z18.n : Nat) : Int) ≥ ((z19.n : Nat) : Int))) (
 .bind (law01_awake) fun z20 =>
 .leaf z20) (
 .leaf false)) (fun _ => .leaf false)))))) (
 .fail))
noncomputable def law01_PlanBack_m : FnM := flM ((Sq Int) × Int) (Bool) (fun p => ([sqA 1 (eI .u8) p.1, .int .i64 p.2], [])) (fun p => law01_PlanBack_t p.1 p.2) (fun r => .bool r) (fun _ => rfl)
noncomputable def law01_PlanBack_env : Env := envM [(6, New_m.c), (7, Codes_Mine_m.c), (19, law01_awake_m.c), (8, Mod_m.c), (20, plan_Apply_m.c), (21, ref01_Same_m.c), (14, plan_CutOff_m.c), (22, ref01_Has_m.c), (17, plan_Parts_m.c)] [(17, [13, 14, 15, 16, 17], [4, 13, 14])] [(17, law01_PlanBack_l17_m.c)] [(8, [.freeze 192, .freeze 193]), (9, [.freeze 2176, .freeze 2177])] [(17, [4288, 4352, 4992, 5120])] 0
noncomputable def law01_PlanBack_e : Env := { law01_PlanBack_env with nt := 100 }
theorem law01_PlanBack_l17_tells : LoopTells law01_PlanBack_e (loopOf 17 Try.f4) law01_PlanBack_l17_m.c := law01_PlanBack_l17_m.tells 5376 (fun _ => by kernel_rfl) (fun _ _ _ _ => by kernel_rfl) (fun _ _ _ _ => by kernel_rfl) fun R f v N K => by kernel_rfl
theorem law01_PlanBack_tells : Tells Try.prog 4 law01_PlanBack_m.c := law01_PlanBack_m.tells Try.func4 (show ∀ p, arun law01_PlanBack_env Try.f4 (law01_PlanBack_m.enc p).1 (law01_PlanBack_m.enc p).2 = _ from fun p => by kernel_rfl) (loopsL [loopOf 17 Try.f4] (by kernel_rfl) ⟨lpT (by kernel_rfl) law01_PlanBack_l17_tells, trivial⟩) (.cons New_tells (.cons Codes_Mine_tells (.cons law01_awake_tells (.cons Mod_tells (.cons plan_Apply_tells (.cons ref01_Same_tells (.cons plan_CutOff_tells (.cons ref01_Has_tells (.cons plan_Parts_tells .nil)))))))))
noncomputable def law01_PlanBack (codes : Sq Int) (road : Int) : Option (Bool) := law01_PlanBack_m.val (codes, road)
theorem law01_PlanBack_eq (codes : Sq Int) (road : Int) : law01_PlanBack codes road = (law01_PlanBack_t codes road).get := law01_PlanBack_m.val_eq (fun x => (sqD dI (gd x.1 0), intA (gd x.1 1))) (fun p => by kernel_rfl) (codes, road)
theorem law01_PlanBack_inj : ∀ a b, law01_PlanBack_m.enc a = law01_PlanBack_m.enc b → a = b := linj (fun x => (sqD dI (gd x.1 0), intA (gd x.1 1))) (fun p => by kernel_rfl)
end Go.Proofs.Ythkdmemkjojmoaa.Ab
