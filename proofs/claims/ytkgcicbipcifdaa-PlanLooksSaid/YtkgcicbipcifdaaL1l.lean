/- Mirrors of code, stage 1. -/
import Derived.Test.YtkgcicbipcifdaaL1c
namespace Go.Proofs.Ytkgcicbipcifdaa.Ab
open Go
attribute [local irreducible] arun



/-! minecontrol/minecontrollaw01.awake -/
noncomputable def law01_awake_t : DT (Bool) :=
 .bind (plan_Apply (SMine.mk (Sq.mk 2 (fun k0 => (SPlace.mk (cond (Nat.beq k0 0) (0 : Int) (0 : Int)) (cond (Nat.beq k0 0) true false)))) (Sq.mk 1 (fun _ => (SRoad.mk (0 : Int) (1 : Int) (1 : Int) (1 : Int) false false (SSpan.mk (1 : Int) (1 : Int)) (SSpan.mk (0 : Int) (0 : Int)))))) (SEdit.mk (3 : Int) (SPlace.mk (0 : Int) false) (SRoad.mk (0 : Int) (0 : Int) (0 : Int) (0 : Int) false false (SSpan.mk (0 : Int) (0 : Int)) (SSpan.mk (0 : Int) (0 : Int))) (0 : Int) (SSpan.mk (0 : Int) (0 : Int)))) fun z0 =>
 .bind (plan_Valid (SMine.mk (Sq.mk 2 (fun k1 => (SPlace.mk (cond (Nat.beq k1 0) (0 : Int) (0 : Int)) (cond (Nat.beq k1 0) true false)))) (Sq.mk 1 (fun _ => (SRoad.mk (0 : Int) (1 : Int) (1 : Int) (1 : Int) false false (SSpan.mk (1 : Int) (1 : Int)) (SSpan.mk (0 : Int) (0 : Int))))))) fun z1 =>
 .ite z1 (
 .bind (plan_CutOff (SMine.mk (Sq.mk 2 (fun k2 => (SPlace.mk (cond (Nat.beq k2 0) (0 : Int) (0 : Int)) (cond (Nat.beq k2 0) true false)))) (Sq.mk 1 (fun _ => (SRoad.mk (0 : Int) (1 : Int) (1 : Int) (1 : Int) false false (SSpan.mk (1 : Int) (1 : Int)) (SSpan.mk (0 : Int) (0 : Int))))))) fun z2 =>
 .ite (((z2.n : Nat) : Int) == (0 : Int)) (
 .ite (z0.2 == (0 : Int)) (
 .bind (plan_CutOff z0.1) fun z3 =>
 .bind (ref01_Ints z3 (Sq.mk 1 (fun _ => (1 : Int)))) fun z4 =>
 .leaf z4) (
 .leaf false)) (
 .leaf false)) (
 .leaf false)
noncomputable def law01_awake_m : FnM := flM (Unit) (Bool) (fun _ => ([], [])) (fun _ => law01_awake_t) (fun r => .bool r) (fun _ => rfl)
noncomputable def law01_awake_env : Env := envM [(31, plan_Apply_m.c), (28, plan_Valid_m.c), (12, plan_CutOff_m.c), (7, ref01_Ints_m.c)] [] [] [(3, [.freeze 448, .freeze 576]), (4, [.freeze 960, .freeze 961])] [] 0
theorem law01_awake_tells : Tells Try.prog 17 law01_awake_m.c := law01_awake_m.tells Try.func17 (show ∀ p, arun law01_awake_env Try.f17 (law01_awake_m.enc p).1 (law01_awake_m.enc p).2 = _ from fun p => by kernel_rfl) noLoops (.cons plan_Apply_tells (.cons plan_Valid_tells (.cons plan_CutOff_tells (.cons ref01_Ints_tells .nil))))
noncomputable def law01_awake : Option (Bool) := law01_awake_m.val ()
theorem law01_awake_eq : law01_awake = (law01_awake_t).get := law01_awake_m.val_eq (fun _ => ()) (fun p => by kernel_rfl) ()
theorem law01_awake_inj : ∀ a b, law01_awake_m.enc a = law01_awake_m.enc b → a = b := linj (fun _ => ()) (fun p => by kernel_rfl)

/-! minecontrol/minecontrollaw01.PlanLooks -/
noncomputable def law01_PlanLooks_l5_step (u5_0 u5_1 : Int) (u5_2 : Sq SMine) (u5_3 : Int) : DT (LR (Int) (Unit) (Unit)) :=
 .ite (decide (u5_3 < (2 : Int))) (
 .ite (decide ((0 : Int) ≤ u5_3 ∧ u5_3 < ((u5_2.n : Nat) : Int))) (
 .bind (Mod u5_0 (wr ((((u5_2.f (Int.toNat u5_3)).Places.n : Nat) : Int) + (1 : Int)))) fun z0 =>
 .bind (Mod u5_1 (wr ((((u5_2.f (Int.toNat u5_3)).Roads.n : Nat) : Int) + (1 : Int)))) fun z1 =>
 .bind (plan_Roads (u5_2.f (Int.toNat u5_3)) z0) fun z2 =>
 .bind (ref01_Roads (u5_2.f (Int.toNat u5_3)) z0) fun z3 =>
 .bind (ref01_Ints z2 z3) fun z4 =>
 .ite (!z4) (
 .leaf (.r ())) (
 .bind (plan_Roads (u5_2.f (Int.toNat u5_3)) u5_0) fun z5 =>
 .bind (ref01_Roads (u5_2.f (Int.toNat u5_3)) u5_0) fun z6 =>
 .bind (ref01_Ints z5 z6) fun z7 =>
 .ite (!z7) (
 .leaf (.r ())) (
 .bind (plan_Other (u5_2.f (Int.toNat u5_3)) z1 z0) fun z8 =>
 .bind (ref01_Other (u5_2.f (Int.toNat u5_3)) z1 z0) fun z9 =>
 .ite (z8 != z9) (
 .leaf (.r ())) (
 .bind (plan_Other (u5_2.f (Int.toNat u5_3)) u5_1 u5_0) fun z10 =>
 .bind (ref01_Other (u5_2.f (Int.toNat u5_3)) u5_1 u5_0) fun z11 =>
 .ite (z10 != z11) (
 .leaf (.r ())) (
 .bind (plan_CutOff (u5_2.f (Int.toNat u5_3))) fun z12 =>
 .bind (ref01_CutOff (u5_2.f (Int.toNat u5_3))) fun z13 =>
 .bind (ref01_Ints z12 z13) fun z14 =>
 .ite (!z14) (
 .leaf (.r ())) (
 .bind (plan_Parts (u5_2.f (Int.toNat u5_3))) fun z15 =>
 .bind (ref01_Parts (u5_2.f (Int.toNat u5_3))) fun z16 =>
 .bind (ref01_Lists z15 z16) fun z17 =>
 .ite (!z17) (
 .leaf (.r ())) (
 .leaf (.next (wr (u5_3 + (1 : Int))))))))))) (
 .fail)) (
 .leaf (.l ()))
noncomputable def law01_PlanLooks_l5_m : LpM := ⟨Int × Int × (Sq SMine), Int, Unit, Unit, fun p => ⟨[(2, .int .i64 p.1.1), (3, .int .i64 p.1.2.1), (30, .own 1344 0), (31, .int .i64 (2 : Int)), (32, .int .i64 p.2)], [(1344, rowA 0 2 26 SMine.enc p.1.2.2)], 1536⟩, fun f v => law01_PlanLooks_l5_step f.1 f.2.1 f.2.2 v, false, (.exit 0), (fun x _ => ⟨[(8, .undef)], [(1344, blkS x 1344)], 1536⟩), .ret, (fun x _ => ⟨[(8, .bool false)], [(1344, blkS x 1344)], 1536⟩), c1, c1k⟩
noncomputable def law01_PlanLooks_l5 (u5_0 u5_1 : Int) (u5_2 : Sq SMine) (u5_3 : Int) : Option ((Unit) ⊕ (Unit)) := law01_PlanLooks_l5_m.val ((u5_0, u5_1, u5_2), u5_3)
theorem law01_PlanLooks_l5_eq (u5_0 u5_1 : Int) (u5_2 : Sq SMine) (u5_3 : Int) : law01_PlanLooks_l5 u5_0 u5_1 u5_2 u5_3 = fixO (fun v : Int => law01_PlanLooks_l5_step u5_0 u5_1 u5_2 v) u5_3 := law01_PlanLooks_l5_m.val_eq (fun x => ((intA (aget x.tm 2), intA (aget x.tm 3), sqB SMine.dec (blkS x 1344)), intA (aget x.tm 32))) (fun p => by kernel_rfl) ((u5_0, u5_1, u5_2), u5_3)
noncomputable def law01_PlanLooks_t (codes : Sq Int) (raw : SMine) (place road : Int) : DT (Bool) :=
 .bind (New codes) fun z18 =>
 .bind (Codes_Mine z18) fun z19 =>
 .ite (decide (((raw.Places.n : Nat) : Int) > (20 : Int))) (
 .sum (law01_PlanLooks_l5 place road (Sq.mk 2 (fun k0 => (SMine.mk (Sq.mk (cond (Nat.beq k0 0) z19.1.Places.n 0) (fun k1 => (SPlace.mk (cond (Nat.beq k0 0) (z19.1.Places.f k1).Height ((fun _ => (SPlace.mk (0 : Int) false)) k1).Height) (cond (Nat.beq k0 0) (z19.1.Places.f k1).Surface ((fun _ => (SPlace.mk (0 : Int) false)) k1).Surface)))) (Sq.mk (cond (Nat.beq k0 0) z19.1.Roads.n 0) (fun k2 => (SRoad.mk (cond (Nat.beq k0 0) (z19.1.Roads.f k2).From ((fun _ => (SRoad.mk (0 : Int) (0 : Int) (0 : Int) (0 : Int) false false (SSpan.mk (0 : Int) (0 : Int)) (SSpan.mk (0 : Int) (0 : Int)))) k2).From) (cond (Nat.beq k0 0) (z19.1.Roads.f k2).To ((fun _ => (SRoad.mk (0 : Int) (0 : Int) (0 : Int) (0 : Int) false false (SSpan.mk (0 : Int) (0 : Int)) (SSpan.mk (0 : Int) (0 : Int)))) k2).To) (cond (Nat.beq k0 0) (z19.1.Roads.f k2).Length ((fun _ => (SRoad.mk (0 : Int) (0 : Int) (0 : Int) (0 : Int) false false (SSpan.mk (0 : Int) (0 : Int)) (SSpan.mk (0 : Int) (0 : Int)))) k2).Length) (cond (Nat.beq k0 0) (z19.1.Roads.f k2).Area ((fun _ => (SRoad.mk (0 : Int) (0 : Int) (0 : Int) (0 : Int) false false (SSpan.mk (0 : Int) (0 : Int)) (SSpan.mk (0 : Int) (0 : Int)))) k2).Area) (cond (Nat.beq k0 0) (z19.1.Roads.f k2).Walk ((fun _ => (SRoad.mk (0 : Int) (0 : Int) (0 : Int) (0 : Int) false false (SSpan.mk (0 : Int) (0 : Int)) (SSpan.mk (0 : Int) (0 : Int)))) k2).Walk) (cond (Nat.beq k0 0) (z19.1.Roads.f k2).Closed ((fun _ => (SRoad.mk (0 : Int) (0 : Int) (0 : Int) (0 : Int) false false (SSpan.mk (0 : Int) (0 : Int)) (SSpan.mk (0 : Int) (0 : Int)))) k2).Closed) (SSpan.mk (cond (Nat.beq k0 0) (z19.1.Roads.f k2).Rest.Low ((fun _ => (SRoad.mk (0 : Int) (0 : Int) (0 : Int) (0 : Int) false false (SSpan.mk (0 : Int) (0 : Int)) (SSpan.mk (0 : Int) (0 : Int)))) k2).Rest.Low) (cond (Nat.beq k0 0) (z19.1.Roads.f k2).Rest.High ((fun _ => (SRoad.mk (0 : Int) (0 : Int) (0 : Int) (0 : Int) false false (SSpan.mk (0 : Int) (0 : Int)) (SSpan.mk (0 : Int) (0 : Int)))) k2).Rest.High)) (SSpan.mk (cond (Nat.beq k0 0) (z19.1.Roads.f k2).Lift.Low ((fun _ => (SRoad.mk (0 : Int) (0 : Int) (0 : Int) (0 : Int) false false (SSpan.mk (0 : Int) (0 : Int)) (SSpan.mk (0 : Int) (0 : Int)))) k2).Lift.Low) (cond (Nat.beq k0 0) (z19.1.Roads.f k2).Lift.High ((fun _ => (SRoad.mk (0 : Int) (0 : Int) (0 : Int) (0 : Int) false false (SSpan.mk (0 : Int) (0 : Int)) (SSpan.mk (0 : Int) (0 : Int)))) k2).Lift.High)))))))) (0 : Int)) (fun _ =>
 .bind (law01_awake) fun z20 =>
 .leaf z20) (fun _ => .leaf false)) (
 .ite (decide (((raw.Roads.n : Nat) : Int) > (20 : Int))) (
 .sum (law01_PlanLooks_l5 place road (Sq.mk 2 (fun k3 => (SMine.mk (Sq.mk (cond (Nat.beq k3 0) z19.1.Places.n 0) (fun k4 => (SPlace.mk (cond (Nat.beq k3 0) (z19.1.Places.f k4).Height ((fun _ => (SPlace.mk (0 : Int) false)) k4).Height) (cond (Nat.beq k3 0) (z19.1.Places.f k4).Surface ((fun _ => (SPlace.mk (0 : Int) false)) k4).Surface)))) (Sq.mk (cond (Nat.beq k3 0) z19.1.Roads.n 0) (fun k5 => (SRoad.mk (cond (Nat.beq k3 0) (z19.1.Roads.f k5).From ((fun _ => (SRoad.mk (0 : Int) (0 : Int) (0 : Int) (0 : Int) false false (SSpan.mk (0 : Int) (0 : Int)) (SSpan.mk (0 : Int) (0 : Int)))) k5).From) (cond (Nat.beq k3 0) (z19.1.Roads.f k5).To ((fun _ => (SRoad.mk (0 : Int) (0 : Int) (0 : Int) (0 : Int) false false (SSpan.mk (0 : Int) (0 : Int)) (SSpan.mk (0 : Int) (0 : Int)))) k5).To) (cond (Nat.beq k3 0) (z19.1.Roads.f k5).Length ((fun _ => (SRoad.mk (0 : Int) (0 : Int) (0 : Int) (0 : Int) false false (SSpan.mk (0 : Int) (0 : Int)) (SSpan.mk (0 : Int) (0 : Int)))) k5).Length) (cond (Nat.beq k3 0) (z19.1.Roads.f k5).Area ((fun _ => (SRoad.mk (0 : Int) (0 : Int) (0 : Int) (0 : Int) false false (SSpan.mk (0 : Int) (0 : Int)) (SSpan.mk (0 : Int) (0 : Int)))) k5).Area) (cond (Nat.beq k3 0) (z19.1.Roads.f k5).Walk ((fun _ => (SRoad.mk (0 : Int) (0 : Int) (0 : Int) (0 : Int) false false (SSpan.mk (0 : Int) (0 : Int)) (SSpan.mk (0 : Int) (0 : Int)))) k5).Walk) (cond (Nat.beq k3 0) (z19.1.Roads.f k5).Closed ((fun _ => (SRoad.mk (0 : Int) (0 : Int) (0 : Int) (0 : Int) false false (SSpan.mk (0 : Int) (0 : Int)) (SSpan.mk (0 : Int) (0 : Int)))) k5).Closed) (SSpan.mk (cond (Nat.beq k3 0) (z19.1.Roads.f k5).Rest.Low ((fun _ => (SRoad.mk (0 : Int) (0 : Int) (0 : Int) (0 : Int) false false (SSpan.mk (0 : Int) (0 : Int)) (SSpan.mk (0 : Int) (0 : Int)))) k5).Rest.Low) (cond (Nat.beq k3 0) (z19.1.Roads.f k5).Rest.High ((fun _ => (SRoad.mk (0 : Int) (0 : Int) (0 : Int) (0 : Int) false false (SSpan.mk (0 : Int) (0 : Int)) (SSpan.mk (0 : Int) (0 : Int)))) k5).Rest.High)) (SSpan.mk (cond (Nat.beq k3 0) (z19.1.Roads.f k5).Lift.Low ((fun _ => (SRoad.mk (0 : Int) (0 : Int) (0 : Int) (0 : Int) false false (SSpan.mk (0 : Int) (0 : Int)) (SSpan.mk (0 : Int) (0 : Int)))) k5).Lift.Low) (cond (Nat.beq k3 0) (z19.1.Roads.f k5).Lift.High ((fun _ => (SRoad.mk (0 : Int) (0 : Int) (0 : Int) (0 : Int) false false (SSpan.mk (0 : Int) (0 : Int)) (SSpan.mk (0 : Int) (0 : Int)))) k5).Lift.High)))))))) (0 : Int)) (fun _ =>
 .bind (law01_awake) fun z21 =>
 .leaf z21) (fun _ => .leaf false)) (
 .sum (law01_PlanLooks_l5 place road (Sq.mk 2 (fun k6 => (SMine.mk (Sq.mk (cond (Nat.beq k6 0) z19.1.Places.n raw.Places.n) (fun k7 => (SPlace.mk (cond (Nat.beq k6 0) (z19.1.Places.f k7).Height (raw.Places.f k7).Height) (cond (Nat.beq k6 0) (z19.1.Places.f k7).Surface (raw.Places.f k7).Surface)))) (Sq.mk (cond (Nat.beq k6 0) z19.1.Roads.n raw.Roads.n) (fun k8 => (SRoad.mk (cond (Nat.beq k6 0) (z19.1.Roads.f k8).From (raw.Roads.f k8).From) (cond (Nat.beq k6 0) (z19.1.Roads.f k8).To (raw.Roads.f k8).To) (cond (Nat.beq k6 0) (z19.1.Roads.f k8).Length (raw.Roads.f k8).Length) (cond (Nat.beq k6 0) (z19.1.Roads.f k8).Area (raw.Roads.f k8).Area) (cond (Nat.beq k6 0) (z19.1.Roads.f k8).Walk (raw.Roads.f k8).Walk) (cond (Nat.beq k6 0) (z19.1.Roads.f k8).Closed (raw.Roads.f k8).Closed) (SSpan.mk (cond (Nat.beq k6 0) (z19.1.Roads.f k8).Rest.Low (raw.Roads.f k8).Rest.Low) (cond (Nat.beq k6 0) (z19.1.Roads.f k8).Rest.High (raw.Roads.f k8).Rest.High)) (SSpan.mk (cond (Nat.beq k6 0) (z19.1.Roads.f k8).Lift.Low (raw.Roads.f k8).Lift.Low) (cond (Nat.beq k6 0) (z19.1.Roads.f k8).Lift.High (raw.Roads.f k8).Lift.High)))))))) (0 : Int)) (fun _ =>
 .bind (law01_awake) fun z22 =>
 .leaf z22) (fun _ => .leaf false)))
noncomputable def law01_PlanLooks_m : FnM := flM ((Sq Int) × SMine × Int × Int) (Bool) (fun p => ([sqA 1 (eI .u8) p.1, .agg (SMine.enc p.2.1), .int .i64 p.2.2.1, .int .i64 p.2.2.2], [])) (fun p => law01_PlanLooks_t p.1 p.2.1 p.2.2.1 p.2.2.2) (fun r => .bool r) (fun _ => rfl)
noncomputable def law01_PlanLooks_env : Env := envM [(4, New_m.c), (5, Codes_Mine_m.c), (6, Mod_m.c), (8, plan_Roads_m.c), (9, ref01_Roads_m.c), (7, ref01_Ints_m.c), (10, plan_Other_m.c), (11, ref01_Other_m.c), (12, plan_CutOff_m.c), (13, ref01_CutOff_m.c), (15, plan_Parts_m.c), (16, ref01_Parts_m.c), (14, ref01_Lists_m.c), (17, law01_awake_m.c)] [(5, [2, 3, 30, 31, 32], [8])] [(5, law01_PlanLooks_l5_m.c)] [(4, [.asrow 1088 45 2 (fun _ => SPlace.enc (SPlace.mk (0 : Int) false)), .asrow 1089 51 10 (fun _ => SRoad.enc (SRoad.mk (0 : Int) (0 : Int) (0 : Int) (0 : Int) false false (SSpan.mk (0 : Int) (0 : Int)) (SSpan.mk (0 : Int) (0 : Int)))), .freeze 256, .freeze 257, .freeze 1088, .freeze 1089])] [(5, [1344])] 0
noncomputable def law01_PlanLooks_e : Env := { law01_PlanLooks_env with nt := 104 }
theorem law01_PlanLooks_l5_tells : LoopTells law01_PlanLooks_e (loopOf 5 Try.f3) law01_PlanLooks_l5_m.c := law01_PlanLooks_l5_m.tells 1536 (fun _ => by kernel_rfl) (fun _ _ _ _ => by kernel_rfl) (fun _ _ _ _ => by kernel_rfl) fun R f v N K => by kernel_rfl
theorem law01_PlanLooks_tells : Tells Try.prog 3 law01_PlanLooks_m.c := law01_PlanLooks_m.tells Try.func3 (show ∀ p, arun law01_PlanLooks_env Try.f3 (law01_PlanLooks_m.enc p).1 (law01_PlanLooks_m.enc p).2 = _ from fun p => by kernel_rfl) (loopsL [loopOf 5 Try.f3] (by kernel_rfl) ⟨lpT (by kernel_rfl) law01_PlanLooks_l5_tells, trivial⟩) (.cons New_tells (.cons Codes_Mine_tells (.cons Mod_tells (.cons plan_Roads_tells (.cons ref01_Roads_tells (.cons ref01_Ints_tells (.cons plan_Other_tells (.cons ref01_Other_tells (.cons plan_CutOff_tells (.cons ref01_CutOff_tells (.cons plan_Parts_tells (.cons ref01_Parts_tells (.cons ref01_Lists_tells (.cons law01_awake_tells .nil))))))))))))))
noncomputable def law01_PlanLooks (codes : Sq Int) (raw : SMine) (place road : Int) : Option (Bool) := law01_PlanLooks_m.val (codes, raw, place, road)
theorem law01_PlanLooks_eq (codes : Sq Int) (raw : SMine) (place road : Int) : law01_PlanLooks codes raw place road = (law01_PlanLooks_t codes raw place road).get := law01_PlanLooks_m.val_eq (fun x => (sqD dI (gd x.1 0), SMine.dec (aggL (gd x.1 1)), intA (gd x.1 2), intA (gd x.1 3))) (fun p => by kernel_rfl) (codes, raw, place, road)
theorem law01_PlanLooks_inj : ∀ a b, law01_PlanLooks_m.enc a = law01_PlanLooks_m.enc b → a = b := linj (fun x => (sqD dI (gd x.1 0), SMine.dec (aggL (gd x.1 1)), intA (gd x.1 2), intA (gd x.1 3))) (fun p => by kernel_rfl)
end Go.Proofs.Ytkgcicbipcifdaa.Ab
