/- Mirrors of code, stage 10. -/
import Derived.Test.YtandmllkfeghbaaXb
namespace Go.Proofs.Ytandmllkfeghbaa.Ab
open Go
attribute [local irreducible] arun



/-! minecontrol/balance.within -/
noncomputable def balance_within_t (n low high : Int) : DT (Bool) :=
 .ite (decide (low ≤ n)) (.leaf (decide (n ≤ high))) (.leaf false)
noncomputable def balance_within_m : FnM := flM (Int × Int × Int) (Bool) (fun p => ([.int .i64 p.1, .int .i64 p.2.1, .int .i64 p.2.2], [])) (fun p => balance_within_t p.1 p.2.1 p.2.2) (fun r => .bool r) (fun _ => rfl)
noncomputable def balance_within_env : Env := envM [] [] [] [] [] 0
theorem balance_within_tells : Tells Try.prog 45 balance_within_m.c := balance_within_m.tells Try.func45 (show ∀ p, arun balance_within_env Try.f45 (balance_within_m.enc p).1 (balance_within_m.enc p).2 = _ from fun p => by kernel_rfl) noLoops .nil
noncomputable def balance_within (n low high : Int) : Option (Bool) := balance_within_m.val (n, low, high)
theorem balance_within_eq (n low high : Int) : balance_within n low high = (balance_within_t n low high).get := balance_within_m.val_eq (fun x => (intA (gd x.1 0), intA (gd x.1 1), intA (gd x.1 2))) (fun p => by kernel_rfl) (n, low, high)

/-! minecontrol/balance.proper -/
noncomputable def balance_proper_l4_step (u4_0 : Sq Int) (u4_2 : Int) : DT (LR (Int) (Unit) (Unit)) :=
 .ite (decide (u4_2 < ((u4_0.n : Nat) : Int))) (
 .ite (decide ((0 : Int) ≤ u4_2 ∧ u4_2 < ((u4_0.n : Nat) : Int))) (
 .bind (balance_within (u4_0.f (Int.toNat u4_2)) (-70368744177664 : Int) (70368744177664 : Int)) fun z0 =>
 .ite (!z0) (
 .leaf (.r ())) (
 .leaf (.next (wr (u4_2 + (1 : Int)))))) (
 .fail)) (
 .leaf (.l ()))
noncomputable def balance_proper_l4_m : LpM := ⟨(Sq Int), Int, Unit, Unit, fun p => ⟨[(32, sqA 1 (eI .i64) p.1), (33, .int .i64 ((p.1.n : Nat) : Int)), (34, .int .i64 p.2)], [], 1792⟩, fun f v => balance_proper_l4_step f v, false, (.exit 0), (fun _ _ => ⟨[(8, .undef)], [], 1792⟩), .ret, (fun _ _ => ⟨[(8, .bool false)], [], 1792⟩)⟩
noncomputable def balance_proper_l4 (u4_0 : Sq Int) (u4_2 : Int) : Option ((Unit) ⊕ (Unit)) := balance_proper_l4_m.val (u4_0, u4_2)
theorem balance_proper_l4_eq (u4_0 : Sq Int) (u4_2 : Int) : balance_proper_l4 u4_0 u4_2 = fixO (fun v : Int => balance_proper_l4_step u4_0 v) u4_2 := balance_proper_l4_m.val_eq (fun x => (sqD dI (aget x.tm 32), intA (aget x.tm 34))) (fun p => by kernel_rfl) (u4_0, u4_2)
noncomputable def balance_proper_t (a : SAir) (s : SSetting) (pressures : Sq Int) (place : Int) : DT (Bool) :=
 .bind (branch_Right a s) fun z1 =>
 .ite (!z1) (
 .leaf false) (
 .ite (((pressures.n : Nat) : Int) != ((a.Mine.Places.n : Nat) : Int)) (
 .leaf false) (
 .bind (balance_within place (0 : Int) (wr (((pressures.n : Nat) : Int) - (1 : Int)))) fun z2 =>
 .ite (!z2) (
 .leaf false) (
 .sum (balance_proper_l4 pressures (0 : Int)) (fun _ =>
 .leaf true) (fun _ => .leaf false))))
noncomputable def balance_proper_m : FnM := flM (SAir × SSetting × (Sq Int) × Int) (Bool) (fun p => ([.agg (SAir.enc p.1), .agg (SSetting.enc p.2.1), sqA 1 (eI .i64) p.2.2.1, .int .i64 p.2.2.2], [])) (fun p => balance_proper_t p.1 p.2.1 p.2.2.1 p.2.2.2) (fun r => .bool r) (fun _ => rfl)
noncomputable def balance_proper_env : Env := envM [(44, branch_Right_m.c), (45, balance_within_m.c)] [(4, [32, 33, 34], [8])] [(4, balance_proper_l4_m.c)] [] [(4, [])] 0
noncomputable def balance_proper_e : Env := { balance_proper_env with nt := 42 }
theorem balance_proper_l4_tells : LoopTells balance_proper_e (loopOf 4 Try.f29) balance_proper_l4_m.c := balance_proper_l4_m.tells 1792 (fun _ => by kernel_rfl) (fun _ _ _ _ => by kernel_rfl) (fun _ _ _ _ => by kernel_rfl) fun R f v N K => by kernel_rfl
theorem balance_proper_tells : Tells Try.prog 29 balance_proper_m.c := balance_proper_m.tells Try.func29 (show ∀ p, arun balance_proper_env Try.f29 (balance_proper_m.enc p).1 (balance_proper_m.enc p).2 = _ from fun p => by kernel_rfl) (loopsL [loopOf 4 Try.f29] (by kernel_rfl) ⟨lpT (by kernel_rfl) balance_proper_l4_tells, trivial⟩) (.cons branch_Right_tells (.cons balance_within_tells .nil))
noncomputable def balance_proper (a : SAir) (s : SSetting) (pressures : Sq Int) (place : Int) : Option (Bool) := balance_proper_m.val (a, s, pressures, place)
theorem balance_proper_eq (a : SAir) (s : SSetting) (pressures : Sq Int) (place : Int) : balance_proper a s pressures place = (balance_proper_t a s pressures place).get := balance_proper_m.val_eq (fun x => (SAir.dec (aggL (gd x.1 0)), SSetting.dec (aggL (gd x.1 1)), sqD dI (gd x.1 2), intA (gd x.1 3))) (fun p => by kernel_rfl) (a, s, pressures, place)

/-! minecontrol/plan.Roads -/
noncomputable def plan_Roads_l3_step (u3_0 : Int) (u3_1 : Sq SRoad) (u3_3 : Sq Int) (u3_4 : Int) : DT (LR ((Sq Int) × Int) ((Sq Int)) (Unit)) :=
 .ite (decide (u3_4 < ((u3_1.n : Nat) : Int))) (
 .ite (decide ((0 : Int) ≤ u3_4 ∧ u3_4 < ((u3_1.n : Nat) : Int))) (
 .ite ((u3_1.f (Int.toNat u3_4)).From == u3_0) (
 .ite (decide ((u3_3.n + 1) * 8 ≤ 140737488355328 ∧ (u3_3.n + 1) ≤ 1099511627776)) (
 .leaf (.next ((Sq.mk (u3_3.n + 1) (fun k0 => (cond (Nat.blt k0 u3_3.n) (u3_3.f k0) u3_4))), (wr (u3_4 + (1 : Int)))))) (
 .fail)) (
 .ite ((u3_1.f (Int.toNat u3_4)).To == u3_0) (
 .ite (decide ((u3_3.n + 1) * 8 ≤ 140737488355328 ∧ (u3_3.n + 1) ≤ 1099511627776)) (
 .leaf (.next ((Sq.mk (u3_3.n + 1) (fun k1 => (cond (Nat.blt k1 u3_3.n) (u3_3.f k1) u3_4))), (wr (u3_4 + (1 : Int)))))) (
 .fail)) (
 .leaf (.next (u3_3, (wr (u3_4 + (1 : Int)))))))) (
 .fail)) (
 .leaf (.l u3_3))
noncomputable def plan_Roads_l3_m : LpM := ⟨Int × (Sq SRoad), (Sq Int) × Int, (Sq Int), Unit, fun p => ⟨[(1, .int .i64 p.1.1), (5, .own 128 0), (9, sqA 10 SRoad.enc p.1.2), (10, .int .i64 ((p.1.2.n : Nat) : Int)), (11, .int .i64 p.2.2)], [(128, rowA 0 1 3 (eI .i64) p.2.1)], 448⟩, fun f v => plan_Roads_l3_step f.1 f.2 v.1 v.2, true, (.exit 0), (fun _ a => ⟨[(5, .own 128 0)], [(128, rowA 0 1 3 (eI .i64) a)], 448⟩), .ret, (fun _ _ => ⟨[], [], 0⟩)⟩
noncomputable def plan_Roads_l3 (u3_0 : Int) (u3_1 : Sq SRoad) (u3_3 : Sq Int) (u3_4 : Int) : Option (((Sq Int)) ⊕ (Unit)) := plan_Roads_l3_m.val ((u3_0, u3_1), (u3_3, u3_4))
theorem plan_Roads_l3_eq (u3_0 : Int) (u3_1 : Sq SRoad) (u3_3 : Sq Int) (u3_4 : Int) : plan_Roads_l3 u3_0 u3_1 u3_3 u3_4 = fixO (fun v : (Sq Int) × Int => plan_Roads_l3_step u3_0 u3_1 v.1 v.2) (u3_3, u3_4) := plan_Roads_l3_m.val_eq (fun x => ((intA (aget x.tm 1), sqD SRoad.dec (aget x.tm 9)), (sqB dI (blkS x 128), intA (aget x.tm 11)))) (fun p => by kernel_rfl) ((u3_0, u3_1), (u3_3, u3_4))
noncomputable def plan_Roads_t (m : SMine) (place : Int) : DT ((Sq Int)) :=
 .sum (plan_Roads_l3 place m.Roads (Sq.mk 0 (fun _ => (0 : Int))) (0 : Int)) (fun y0 =>
 .leaf y0) (fun _ => .fail)
noncomputable def plan_Roads_m : FnM := nfM (SMine × Int) ((Sq Int)) (fun p => ([.agg (SMine.enc p.1), .int .i64 p.2], [])) (fun p => plan_Roads_t p.1 p.2) (fun _ => .own 0 0) (fun _ r => [rowA 0 1 3 (eI .i64) r])
noncomputable def plan_Roads_env : Env := envM [] [(3, [1, 5, 9, 10, 11], [5])] [(3, plan_Roads_l3_m.c)] [(1000003, [.asrow 128 3 1 (fun _ => (eI .i64) (0 : Int))])] [(3, [128])] 0
noncomputable def plan_Roads_e : Env := { plan_Roads_env with nt := 32 }
theorem plan_Roads_l3_tells : LoopTells plan_Roads_e (loopOf 3 Try.f46) plan_Roads_l3_m.c := plan_Roads_l3_m.tells 448 (fun _ => by kernel_rfl) (fun _ _ _ _ => by kernel_rfl) (fun _ _ _ _ => by kernel_rfl) fun R f v N K => by kernel_rfl
theorem plan_Roads_tells : Tells Try.prog 46 plan_Roads_m.c := plan_Roads_m.tells Try.func46 (show ∀ p, arun plan_Roads_env Try.f46 (plan_Roads_m.enc p).1 (plan_Roads_m.enc p).2 = _ from fun p => by kernel_rfl) (loopsL [loopOf 3 Try.f46] (by kernel_rfl) ⟨lpT (by kernel_rfl) plan_Roads_l3_tells, trivial⟩) .nil
noncomputable def plan_Roads (m : SMine) (place : Int) : Option ((Sq Int)) := plan_Roads_m.val (m, place)
theorem plan_Roads_eq (m : SMine) (place : Int) : plan_Roads m place = (plan_Roads_t m place).get := plan_Roads_m.val_eq (fun x => (SMine.dec (aggL (gd x.1 0)), intA (gd x.1 1))) (fun p => by kernel_rfl) (m, place)

/-! slices.Index[[]int,int] -/
noncomputable def slices_Index_l2_step (u2_0 : Sq Int) (u2_1 u2_3 : Int) : DT (LR (Int) (Unit) (Int)) :=
 .ite (decide (u2_3 < ((u2_0.n : Nat) : Int))) (
 .ite (decide ((0 : Int) ≤ u2_3 ∧ u2_3 < ((u2_0.n : Nat) : Int))) (
 .ite (u2_1 == (u2_0.f (Int.toNat u2_3))) (
 .leaf (.r u2_3)) (
 .leaf (.next (wr (u2_3 + (1 : Int)))))) (
 .fail)) (
 .leaf (.l ()))
noncomputable def slices_Index_l2_m : LpM := ⟨(Sq Int) × Int, Int, Unit, Int, fun p => ⟨[(0, sqA 1 (eI .i64) p.1.1), (1, .int .i64 p.1.2), (7, .int .i64 ((p.1.1.n : Nat) : Int)), (8, .int .i64 p.2)], [], 256⟩, fun f v => slices_Index_l2_step f.1 f.2 v, false, (.exit 0), (fun _ _ => ⟨[(4, .undef)], [], 256⟩), .ret, (fun _ a => ⟨[(4, .int .i64 a)], [], 256⟩)⟩
noncomputable def slices_Index_l2 (u2_0 : Sq Int) (u2_1 u2_3 : Int) : Option ((Unit) ⊕ (Int)) := slices_Index_l2_m.val ((u2_0, u2_1), u2_3)
theorem slices_Index_l2_eq (u2_0 : Sq Int) (u2_1 u2_3 : Int) : slices_Index_l2 u2_0 u2_1 u2_3 = fixO (fun v : Int => slices_Index_l2_step u2_0 u2_1 v) u2_3 := slices_Index_l2_m.val_eq (fun x => ((sqD dI (aget x.tm 0), intA (aget x.tm 1)), intA (aget x.tm 8))) (fun p => by kernel_rfl) ((u2_0, u2_1), u2_3)
noncomputable def slices_Index_t (s : Sq Int) (v : Int) : DT (Int) :=
 .sum (slices_Index_l2 s v (0 : Int)) (fun _ =>
 .leaf (-1 : Int)) (fun y0 => .leaf y0)
noncomputable def slices_Index_m : FnM := flM ((Sq Int) × Int) (Int) (fun p => ([sqA 1 (eI .i64) p.1, .int .i64 p.2], [])) (fun p => slices_Index_t p.1 p.2) (fun r => .int .i64 r) (fun _ => rfl)
noncomputable def slices_Index_env : Env := envM [] [(2, [0, 1, 7, 8], [4])] [(2, slices_Index_l2_m.c)] [] [(2, [])] 0
noncomputable def slices_Index_e : Env := { slices_Index_env with nt := 19 }
theorem slices_Index_l2_tells : LoopTells slices_Index_e (loopOf 2 Try.f47) slices_Index_l2_m.c := slices_Index_l2_m.tells 256 (fun _ => by kernel_rfl) (fun _ _ _ _ => by kernel_rfl) (fun _ _ _ _ => by kernel_rfl) fun R f v N K => by kernel_rfl
theorem slices_Index_tells : Tells Try.prog 47 slices_Index_m.c := slices_Index_m.tells Try.func47 (show ∀ p, arun slices_Index_env Try.f47 (slices_Index_m.enc p).1 (slices_Index_m.enc p).2 = _ from fun p => by kernel_rfl) (loopsL [loopOf 2 Try.f47] (by kernel_rfl) ⟨lpT (by kernel_rfl) slices_Index_l2_tells, trivial⟩) .nil
noncomputable def slices_Index (s : Sq Int) (v : Int) : Option (Int) := slices_Index_m.val (s, v)
theorem slices_Index_eq (s : Sq Int) (v : Int) : slices_Index s v = (slices_Index_t s v).get := slices_Index_m.val_eq (fun x => (sqD dI (gd x.1 0), intA (gd x.1 1))) (fun p => by kernel_rfl) (s, v)

/-! minecontrol/balance.junctionOf -/
noncomputable def balance_junctionOf_l5_step (_u5_1 : Sq SPlace) (u5_2 : Sq SRoad) (_u5_3 : Sq SFan) (_u5_4 : Sq SDoor) (_u5_5 _u5_6 _u5_8 : Sq Int) (_u5_9 : Int) (u5_10 : Sq Int) (u5_7 : Sq SRoad) (u5_11 : Int) : DT (LR ((Sq SRoad) × Int) ((Sq SRoad)) (Unit)) :=
 .ite (decide (u5_11 < ((u5_10.n : Nat) : Int))) (
 .ite (decide ((0 : Int) ≤ u5_11 ∧ u5_11 < ((u5_10.n : Nat) : Int))) (
 .ite (decide ((0 : Int) ≤ (u5_10.f (Int.toNat u5_11)) ∧ (u5_10.f (Int.toNat u5_11)) < ((u5_2.n : Nat) : Int))) (
 .ite (decide ((u5_7.n + 1) * 72 ≤ 140737488355328 ∧ (u5_7.n + 1) ≤ 1099511627776)) (
 .leaf (.next ((Sq.mk (u5_7.n + 1) (fun k0 => (SRoad.mk (cond (Nat.blt k0 u5_7.n) (u5_7.f k0).From (u5_2.f (Int.toNat (u5_10.f (Int.toNat u5_11)))).From) (cond (Nat.blt k0 u5_7.n) (u5_7.f k0).To (u5_2.f (Int.toNat (u5_10.f (Int.toNat u5_11)))).To) (cond (Nat.blt k0 u5_7.n) (u5_7.f k0).Length (u5_2.f (Int.toNat (u5_10.f (Int.toNat u5_11)))).Length) (cond (Nat.blt k0 u5_7.n) (u5_7.f k0).Area (u5_2.f (Int.toNat (u5_10.f (Int.toNat u5_11)))).Area) (cond (Nat.blt k0 u5_7.n) (u5_7.f k0).Walk (u5_2.f (Int.toNat (u5_10.f (Int.toNat u5_11)))).Walk) (cond (Nat.blt k0 u5_7.n) (u5_7.f k0).Closed (u5_2.f (Int.toNat (u5_10.f (Int.toNat u5_11)))).Closed) (SSpan.mk (cond (Nat.blt k0 u5_7.n) (u5_7.f k0).Rest.Low (u5_2.f (Int.toNat (u5_10.f (Int.toNat u5_11)))).Rest.Low) (cond (Nat.blt k0 u5_7.n) (u5_7.f k0).Rest.High (u5_2.f (Int.toNat (u5_10.f (Int.toNat u5_11)))).Rest.High)) (SSpan.mk (cond (Nat.blt k0 u5_7.n) (u5_7.f k0).Lift.Low (u5_2.f (Int.toNat (u5_10.f (Int.toNat u5_11)))).Lift.Low) (cond (Nat.blt k0 u5_7.n) (u5_7.f k0).Lift.High (u5_2.f (Int.toNat (u5_10.f (Int.toNat u5_11)))).Lift.High))))), (wr (u5_11 + (1 : Int)))))) (
 .fail)) (
 .fail)) (
 .fail)) (
 .leaf (.l u5_7))
noncomputable def balance_junctionOf_l5_m : LpM := ⟨(Sq SPlace) × (Sq SRoad) × (Sq SFan) × (Sq SDoor) × (Sq Int) × (Sq Int) × (Sq Int) × Int × (Sq Int), (Sq SRoad) × Int, (Sq SRoad), Unit, fun p => ⟨[(4, .ptr 0 0), (5, .ptr 64 0), (9, .ptr 384 0), (10, .own 1280 0), (33, .own 1280 0), (34, .int .i64 ((p.1.2.2.2.2.2.2.2.2.n : Nat) : Int)), (35, .int .i64 p.2.2)], [(0, .var [sqA 2 SPlace.enc p.1.1, sqA 10 SRoad.enc p.1.2.1, sqA 4 SFan.enc p.1.2.2.1, sqA 3 SDoor.enc p.1.2.2.2.1]), (64, .var [sqA 1 (eI .i64) p.1.2.2.2.2.1, sqA 1 (eI .i64) p.1.2.2.2.2.2.1]), (321, rowA 0 10 60 SRoad.enc p.2.1), (322, .nilrow 0), (323, .nilrow 0), (324, .nilrow 0), (325, .nilrow 0), (384, .var [sqA 2 SPlace.enc p.1.1, .own 321 0, .own 322 0, .own 323 0, .own 324 0, .own 325 0, sqA 1 (eI .i64) p.1.2.2.2.2.2.2.1, .int .i64 p.1.2.2.2.2.2.2.2.1]), (1280, rowA 0 1 3 (eI .i64) p.1.2.2.2.2.2.2.2.2)], 1600⟩, fun f v => balance_junctionOf_l5_step f.1 f.2.1 f.2.2.1 f.2.2.2.1 f.2.2.2.2.1 f.2.2.2.2.2.1 f.2.2.2.2.2.2.1 f.2.2.2.2.2.2.2.1 f.2.2.2.2.2.2.2.2 v.1 v.2, true, (.exit 0), (fun x a => ⟨[(4, .ptr 0 0), (5, .ptr 64 0), (9, .ptr 384 0), (10, .own 1280 0)], [(0, blkS x 0), (64, blkS x 64), (321, rowA 0 10 60 SRoad.enc a), (322, .nilrow 0), (323, .nilrow 0), (324, .nilrow 0), (325, .nilrow 0), (384, blkS x 384), (1280, blkS x 1280)], 1600⟩), .ret, (fun _ _ => ⟨[], [], 0⟩)⟩
noncomputable def balance_junctionOf_l5 (u5_1 : Sq SPlace) (u5_2 : Sq SRoad) (u5_3 : Sq SFan) (u5_4 : Sq SDoor) (u5_5 u5_6 u5_8 : Sq Int) (u5_9 : Int) (u5_10 : Sq Int) (u5_7 : Sq SRoad) (u5_11 : Int) : Option (((Sq SRoad)) ⊕ (Unit)) := balance_junctionOf_l5_m.val ((u5_1, u5_2, u5_3, u5_4, u5_5, u5_6, u5_8, u5_9, u5_10), (u5_7, u5_11))
theorem balance_junctionOf_l5_eq (u5_1 : Sq SPlace) (u5_2 : Sq SRoad) (u5_3 : Sq SFan) (u5_4 : Sq SDoor) (u5_5 u5_6 u5_8 : Sq Int) (u5_9 : Int) (u5_10 : Sq Int) (u5_7 : Sq SRoad) (u5_11 : Int) : balance_junctionOf_l5 u5_1 u5_2 u5_3 u5_4 u5_5 u5_6 u5_8 u5_9 u5_10 u5_7 u5_11 = fixO (fun v : (Sq SRoad) × Int => balance_junctionOf_l5_step u5_1 u5_2 u5_3 u5_4 u5_5 u5_6 u5_8 u5_9 u5_10 v.1 v.2) (u5_7, u5_11) := balance_junctionOf_l5_m.val_eq (fun x => ((sqD SPlace.dec (cellS x 0 0), sqD SRoad.dec (cellS x 0 1), sqD SFan.dec (cellS x 0 2), sqD SDoor.dec (cellS x 0 3), sqD dI (cellS x 64 0), sqD dI (cellS x 64 1), sqD dI (cellS x 384 6), intA (cellS x 384 7), sqB dI (blkS x 1280)), (sqB SRoad.dec (blkS x 321), intA (aget x.tm 35)))) (fun p => by kernel_rfl) ((u5_1, u5_2, u5_3, u5_4, u5_5, u5_6, u5_8, u5_9, u5_10), (u5_7, u5_11))
noncomputable def balance_junctionOf_l10_step (u10_0 : Sq SFan) (_u10_2 : Sq SPlace) (_u10_3 : Sq SRoad) (_u10_4 : Sq SDoor) (u10_5 _u10_6 : Sq Int) (_u10_7 : Sq SRoad) (_u10_10 : Sq Int) (_u10_11 : Int) (u10_12 : Sq Int) (u10_8 : Sq SFan) (u10_9 : Sq Int) (u10_13 : Int) : DT (LR ((Sq SFan) × (Sq Int) × Int) ((Sq SFan) × (Sq Int)) (Unit)) :=
 .ite (decide (u10_13 < ((u10_0.n : Nat) : Int))) (
 .ite (decide ((0 : Int) ≤ u10_13 ∧ u10_13 < ((u10_0.n : Nat) : Int))) (
 .bind (slices_Index u10_12 (u10_0.f (Int.toNat u10_13)).Road) fun z0 =>
 .ite (decide (z0 ≥ (0 : Int))) (
 .ite (decide ((u10_8.n + 1) * 40 ≤ 140737488355328 ∧ (u10_8.n + 1) ≤ 1099511627776)) (
 .ite (decide ((0 : Int) ≤ u10_13 ∧ u10_13 < ((u10_5.n : Nat) : Int))) (
 .ite (decide ((u10_9.n + 1) * 8 ≤ 140737488355328 ∧ (u10_9.n + 1) ≤ 1099511627776)) (
 .leaf (.next ((Sq.mk (u10_8.n + 1) (fun k1 => (SFan.mk (cond (Nat.blt k1 u10_8.n) (u10_8.f k1).Road z0) (cond (Nat.blt k1 u10_8.n) (u10_8.f k1).Back (u10_0.f (Int.toNat u10_13)).Back) (cond (Nat.blt k1 u10_8.n) (u10_8.f k1).Auxiliary (u10_0.f (Int.toNat u10_13)).Auxiliary) (Sq.mk (cond (Nat.blt k1 u10_8.n) (u10_8.f k1).Curve.n (u10_0.f (Int.toNat u10_13)).Curve.n) (fun k2 => (SPoint.mk (cond (Nat.blt k1 u10_8.n) ((u10_8.f k1).Curve.f k2).Flow ((u10_0.f (Int.toNat u10_13)).Curve.f k2).Flow) (cond (Nat.blt k1 u10_8.n) ((u10_8.f k1).Curve.f k2).Pressure ((u10_0.f (Int.toNat u10_13)).Curve.f k2).Pressure))))))), (Sq.mk (u10_9.n + 1) (fun k3 => (cond (Nat.blt k3 u10_9.n) (u10_9.f k3) (u10_5.f (Int.toNat u10_13))))), (wr (u10_13 + (1 : Int)))))) (
 .fail)) (
 .fail)) (
 .fail)) (
 .leaf (.next (u10_8, u10_9, (wr (u10_13 + (1 : Int))))))) (
 .fail)) (
 .leaf (.l (u10_8, u10_9)))
noncomputable def balance_junctionOf_l10_m : LpM := ⟨(Sq SFan) × (Sq SPlace) × (Sq SRoad) × (Sq SDoor) × (Sq Int) × (Sq Int) × (Sq SRoad) × (Sq Int) × Int × (Sq Int), (Sq SFan) × (Sq Int) × Int, (Sq SFan) × (Sq Int), Unit, fun p => ⟨[(4, .ptr 0 0), (5, .ptr 64 0), (9, .ptr 384 0), (10, .own 1280 0), (60, sqA 4 SFan.enc p.1.1), (61, .int .i64 ((p.1.1.n : Nat) : Int)), (62, .int .i64 p.2.2.2)], [(0, .var [sqA 2 SPlace.enc p.1.2.1, sqA 10 SRoad.enc p.1.2.2.1, sqA 4 SFan.enc p.1.1, sqA 3 SDoor.enc p.1.2.2.2.1]), (64, .var [sqA 1 (eI .i64) p.1.2.2.2.2.1, sqA 1 (eI .i64) p.1.2.2.2.2.2.1]), (321, rowA 0 10 60 SRoad.enc p.1.2.2.2.2.2.2.1), (322, rowA 0 4 83 SFan.enc p.2.1), (323, .nilrow 0), (324, rowA 0 1 3 (eI .i64) p.2.2.1), (325, .nilrow 0), (384, .var [sqA 2 SPlace.enc p.1.2.1, .own 321 0, .own 322 0, .own 323 0, .own 324 0, .own 325 0, sqA 1 (eI .i64) p.1.2.2.2.2.2.2.2.1, .int .i64 p.1.2.2.2.2.2.2.2.2.1]), (1280, rowA 0 1 3 (eI .i64) p.1.2.2.2.2.2.2.2.2.2)], 1856⟩, fun f v => balance_junctionOf_l10_step f.1 f.2.1 f.2.2.1 f.2.2.2.1 f.2.2.2.2.1 f.2.2.2.2.2.1 f.2.2.2.2.2.2.1 f.2.2.2.2.2.2.2.1 f.2.2.2.2.2.2.2.2.1 f.2.2.2.2.2.2.2.2.2 v.1 v.2.1 v.2.2, true, (.exit 2), (fun x a => ⟨[(4, .ptr 0 0), (5, .ptr 64 0), (9, .ptr 384 0), (10, .own 1280 0)], [(0, blkS x 0), (64, blkS x 64), (321, blkS x 321), (322, rowA 0 4 83 SFan.enc a.1), (323, .nilrow 0), (324, rowA 0 1 3 (eI .i64) a.2), (325, .nilrow 0), (384, blkS x 384), (1280, blkS x 1280)], 1856⟩), .ret, (fun _ _ => ⟨[], [], 0⟩)⟩
noncomputable def balance_junctionOf_l10 (u10_0 : Sq SFan) (u10_2 : Sq SPlace) (u10_3 : Sq SRoad) (u10_4 : Sq SDoor) (u10_5 u10_6 : Sq Int) (u10_7 : Sq SRoad) (u10_10 : Sq Int) (u10_11 : Int) (u10_12 : Sq Int) (u10_8 : Sq SFan) (u10_9 : Sq Int) (u10_13 : Int) : Option (((Sq SFan) × (Sq Int)) ⊕ (Unit)) := balance_junctionOf_l10_m.val ((u10_0, u10_2, u10_3, u10_4, u10_5, u10_6, u10_7, u10_10, u10_11, u10_12), (u10_8, u10_9, u10_13))
theorem balance_junctionOf_l10_eq (u10_0 : Sq SFan) (u10_2 : Sq SPlace) (u10_3 : Sq SRoad) (u10_4 : Sq SDoor) (u10_5 u10_6 : Sq Int) (u10_7 : Sq SRoad) (u10_10 : Sq Int) (u10_11 : Int) (u10_12 : Sq Int) (u10_8 : Sq SFan) (u10_9 : Sq Int) (u10_13 : Int) : balance_junctionOf_l10 u10_0 u10_2 u10_3 u10_4 u10_5 u10_6 u10_7 u10_10 u10_11 u10_12 u10_8 u10_9 u10_13 = fixO (fun v : (Sq SFan) × (Sq Int) × Int => balance_junctionOf_l10_step u10_0 u10_2 u10_3 u10_4 u10_5 u10_6 u10_7 u10_10 u10_11 u10_12 v.1 v.2.1 v.2.2) (u10_8, u10_9, u10_13) := balance_junctionOf_l10_m.val_eq (fun x => ((sqD SFan.dec (aget x.tm 60), sqD SPlace.dec (cellS x 0 0), sqD SRoad.dec (cellS x 0 1), sqD SDoor.dec (cellS x 0 3), sqD dI (cellS x 64 0), sqD dI (cellS x 64 1), sqB SRoad.dec (blkS x 321), sqD dI (cellS x 384 6), intA (cellS x 384 7), sqB dI (blkS x 1280)), (sqB SFan.dec (blkS x 322), sqB dI (blkS x 324), intA (aget x.tm 62)))) (fun p => by kernel_rfl) ((u10_0, u10_2, u10_3, u10_4, u10_5, u10_6, u10_7, u10_10, u10_11, u10_12), (u10_8, u10_9, u10_13))
noncomputable def balance_junctionOf_l18_step (u18_0 : Sq SDoor) (_u18_2 u18_3 : Sq Int) (_u18_4 : Sq SRoad) (_u18_5 : Sq SFan) (_u18_7 : Sq Int) (_u18_9 : Sq SPlace) (_u18_10 : Sq Int) (_u18_11 : Int) (u18_12 : Sq Int) (u18_6 : Sq SDoor) (u18_8 : Sq Int) (u18_13 : Int) : DT (LR ((Sq SDoor) × (Sq Int) × Int) ((Sq SDoor) × (Sq Int)) (Unit)) :=
 .ite (decide (u18_13 < ((u18_0.n : Nat) : Int))) (
 .ite (decide ((0 : Int) ≤ u18_13 ∧ u18_13 < ((u18_0.n : Nat) : Int))) (
 .bind (slices_Index u18_12 (u18_0.f (Int.toNat u18_13)).Road) fun z1 =>
 .ite (decide (z1 ≥ (0 : Int))) (
 .ite (decide ((u18_6.n + 1) * 40 ≤ 140737488355328 ∧ (u18_6.n + 1) ≤ 1099511627776)) (
 .ite (decide ((0 : Int) ≤ u18_13 ∧ u18_13 < ((u18_3.n : Nat) : Int))) (
 .ite (decide ((u18_8.n + 1) * 8 ≤ 140737488355328 ∧ (u18_8.n + 1) ≤ 1099511627776)) (
 .leaf (.next ((Sq.mk (u18_6.n + 1) (fun k4 => (SDoor.mk (cond (Nat.blt k4 u18_6.n) (u18_6.f k4).Road z1) (cond (Nat.blt k4 u18_6.n) (u18_6.f k4).Other (-1 : Int)) (Sq.mk (cond (Nat.blt k4 u18_6.n) (u18_6.f k4).Rests.n (u18_0.f (Int.toNat u18_13)).Rests.n) (fun k5 => (cond (Nat.blt k4 u18_6.n) ((u18_6.f k4).Rests.f k5) ((u18_0.f (Int.toNat u18_13)).Rests.f k5))))))), (Sq.mk (u18_8.n + 1) (fun k6 => (cond (Nat.blt k6 u18_8.n) (u18_8.f k6) (u18_3.f (Int.toNat u18_13))))), (wr (u18_13 + (1 : Int)))))) (
 .fail)) (
 .fail)) (
 .fail)) (
 .leaf (.next (u18_6, u18_8, (wr (u18_13 + (1 : Int))))))) (
 .fail)) (
 .leaf (.l (u18_6, u18_8)))
noncomputable def balance_junctionOf_l18_m : LpM := ⟨(Sq SDoor) × (Sq Int) × (Sq Int) × (Sq SRoad) × (Sq SFan) × (Sq Int) × (Sq SPlace) × (Sq Int) × Int × (Sq Int), (Sq SDoor) × (Sq Int) × Int, (Sq SDoor) × (Sq Int), Unit, fun p => ⟨[(5, .ptr 64 0), (9, .ptr 384 0), (10, .own 1280 0), (105, sqA 3 SDoor.enc p.1.1), (106, .int .i64 ((p.1.1.n : Nat) : Int)), (107, .int .i64 p.2.2.2)], [(64, .var [sqA 1 (eI .i64) p.1.2.1, sqA 1 (eI .i64) p.1.2.2.1]), (321, rowA 0 10 60 SRoad.enc p.1.2.2.2.1), (322, rowA 0 4 83 SFan.enc p.1.2.2.2.2.1), (323, rowA 0 3 72 SDoor.enc p.2.1), (324, rowA 0 1 3 (eI .i64) p.1.2.2.2.2.2.1), (325, rowA 0 1 3 (eI .i64) p.2.2.1), (384, .var [sqA 2 SPlace.enc p.1.2.2.2.2.2.2.1, .own 321 0, .own 322 0, .own 323 0, .own 324 0, .own 325 0, sqA 1 (eI .i64) p.1.2.2.2.2.2.2.2.1, .int .i64 p.1.2.2.2.2.2.2.2.2.1]), (1280, rowA 0 1 3 (eI .i64) p.1.2.2.2.2.2.2.2.2.2)], 2112⟩, fun f v => balance_junctionOf_l18_step f.1 f.2.1 f.2.2.1 f.2.2.2.1 f.2.2.2.2.1 f.2.2.2.2.2.1 f.2.2.2.2.2.2.1 f.2.2.2.2.2.2.2.1 f.2.2.2.2.2.2.2.2.1 f.2.2.2.2.2.2.2.2.2 v.1 v.2.1 v.2.2, true, (.exit 4), (fun x a => ⟨[(9, .ptr 384 0)], [(64, blkS x 64), (321, blkS x 321), (322, blkS x 322), (323, rowA 0 3 72 SDoor.enc a.1), (324, blkS x 324), (325, rowA 0 1 3 (eI .i64) a.2), (384, blkS x 384), (1280, blkS x 1280)], 2112⟩), .ret, (fun _ _ => ⟨[], [], 0⟩)⟩
noncomputable def balance_junctionOf_l18 (u18_0 : Sq SDoor) (u18_2 u18_3 : Sq Int) (u18_4 : Sq SRoad) (u18_5 : Sq SFan) (u18_7 : Sq Int) (u18_9 : Sq SPlace) (u18_10 : Sq Int) (u18_11 : Int) (u18_12 : Sq Int) (u18_6 : Sq SDoor) (u18_8 : Sq Int) (u18_13 : Int) : Option (((Sq SDoor) × (Sq Int)) ⊕ (Unit)) := balance_junctionOf_l18_m.val ((u18_0, u18_2, u18_3, u18_4, u18_5, u18_7, u18_9, u18_10, u18_11, u18_12), (u18_6, u18_8, u18_13))
theorem balance_junctionOf_l18_eq (u18_0 : Sq SDoor) (u18_2 u18_3 : Sq Int) (u18_4 : Sq SRoad) (u18_5 : Sq SFan) (u18_7 : Sq Int) (u18_9 : Sq SPlace) (u18_10 : Sq Int) (u18_11 : Int) (u18_12 : Sq Int) (u18_6 : Sq SDoor) (u18_8 : Sq Int) (u18_13 : Int) : balance_junctionOf_l18 u18_0 u18_2 u18_3 u18_4 u18_5 u18_7 u18_9 u18_10 u18_11 u18_12 u18_6 u18_8 u18_13 = fixO (fun v : (Sq SDoor) × (Sq Int) × Int => balance_junctionOf_l18_step u18_0 u18_2 u18_3 u18_4 u18_5 u18_7 u18_9 u18_10 u18_11 u18_12 v.1 v.2.1 v.2.2) (u18_6, u18_8, u18_13) := balance_junctionOf_l18_m.val_eq (fun x => ((sqD SDoor.dec (aget x.tm 105), sqD dI (cellS x 64 0), sqD dI (cellS x 64 1), sqB SRoad.dec (blkS x 321), sqB SFan.dec (blkS x 322), sqB dI (blkS x 324), sqD SPlace.dec (cellS x 384 0), sqD dI (cellS x 384 6), intA (cellS x 384 7), sqB dI (blkS x 1280)), (sqB SDoor.dec (blkS x 323), sqB dI (blkS x 325), intA (aget x.tm 107)))) (fun p => by kernel_rfl) ((u18_0, u18_2, u18_3, u18_4, u18_5, u18_7, u18_9, u18_10, u18_11, u18_12), (u18_6, u18_8, u18_13))
noncomputable def balance_junctionOf_t (a : SAir) (s : SSetting) (pressures : Sq Int) (place : Int) : DT (Sjunction) :=
 .bind (plan_Roads a.Mine place) fun z2 =>
 .sum (balance_junctionOf_l5 a.Mine.Places a.Mine.Roads a.Fans a.Doors s.Fans s.Doors pressures place z2 (Sq.mk 0 (fun _ => (SRoad.mk (0 : Int) (0 : Int) (0 : Int) (0 : Int) false false (SSpan.mk (0 : Int) (0 : Int)) (SSpan.mk (0 : Int) (0 : Int))))) (0 : Int)) (fun y0 =>
 .sum (balance_junctionOf_l10 a.Fans a.Mine.Places a.Mine.Roads a.Doors s.Fans s.Doors y0 pressures place z2 (Sq.mk 0 (fun _ => (SFan.mk (0 : Int) false false (Sq.mk 0 (fun _ => (SPoint.mk (0 : Int) (0 : Int))))))) (Sq.mk 0 (fun _ => (0 : Int))) (0 : Int)) (fun y1 =>
 .sum (balance_junctionOf_l18 a.Doors s.Fans s.Doors y0 y1.1 y1.2 a.Mine.Places pressures place z2 (Sq.mk 0 (fun _ => (SDoor.mk (0 : Int) (0 : Int) (Sq.mk 0 (fun _ => (0 : Int)))))) (Sq.mk 0 (fun _ => (0 : Int))) (0 : Int)) (fun y2 =>
 .leaf (Sjunction.mk (SAir.mk (SMine.mk a.Mine.Places y0) y1.1 y2.1) (SSetting.mk y1.2 y2.2) pressures place)) (fun _ => .fail)) (fun _ => .fail)) (fun _ => .fail)
noncomputable def balance_junctionOf_m : FnM := nfM (SAir × SSetting × (Sq Int) × Int) (Sjunction) (fun p => ([.agg (SAir.enc p.1), .agg (SSetting.enc p.2.1), sqA 1 (eI .i64) p.2.2.1, .int .i64 p.2.2.2], [])) (fun p => balance_junctionOf_t p.1 p.2.1 p.2.2.1 p.2.2.2) (fun _ => .ptr 0 0) (fun _ r => [.var [sqA 2 SPlace.enc r.air_.Mine.Places, .own 1 0, .own 2 0, .own 3 0, .own 4 0, .own 5 0, sqA 1 (eI .i64) r.pressures_, .int .i64 r.place_], rowA 0 10 60 SRoad.enc r.air_.Mine.Roads, rowA 0 4 83 SFan.enc r.air_.Fans, rowA 0 3 72 SDoor.enc r.air_.Doors, rowA 0 1 3 (eI .i64) r.setting_.Fans, rowA 0 1 3 (eI .i64) r.setting_.Doors])
noncomputable def balance_junctionOf_env : Env := envM [(46, plan_Roads_m.c), (47, slices_Index_m.c)] [(5, [4, 5, 9, 10, 33, 34, 35], [4, 5, 9, 10]), (10, [4, 5, 9, 10, 60, 61, 62], [4, 5, 9, 10]), (18, [5, 9, 10, 105, 106, 107], [9])] [(5, balance_junctionOf_l5_m.c), (10, balance_junctionOf_l10_m.c), (18, balance_junctionOf_l18_m.c)] [(1000005, [.asrow 321 60 10 (fun _ => SRoad.enc (SRoad.mk (0 : Int) (0 : Int) (0 : Int) (0 : Int) false false (SSpan.mk (0 : Int) (0 : Int)) (SSpan.mk (0 : Int) (0 : Int))))]), (1000010, [.asrow 322 83 4 (fun _ => SFan.enc (SFan.mk (0 : Int) false false (Sq.mk 0 (fun _ => (SPoint.mk (0 : Int) (0 : Int)))))), .asrow 324 3 1 (fun _ => (eI .i64) (0 : Int))]), (1000018, [.asrow 323 72 3 (fun _ => SDoor.enc (SDoor.mk (0 : Int) (0 : Int) (Sq.mk 0 (fun _ => (0 : Int))))), .asrow 325 3 1 (fun _ => (eI .i64) (0 : Int))])] [(5, [0, 64, 321, 322, 323, 324, 325, 384, 1280]), (10, [0, 64, 321, 322, 323, 324, 325, 384, 1280]), (18, [64, 321, 322, 323, 324, 325, 384, 1280])] 0
noncomputable def balance_junctionOf_e : Env := { balance_junctionOf_env with nt := 151 }
theorem balance_junctionOf_l5_tells : LoopTells balance_junctionOf_e (loopOf 5 Try.f30) balance_junctionOf_l5_m.c := balance_junctionOf_l5_m.tells 1600 (fun _ => by kernel_rfl) (fun _ _ _ _ => by kernel_rfl) (fun _ _ _ _ => by kernel_rfl) fun R f v N K => by kernel_rfl
theorem balance_junctionOf_l10_tells : LoopTells balance_junctionOf_e (loopOf 10 Try.f30) balance_junctionOf_l10_m.c := balance_junctionOf_l10_m.tells 1856 (fun _ => by kernel_rfl) (fun _ _ _ _ => by kernel_rfl) (fun _ _ _ _ => by kernel_rfl) fun R f v N K => by kernel_rfl
theorem balance_junctionOf_l18_tells : LoopTells balance_junctionOf_e (loopOf 18 Try.f30) balance_junctionOf_l18_m.c := balance_junctionOf_l18_m.tells 2112 (fun _ => by kernel_rfl) (fun _ _ _ _ => by kernel_rfl) (fun _ _ _ _ => by kernel_rfl) fun R f v N K => by kernel_rfl
theorem balance_junctionOf_tells : Tells Try.prog 30 balance_junctionOf_m.c := balance_junctionOf_m.tells Try.func30 (show ∀ p, arun balance_junctionOf_env Try.f30 (balance_junctionOf_m.enc p).1 (balance_junctionOf_m.enc p).2 = _ from fun p => by kernel_rfl) (loopsL [loopOf 5 Try.f30, loopOf 10 Try.f30, loopOf 18 Try.f30] (by kernel_rfl) ⟨lpT (by kernel_rfl) balance_junctionOf_l5_tells, ⟨lpT (by kernel_rfl) balance_junctionOf_l10_tells, ⟨lpT (by kernel_rfl) balance_junctionOf_l18_tells, trivial⟩⟩⟩) (.cons plan_Roads_tells (.cons slices_Index_tells .nil))
noncomputable def balance_junctionOf (a : SAir) (s : SSetting) (pressures : Sq Int) (place : Int) : Option (Sjunction) := balance_junctionOf_m.val (a, s, pressures, place)
theorem balance_junctionOf_eq (a : SAir) (s : SSetting) (pressures : Sq Int) (place : Int) : balance_junctionOf a s pressures place = (balance_junctionOf_t a s pressures place).get := balance_junctionOf_m.val_eq (fun x => (SAir.dec (aggL (gd x.1 0)), SSetting.dec (aggL (gd x.1 1)), sqD dI (gd x.1 2), intA (gd x.1 3))) (fun p => by kernel_rfl) (a, s, pressures, place)

/-! minecontrol/plan.hasRoad -/
noncomputable def plan_hasRoad_t (m : SMine) (road : Int) : DT (Bool) :=
 .bind (plan_within road (0 : Int) (wr (((m.Roads.n : Nat) : Int) - (1 : Int)))) fun z0 =>
 .leaf z0
noncomputable def plan_hasRoad_m : FnM := flM (SMine × Int) (Bool) (fun p => ([.agg (SMine.enc p.1), .int .i64 p.2], [])) (fun p => plan_hasRoad_t p.1 p.2) (fun r => .bool r) (fun _ => rfl)
noncomputable def plan_hasRoad_env : Env := envM [(77, plan_within_m.c)] [] [] [] [] 0
theorem plan_hasRoad_tells : Tells Try.prog 66 plan_hasRoad_m.c := plan_hasRoad_m.tells Try.func66 (show ∀ p, arun plan_hasRoad_env Try.f66 (plan_hasRoad_m.enc p).1 (plan_hasRoad_m.enc p).2 = _ from fun p => by kernel_rfl) noLoops (.cons plan_within_tells .nil)
noncomputable def plan_hasRoad (m : SMine) (road : Int) : Option (Bool) := plan_hasRoad_m.val (m, road)
theorem plan_hasRoad_eq (m : SMine) (road : Int) : plan_hasRoad m road = (plan_hasRoad_t m road).get := plan_hasRoad_m.val_eq (fun x => (SMine.dec (aggL (gd x.1 0)), intA (gd x.1 1))) (fun p => by kernel_rfl) (m, road)

/-! minecontrol/plan.Other -/
noncomputable def plan_Other_t (m : SMine) (road place : Int) : DT (Int) :=
 .bind (plan_hasRoad m road) fun z0 =>
 .ite (!z0) (
 .leaf (-1 : Int)) (
 .ite (decide ((0 : Int) ≤ road ∧ road < ((m.Roads.n : Nat) : Int))) (
 .ite (place == (m.Roads.f (Int.toNat road)).From) (
 .leaf (m.Roads.f (Int.toNat road)).To) (
 .ite (place == (m.Roads.f (Int.toNat road)).To) (.leaf (m.Roads.f (Int.toNat road)).From) (.leaf (-1 : Int)))) (
 .fail))
noncomputable def plan_Other_m : FnM := flM (SMine × Int × Int) (Int) (fun p => ([.agg (SMine.enc p.1), .int .i64 p.2.1, .int .i64 p.2.2], [])) (fun p => plan_Other_t p.1 p.2.1 p.2.2) (fun r => .int .i64 r) (fun _ => rfl)
noncomputable def plan_Other_env : Env := envM [(66, plan_hasRoad_m.c)] [] [] [] [] 0
theorem plan_Other_tells : Tells Try.prog 57 plan_Other_m.c := plan_Other_m.tells Try.func57 (show ∀ p, arun plan_Other_env Try.f57 (plan_Other_m.enc p).1 (plan_Other_m.enc p).2 = _ from fun p => by kernel_rfl) noLoops (.cons plan_hasRoad_tells .nil)
noncomputable def plan_Other (m : SMine) (road place : Int) : Option (Int) := plan_Other_m.val (m, road, place)
theorem plan_Other_eq (m : SMine) (road place : Int) : plan_Other m road place = (plan_Other_t m road place).get := plan_Other_m.val_eq (fun x => (SMine.dec (aggL (gd x.1 0)), intA (gd x.1 1), intA (gd x.1 2))) (fun p => by kernel_rfl) (m, road, place)

/-! minecontrol/door.Rest -/
noncomputable def door_Rest_t (d : SDoor) (state : Int) : DT (SSpan) :=
 .bind (door_has ((d.Rests.n : Nat) : Int) state) fun z0 =>
 .ite z0 (
 .ite (decide ((0 : Int) ≤ state ∧ state < ((d.Rests.n : Nat) : Int))) (
 .ite (decide ((0 : Int) ≤ state ∧ state < ((d.Rests.n : Nat) : Int))) (.leaf (SSpan.mk (d.Rests.f (Int.toNat state)) (d.Rests.f (Int.toNat state)))) (.fail)) (
 .fail)) (
 .ite (state == (-1 : Int)) (
 .ite (decide (((d.Rests.n : Nat) : Int) > (0 : Int))) (
 .bind (slices_Min d.Rests) fun z1 =>
 .bind (slices_Max d.Rests) fun z2 =>
 .leaf (SSpan.mk z1 z2)) (
 .leaf (SSpan.mk (0 : Int) (0 : Int)))) (
 .leaf (SSpan.mk (0 : Int) (0 : Int))))
noncomputable def door_Rest_m : FnM := flM (SDoor × Int) (SSpan) (fun p => ([.agg (SDoor.enc p.1), .int .i64 p.2], [])) (fun p => door_Rest_t p.1 p.2) (fun r => .agg (SSpan.enc r)) (fun _ => rfl)
noncomputable def door_Rest_env : Env := envM [(99, door_has_m.c), (100, slices_Min_m.c), (101, slices_Max_m.c)] [] [] [] [] 0
theorem door_Rest_tells : Tells Try.prog 93 door_Rest_m.c := door_Rest_m.tells Try.func93 (show ∀ p, arun door_Rest_env Try.f93 (door_Rest_m.enc p).1 (door_Rest_m.enc p).2 = _ from fun p => by kernel_rfl) noLoops (.cons door_has_tells (.cons slices_Min_tells (.cons slices_Max_tells .nil)))
noncomputable def door_Rest (d : SDoor) (state : Int) : Option (SSpan) := door_Rest_m.val (d, state)
theorem door_Rest_eq (d : SDoor) (state : Int) : door_Rest d state = (door_Rest_t d state).get := door_Rest_m.val_eq (fun x => (SDoor.dec (aggL (gd x.1 0)), intA (gd x.1 1))) (fun p => by kernel_rfl) (d, state)

/-! minecontrol/branch.plus -/
noncomputable def branch_plus_t (s t : SSpan) : DT (SSpan) :=
 .leaf (SSpan.mk (wr (s.Low + t.Low)) (wr (s.High + t.High)))
noncomputable def branch_plus_m : FnM := flM (SSpan × SSpan) (SSpan) (fun p => ([.agg (SSpan.enc p.1), .agg (SSpan.enc p.2)], [])) (fun p => branch_plus_t p.1 p.2) (fun r => .agg (SSpan.enc r)) (fun _ => rfl)
noncomputable def branch_plus_env : Env := envM [] [] [] [] [] 0
theorem branch_plus_tells : Tells Try.prog 92 branch_plus_m.c := branch_plus_m.tells Try.func92 (show ∀ p, arun branch_plus_env Try.f92 (branch_plus_m.enc p).1 (branch_plus_m.enc p).2 = _ from fun p => by kernel_rfl) noLoops .nil
noncomputable def branch_plus (s t : SSpan) : Option (SSpan) := branch_plus_m.val (s, t)
theorem branch_plus_eq (s t : SSpan) : branch_plus s t = (branch_plus_t s t).get := branch_plus_m.val_eq (fun x => (SSpan.dec (aggL (gd x.1 0)), SSpan.dec (aggL (gd x.1 1)))) (fun p => by kernel_rfl) (s, t)

/-! minecontrol/branch.airwayOf -/
noncomputable def branch_airwayOf_l3_step (u3_0 : Int) (u3_1 : Sq SDoor) (_u3_3 : Sq SPlace) (_u3_4 : Sq SRoad) (_u3_5 : Sq SFan) (_u3_6 u3_7 : Sq Int) (_u3_8 _u3_9 _u3_10 _u3_11 : Int) (_u3_12 _u3_13 : Bool) (_u3_16 _u3_17 u3_14 u3_15 u3_18 : Int) : DT (LR (Int × Int × Int) (Int × Int) (Unit)) :=
 .ite (decide (u3_18 < ((u3_1.n : Nat) : Int))) (
 .ite (decide ((0 : Int) ≤ u3_18 ∧ u3_18 < ((u3_1.n : Nat) : Int))) (
 .ite ((u3_1.f (Int.toNat u3_18)).Road == u3_0) (
 .ite (decide ((0 : Int) ≤ u3_18 ∧ u3_18 < ((u3_7.n : Nat) : Int))) (
 .bind (door_Rest (u3_1.f (Int.toNat u3_18)) (u3_7.f (Int.toNat u3_18))) fun z0 =>
 .bind (branch_plus (SSpan.mk u3_14 u3_15) z0) fun z1 =>
 .leaf (.next (z1.Low, z1.High, (wr (u3_18 + (1 : Int)))))) (
 .fail)) (
 .leaf (.next (u3_14, u3_15, (wr (u3_18 + (1 : Int))))))) (
 .fail)) (
 .leaf (.l (u3_14, u3_15)))
noncomputable def branch_airwayOf_l3_m : LpM := ⟨Int × (Sq SDoor) × (Sq SPlace) × (Sq SRoad) × (Sq SFan) × (Sq Int) × (Sq Int) × Int × Int × Int × Int × Bool × Bool × Int × Int, Int × Int × Int, Int × Int, Unit, fun p => ⟨[(2, .int .i64 p.1.1), (3, .ptr 0 0), (4, .ptr 64 0), (6, .ptr 128 0), (7, .ptr 640 0), (20, sqA 3 SDoor.enc p.1.2.1), (21, .int .i64 ((p.1.2.1.n : Nat) : Int)), (22, .int .i64 p.2.2.2)], [(0, .var [sqA 2 SPlace.enc p.1.2.2.1, sqA 10 SRoad.enc p.1.2.2.2.1, sqA 4 SFan.enc p.1.2.2.2.2.1, sqA 3 SDoor.enc p.1.2.1]), (64, .var [sqA 1 (eI .i64) p.1.2.2.2.2.2.1, sqA 1 (eI .i64) p.1.2.2.2.2.2.2.1]), (128, .var [.int .i64 (0 : Int), .int .i64 (0 : Int), .int .i64 (0 : Int), .int .i64 (0 : Int), .bool false, .bool false, .int .i64 (0 : Int), .int .i64 (0 : Int), .int .i64 (0 : Int), .int .i64 (0 : Int), .own 129 0]), (129, .nilrow 0), (576, .nilrow 0), (640, .var [.int .i64 p.1.2.2.2.2.2.2.2.1, .int .i64 p.1.2.2.2.2.2.2.2.2.1, .int .i64 p.1.2.2.2.2.2.2.2.2.2.1, .int .i64 p.1.2.2.2.2.2.2.2.2.2.2.1, .bool p.1.2.2.2.2.2.2.2.2.2.2.2.1, .bool p.1.2.2.2.2.2.2.2.2.2.2.2.2.1, .int .i64 p.2.1, .int .i64 p.2.2.1, .int .i64 p.1.2.2.2.2.2.2.2.2.2.2.2.2.2.1, .int .i64 p.1.2.2.2.2.2.2.2.2.2.2.2.2.2.2, .own 576 0])], 1024⟩, fun f v => branch_airwayOf_l3_step f.1 f.2.1 f.2.2.1 f.2.2.2.1 f.2.2.2.2.1 f.2.2.2.2.2.1 f.2.2.2.2.2.2.1 f.2.2.2.2.2.2.2.1 f.2.2.2.2.2.2.2.2.1 f.2.2.2.2.2.2.2.2.2.1 f.2.2.2.2.2.2.2.2.2.2.1 f.2.2.2.2.2.2.2.2.2.2.2.1 f.2.2.2.2.2.2.2.2.2.2.2.2.1 f.2.2.2.2.2.2.2.2.2.2.2.2.2.1 f.2.2.2.2.2.2.2.2.2.2.2.2.2.2 v.1 v.2.1 v.2.2, true, (.exit 0), (fun x a => ⟨[(2, aget x.tm 2), (3, .ptr 0 0), (4, .ptr 64 0), (6, .ptr 128 0), (7, .ptr 640 0)], [(0, blkS x 0), (64, blkS x 64), (128, .var [.int .i64 (0 : Int), .int .i64 (0 : Int), .int .i64 (0 : Int), .int .i64 (0 : Int), .bool false, .bool false, .int .i64 (0 : Int), .int .i64 (0 : Int), .int .i64 (0 : Int), .int .i64 (0 : Int), .own 129 0]), (129, .nilrow 0), (576, .nilrow 0), (640, .var [cellS x 640 0, cellS x 640 1, cellS x 640 2, cellS x 640 3, cellS x 640 4, cellS x 640 5, .int .i64 a.1, .int .i64 a.2, cellS x 640 8, cellS x 640 9, .own 576 0])], 1024⟩), .ret, (fun _ _ => ⟨[], [], 0⟩)⟩
noncomputable def branch_airwayOf_l3 (u3_0 : Int) (u3_1 : Sq SDoor) (u3_3 : Sq SPlace) (u3_4 : Sq SRoad) (u3_5 : Sq SFan) (u3_6 u3_7 : Sq Int) (u3_8 u3_9 u3_10 u3_11 : Int) (u3_12 u3_13 : Bool) (u3_16 u3_17 u3_14 u3_15 u3_18 : Int) : Option ((Int × Int) ⊕ (Unit)) := branch_airwayOf_l3_m.val ((u3_0, u3_1, u3_3, u3_4, u3_5, u3_6, u3_7, u3_8, u3_9, u3_10, u3_11, u3_12, u3_13, u3_16, u3_17), (u3_14, u3_15, u3_18))
theorem branch_airwayOf_l3_eq (u3_0 : Int) (u3_1 : Sq SDoor) (u3_3 : Sq SPlace) (u3_4 : Sq SRoad) (u3_5 : Sq SFan) (u3_6 u3_7 : Sq Int) (u3_8 u3_9 u3_10 u3_11 : Int) (u3_12 u3_13 : Bool) (u3_16 u3_17 u3_14 u3_15 u3_18 : Int) : branch_airwayOf_l3 u3_0 u3_1 u3_3 u3_4 u3_5 u3_6 u3_7 u3_8 u3_9 u3_10 u3_11 u3_12 u3_13 u3_16 u3_17 u3_14 u3_15 u3_18 = fixO (fun v : Int × Int × Int => branch_airwayOf_l3_step u3_0 u3_1 u3_3 u3_4 u3_5 u3_6 u3_7 u3_8 u3_9 u3_10 u3_11 u3_12 u3_13 u3_16 u3_17 v.1 v.2.1 v.2.2) (u3_14, u3_15, u3_18) := branch_airwayOf_l3_m.val_eq (fun x => ((intA (aget x.tm 2), sqD SDoor.dec (aget x.tm 20), sqD SPlace.dec (cellS x 0 0), sqD SRoad.dec (cellS x 0 1), sqD SFan.dec (cellS x 0 2), sqD dI (cellS x 64 0), sqD dI (cellS x 64 1), intA (cellS x 640 0), intA (cellS x 640 1), intA (cellS x 640 2), intA (cellS x 640 3), boolA (cellS x 640 4), boolA (cellS x 640 5), intA (cellS x 640 8), intA (cellS x 640 9)), (intA (cellS x 640 6), intA (cellS x 640 7), intA (aget x.tm 22)))) (fun p => by kernel_rfl) ((u3_0, u3_1, u3_3, u3_4, u3_5, u3_6, u3_7, u3_8, u3_9, u3_10, u3_11, u3_12, u3_13, u3_16, u3_17), (u3_14, u3_15, u3_18))
noncomputable def branch_airwayOf_l9_step (u9_0 : Int) (u9_1 : Sq SFan) (u9_3 _u9_4 : Sq Int) (_u9_6 _u9_7 _u9_8 _u9_9 : Int) (_u9_10 _u9_11 : Bool) (_u9_12 _u9_13 _u9_14 _u9_15 : Int) (u9_5 : Sq Sblower) (u9_16 : Int) : DT (LR ((Sq Sblower) × Int) ((Sq Sblower)) (Unit)) :=
 .ite (decide (u9_16 < ((u9_1.n : Nat) : Int))) (
 .ite (decide ((0 : Int) ≤ u9_16 ∧ u9_16 < ((u9_1.n : Nat) : Int))) (
 .ite ((u9_1.f (Int.toNat u9_16)).Road == u9_0) (
 .ite (decide ((0 : Int) ≤ u9_16 ∧ u9_16 < ((u9_3.n : Nat) : Int))) (
 .ite (decide ((u9_5.n + 1) * 48 ≤ 140737488355328 ∧ (u9_5.n + 1) ≤ 1099511627776)) (
 .leaf (.next ((Sq.mk (u9_5.n + 1) (fun k0 => (Sblower.mk (SFan.mk (cond (Nat.blt k0 u9_5.n) (u9_5.f k0).Fan.Road (u9_1.f (Int.toNat u9_16)).Road) (cond (Nat.blt k0 u9_5.n) (u9_5.f k0).Fan.Back (u9_1.f (Int.toNat u9_16)).Back) (cond (Nat.blt k0 u9_5.n) (u9_5.f k0).Fan.Auxiliary (u9_1.f (Int.toNat u9_16)).Auxiliary) (Sq.mk (cond (Nat.blt k0 u9_5.n) (u9_5.f k0).Fan.Curve.n (u9_1.f (Int.toNat u9_16)).Curve.n) (fun k1 => (SPoint.mk (cond (Nat.blt k0 u9_5.n) ((u9_5.f k0).Fan.Curve.f k1).Flow ((u9_1.f (Int.toNat u9_16)).Curve.f k1).Flow) (cond (Nat.blt k0 u9_5.n) ((u9_5.f k0).Fan.Curve.f k1).Pressure ((u9_1.f (Int.toNat u9_16)).Curve.f k1).Pressure))))) (cond (Nat.blt k0 u9_5.n) (u9_5.f k0).state_ (u9_3.f (Int.toNat u9_16)))))), (wr (u9_16 + (1 : Int)))))) (
 .fail)) (
 .fail)) (
 .leaf (.next (u9_5, (wr (u9_16 + (1 : Int))))))) (
 .fail)) (
 .leaf (.l u9_5))
noncomputable def branch_airwayOf_l9_m : LpM := ⟨Int × (Sq SFan) × (Sq Int) × (Sq Int) × Int × Int × Int × Int × Bool × Bool × Int × Int × Int × Int, (Sq Sblower) × Int, (Sq Sblower), Unit, fun p => ⟨[(2, .int .i64 p.1.1), (4, .ptr 64 0), (6, .ptr 128 0), (7, .ptr 640 0), (46, sqA 4 SFan.enc p.1.2.1), (47, .int .i64 ((p.1.2.1.n : Nat) : Int)), (48, .int .i64 p.2.2)], [(64, .var [sqA 1 (eI .i64) p.1.2.2.1, sqA 1 (eI .i64) p.1.2.2.2.1]), (128, .var [.int .i64 (0 : Int), .int .i64 (0 : Int), .int .i64 (0 : Int), .int .i64 (0 : Int), .bool false, .bool false, .int .i64 (0 : Int), .int .i64 (0 : Int), .int .i64 (0 : Int), .int .i64 (0 : Int), .own 129 0]), (129, .nilrow 0), (576, rowA 0 5 122 Sblower.enc p.2.1), (640, .var [.int .i64 p.1.2.2.2.2.1, .int .i64 p.1.2.2.2.2.2.1, .int .i64 p.1.2.2.2.2.2.2.1, .int .i64 p.1.2.2.2.2.2.2.2.1, .bool p.1.2.2.2.2.2.2.2.2.1, .bool p.1.2.2.2.2.2.2.2.2.2.1, .int .i64 p.1.2.2.2.2.2.2.2.2.2.2.1, .int .i64 p.1.2.2.2.2.2.2.2.2.2.2.2.1, .int .i64 p.1.2.2.2.2.2.2.2.2.2.2.2.2.1, .int .i64 p.1.2.2.2.2.2.2.2.2.2.2.2.2.2, .own 576 0])], 1280⟩, fun f v => branch_airwayOf_l9_step f.1 f.2.1 f.2.2.1 f.2.2.2.1 f.2.2.2.2.1 f.2.2.2.2.2.1 f.2.2.2.2.2.2.1 f.2.2.2.2.2.2.2.1 f.2.2.2.2.2.2.2.2.1 f.2.2.2.2.2.2.2.2.2.1 f.2.2.2.2.2.2.2.2.2.2.1 f.2.2.2.2.2.2.2.2.2.2.2.1 f.2.2.2.2.2.2.2.2.2.2.2.2.1 f.2.2.2.2.2.2.2.2.2.2.2.2.2 v.1 v.2, true, (.exit 2), (fun x a => ⟨[(6, .ptr 128 0), (7, .ptr 640 0)], [(64, blkS x 64), (128, .var [.int .i64 (0 : Int), .int .i64 (0 : Int), .int .i64 (0 : Int), .int .i64 (0 : Int), .bool false, .bool false, .int .i64 (0 : Int), .int .i64 (0 : Int), .int .i64 (0 : Int), .int .i64 (0 : Int), .own 129 0]), (129, .nilrow 0), (576, rowA 0 5 122 Sblower.enc a), (640, blkS x 640)], 1280⟩), .ret, (fun _ _ => ⟨[], [], 0⟩)⟩
noncomputable def branch_airwayOf_l9 (u9_0 : Int) (u9_1 : Sq SFan) (u9_3 u9_4 : Sq Int) (u9_6 u9_7 u9_8 u9_9 : Int) (u9_10 u9_11 : Bool) (u9_12 u9_13 u9_14 u9_15 : Int) (u9_5 : Sq Sblower) (u9_16 : Int) : Option (((Sq Sblower)) ⊕ (Unit)) := branch_airwayOf_l9_m.val ((u9_0, u9_1, u9_3, u9_4, u9_6, u9_7, u9_8, u9_9, u9_10, u9_11, u9_12, u9_13, u9_14, u9_15), (u9_5, u9_16))
theorem branch_airwayOf_l9_eq (u9_0 : Int) (u9_1 : Sq SFan) (u9_3 u9_4 : Sq Int) (u9_6 u9_7 u9_8 u9_9 : Int) (u9_10 u9_11 : Bool) (u9_12 u9_13 u9_14 u9_15 : Int) (u9_5 : Sq Sblower) (u9_16 : Int) : branch_airwayOf_l9 u9_0 u9_1 u9_3 u9_4 u9_6 u9_7 u9_8 u9_9 u9_10 u9_11 u9_12 u9_13 u9_14 u9_15 u9_5 u9_16 = fixO (fun v : (Sq Sblower) × Int => branch_airwayOf_l9_step u9_0 u9_1 u9_3 u9_4 u9_6 u9_7 u9_8 u9_9 u9_10 u9_11 u9_12 u9_13 u9_14 u9_15 v.1 v.2) (u9_5, u9_16) := branch_airwayOf_l9_m.val_eq (fun x => ((intA (aget x.tm 2), sqD SFan.dec (aget x.tm 46), sqD dI (cellS x 64 0), sqD dI (cellS x 64 1), intA (cellS x 640 0), intA (cellS x 640 1), intA (cellS x 640 2), intA (cellS x 640 3), boolA (cellS x 640 4), boolA (cellS x 640 5), intA (cellS x 640 6), intA (cellS x 640 7), intA (cellS x 640 8), intA (cellS x 640 9)), (sqB Sblower.dec (blkS x 576), intA (aget x.tm 48)))) (fun p => by kernel_rfl) ((u9_0, u9_1, u9_3, u9_4, u9_6, u9_7, u9_8, u9_9, u9_10, u9_11, u9_12, u9_13, u9_14, u9_15), (u9_5, u9_16))
noncomputable def branch_airwayOf_t (a : SAir) (s : SSetting) (road : Int) : DT (Sairway) :=
 .ite (decide ((0 : Int) ≤ road ∧ road < ((a.Mine.Roads.n : Nat) : Int))) (
 .sum (branch_airwayOf_l3 road a.Doors a.Mine.Places a.Mine.Roads a.Fans s.Fans s.Doors (a.Mine.Roads.f (Int.toNat road)).From (a.Mine.Roads.f (Int.toNat road)).To (a.Mine.Roads.f (Int.toNat road)).Length (a.Mine.Roads.f (Int.toNat road)).Area (a.Mine.Roads.f (Int.toNat road)).Walk (a.Mine.Roads.f (Int.toNat road)).Closed (a.Mine.Roads.f (Int.toNat road)).Lift.Low (a.Mine.Roads.f (Int.toNat road)).Lift.High (a.Mine.Roads.f (Int.toNat road)).Rest.Low (a.Mine.Roads.f (Int.toNat road)).Rest.High (0 : Int)) (fun y0 =>
 .sum (branch_airwayOf_l9 road a.Fans s.Fans s.Doors (a.Mine.Roads.f (Int.toNat road)).From (a.Mine.Roads.f (Int.toNat road)).To (a.Mine.Roads.f (Int.toNat road)).Length (a.Mine.Roads.f (Int.toNat road)).Area (a.Mine.Roads.f (Int.toNat road)).Walk (a.Mine.Roads.f (Int.toNat road)).Closed y0.1 y0.2 (a.Mine.Roads.f (Int.toNat road)).Lift.Low (a.Mine.Roads.f (Int.toNat road)).Lift.High (Sq.mk 0 (fun _ => (Sblower.mk (SFan.mk (0 : Int) false false (Sq.mk 0 (fun _ => (SPoint.mk (0 : Int) (0 : Int))))) (0 : Int)))) (0 : Int)) (fun y1 =>
 .leaf (Sairway.mk (SRoad.mk (a.Mine.Roads.f (Int.toNat road)).From (a.Mine.Roads.f (Int.toNat road)).To (a.Mine.Roads.f (Int.toNat road)).Length (a.Mine.Roads.f (Int.toNat road)).Area (a.Mine.Roads.f (Int.toNat road)).Walk (a.Mine.Roads.f (Int.toNat road)).Closed (SSpan.mk y0.1 y0.2) (a.Mine.Roads.f (Int.toNat road)).Lift) y1)) (fun _ => .fail)) (fun _ => .fail)) (
 .fail)
noncomputable def branch_airwayOf_m : FnM := nfM (SAir × SSetting × Int) (Sairway) (fun p => ([.agg (SAir.enc p.1), .agg (SSetting.enc p.2.1), .int .i64 p.2.2], [])) (fun p => branch_airwayOf_t p.1 p.2.1 p.2.2) (fun r => .agg [.int .i64 r.Road.From, .int .i64 r.Road.To, .int .i64 r.Road.Length, .int .i64 r.Road.Area, .bool r.Road.Walk, .bool r.Road.Closed, .int .i64 r.Road.Rest.Low, .int .i64 r.Road.Rest.High, .int .i64 r.Road.Lift.Low, .int .i64 r.Road.Lift.High, .own 0 0]) (fun _ r => [rowA 0 5 122 Sblower.enc r.blowers_])
noncomputable def branch_airwayOf_env : Env := envM [(93, door_Rest_m.c), (92, branch_plus_m.c)] [(3, [2, 3, 4, 6, 7, 20, 21, 22], [2, 3, 4, 6, 7]), (9, [2, 4, 6, 7, 46, 47, 48], [6, 7])] [(3, branch_airwayOf_l3_m.c), (9, branch_airwayOf_l9_m.c)] [(1000009, [.asrow 576 122 5 (fun _ => Sblower.enc (Sblower.mk (SFan.mk (0 : Int) false false (Sq.mk 0 (fun _ => (SPoint.mk (0 : Int) (0 : Int))))) (0 : Int)))])] [(3, [0, 64, 128, 129, 576, 640]), (9, [64, 128, 129, 576, 640])] 0
noncomputable def branch_airwayOf_e : Env := { branch_airwayOf_env with nt := 71 }
theorem branch_airwayOf_l3_tells : LoopTells branch_airwayOf_e (loopOf 3 Try.f82) branch_airwayOf_l3_m.c := branch_airwayOf_l3_m.tells 1024 (fun _ => by kernel_rfl) (fun _ _ _ _ => by kernel_rfl) (fun _ _ _ _ => by kernel_rfl) fun R f v N K => by kernel_rfl
theorem branch_airwayOf_l9_tells : LoopTells branch_airwayOf_e (loopOf 9 Try.f82) branch_airwayOf_l9_m.c := branch_airwayOf_l9_m.tells 1280 (fun _ => by kernel_rfl) (fun _ _ _ _ => by kernel_rfl) (fun _ _ _ _ => by kernel_rfl) fun R f v N K => by kernel_rfl
theorem branch_airwayOf_tells : Tells Try.prog 82 branch_airwayOf_m.c := branch_airwayOf_m.tells Try.func82 (show ∀ p, arun branch_airwayOf_env Try.f82 (branch_airwayOf_m.enc p).1 (branch_airwayOf_m.enc p).2 = _ from fun p => by kernel_rfl) (loopsL [loopOf 3 Try.f82, loopOf 9 Try.f82] (by kernel_rfl) ⟨lpT (by kernel_rfl) branch_airwayOf_l3_tells, ⟨lpT (by kernel_rfl) branch_airwayOf_l9_tells, trivial⟩⟩) (.cons door_Rest_tells (.cons branch_plus_tells .nil))
noncomputable def branch_airwayOf (a : SAir) (s : SSetting) (road : Int) : Option (Sairway) := branch_airwayOf_m.val (a, s, road)
theorem branch_airwayOf_eq (a : SAir) (s : SSetting) (road : Int) : branch_airwayOf a s road = (branch_airwayOf_t a s road).get := branch_airwayOf_m.val_eq (fun x => (SAir.dec (aggL (gd x.1 0)), SSetting.dec (aggL (gd x.1 1)), intA (gd x.1 2))) (fun p => by kernel_rfl) (a, s, road)

/-! minecontrol/branch.open -/
noncomputable def branch_open_t (a : SAir) (s : SSetting) (road : Int) : DT (Sairway × Bool) :=
 .bind (branch_Right a s) fun z0 =>
 .ite (!z0) (
 .leaf ((Sairway.mk (SRoad.mk (0 : Int) (0 : Int) (0 : Int) (0 : Int) false false (SSpan.mk (0 : Int) (0 : Int)) (SSpan.mk (0 : Int) (0 : Int))) (Sq.mk 0 (fun _ => (Sblower.mk (SFan.mk (0 : Int) false false (Sq.mk 0 (fun _ => (SPoint.mk (0 : Int) (0 : Int))))) (0 : Int))))), false)) (
 .bind (branch_hasRoad a road) fun z1 =>
 .ite (!z1) (
 .leaf ((Sairway.mk (SRoad.mk (0 : Int) (0 : Int) (0 : Int) (0 : Int) false false (SSpan.mk (0 : Int) (0 : Int)) (SSpan.mk (0 : Int) (0 : Int))) (Sq.mk 0 (fun _ => (Sblower.mk (SFan.mk (0 : Int) false false (Sq.mk 0 (fun _ => (SPoint.mk (0 : Int) (0 : Int))))) (0 : Int))))), false)) (
 .ite (decide ((0 : Int) ≤ road ∧ road < ((a.Mine.Roads.n : Nat) : Int))) (
 .ite (a.Mine.Roads.f (Int.toNat road)).Closed (
 .leaf ((Sairway.mk (SRoad.mk (0 : Int) (0 : Int) (0 : Int) (0 : Int) false false (SSpan.mk (0 : Int) (0 : Int)) (SSpan.mk (0 : Int) (0 : Int))) (Sq.mk 0 (fun _ => (Sblower.mk (SFan.mk (0 : Int) false false (Sq.mk 0 (fun _ => (SPoint.mk (0 : Int) (0 : Int))))) (0 : Int))))), false)) (
 .bind (branch_airwayOf a s road) fun z2 =>
 .leaf (z2, true))) (
 .fail)))
noncomputable def branch_open_m : FnM := nfM (SAir × SSetting × Int) (Sairway × Bool) (fun p => ([.agg (SAir.enc p.1), .agg (SSetting.enc p.2.1), .int .i64 p.2.2], [])) (fun p => branch_open_t p.1 p.2.1 p.2.2) (fun r => .tup [.agg [.int .i64 r.1.Road.From, .int .i64 r.1.Road.To, .int .i64 r.1.Road.Length, .int .i64 r.1.Road.Area, .bool r.1.Road.Walk, .bool r.1.Road.Closed, .int .i64 r.1.Road.Rest.Low, .int .i64 r.1.Road.Rest.High, .int .i64 r.1.Road.Lift.Low, .int .i64 r.1.Road.Lift.High, .own 0 0], .bool r.2]) (fun _ r => [rowA 0 5 122 Sblower.enc r.1.blowers_])
noncomputable def branch_open_env : Env := envM [(44, branch_Right_m.c), (80, branch_hasRoad_m.c), (82, branch_airwayOf_m.c)] [] [] [(2000000, [.asrow 1472 122 5 (fun _ => Sblower.enc (Sblower.mk (SFan.mk (0 : Int) false false (Sq.mk 0 (fun _ => (SPoint.mk (0 : Int) (0 : Int))))) (0 : Int)))])] [] 0
theorem branch_open_tells : Tells Try.prog 67 branch_open_m.c := branch_open_m.tells Try.func67 (show ∀ p, arun branch_open_env Try.f67 (branch_open_m.enc p).1 (branch_open_m.enc p).2 = _ from fun p => by kernel_rfl) noLoops (.cons branch_Right_tells (.cons branch_hasRoad_tells (.cons branch_airwayOf_tells .nil)))
noncomputable def branch_open (a : SAir) (s : SSetting) (road : Int) : Option (Sairway × Bool) := branch_open_m.val (a, s, road)
theorem branch_open_eq (a : SAir) (s : SSetting) (road : Int) : branch_open a s road = (branch_open_t a s road).get := branch_open_m.val_eq (fun x => (SAir.dec (aggL (gd x.1 0)), SSetting.dec (aggL (gd x.1 1)), intA (gd x.1 2))) (fun p => by kernel_rfl) (a, s, road)

/-! minecontrol/branch.times -/
noncomputable def branch_times_t (s : SSpan) (n : Int) : DT (SSpan) :=
 .leaf (SSpan.mk (if (wr (s.High * n)) < (wr (s.Low * n)) then (wr (s.High * n)) else (wr (s.Low * n))) (if (wr (s.Low * n)) < (wr (s.High * n)) then (wr (s.High * n)) else (wr (s.Low * n))))
noncomputable def branch_times_m : FnM := flM (SSpan × Int) (SSpan) (fun p => ([.agg (SSpan.enc p.1), .int .i64 p.2], [])) (fun p => branch_times_t p.1 p.2) (fun r => .agg (SSpan.enc r)) (fun _ => rfl)
noncomputable def branch_times_env : Env := envM [] [] [] [] [] 0
theorem branch_times_tells : Tells Try.prog 85 branch_times_m.c := branch_times_m.tells Try.func85 (show ∀ p, arun branch_times_env Try.f85 (branch_times_m.enc p).1 (branch_times_m.enc p).2 = _ from fun p => by kernel_rfl) noLoops .nil
noncomputable def branch_times (s : SSpan) (n : Int) : Option (SSpan) := branch_times_m.val (s, n)
theorem branch_times_eq (s : SSpan) (n : Int) : branch_times s n = (branch_times_t s n).get := branch_times_m.val_eq (fun x => (SSpan.dec (aggL (gd x.1 0)), intA (gd x.1 1))) (fun p => by kernel_rfl) (s, n)

/-! minecontrol/branch.less -/
noncomputable def branch_less_t (s t : SSpan) : DT (SSpan) :=
 .leaf (SSpan.mk (wr (s.Low - t.High)) (wr (s.High - t.Low)))
noncomputable def branch_less_m : FnM := flM (SSpan × SSpan) (SSpan) (fun p => ([.agg (SSpan.enc p.1), .agg (SSpan.enc p.2)], [])) (fun p => branch_less_t p.1 p.2) (fun r => .agg (SSpan.enc r)) (fun _ => rfl)
noncomputable def branch_less_env : Env := envM [] [] [] [] [] 0
theorem branch_less_tells : Tells Try.prog 84 branch_less_m.c := branch_less_m.tells Try.func84 (show ∀ p, arun branch_less_env Try.f84 (branch_less_m.enc p).1 (branch_less_m.enc p).2 = _ from fun p => by kernel_rfl) noLoops .nil
noncomputable def branch_less (s t : SSpan) : Option (SSpan) := branch_less_m.val (s, t)
theorem branch_less_eq (s t : SSpan) : branch_less s t = (branch_less_t s t).get := branch_less_m.val_eq (fun x => (SSpan.dec (aggL (gd x.1 0)), SSpan.dec (aggL (gd x.1 1)))) (fun p => by kernel_rfl) (s, t)

/-! minecontrol/fan.pressure$1 -/
noncomputable def fan_pressure_1_t (p : SPoint) (x : Int) : DT (Bool) :=
 .leaf (decide (p.Flow ≥ x))
noncomputable def fan_pressure_1_m : FnM := nfM (SPoint × Int) (Bool) (fun p => ([.agg (SPoint.enc p.1), .ptr 0 0], [.var [.int .i64 p.2]])) (fun p => fan_pressure_1_t p.1 p.2) (fun r => .bool r) (fun ins _ => [dB ins 0])
noncomputable def fan_pressure_1_env : Env := envM [] [] [] [] [] 1
theorem fan_pressure_1_tells : Tells Try.prog 105 fan_pressure_1_m.c := fan_pressure_1_m.tells Try.func105 (show ∀ p, arun fan_pressure_1_env Try.f105 (fan_pressure_1_m.enc p).1 (fan_pressure_1_m.enc p).2 = _ from fun p => by kernel_rfl) noLoops .nil
noncomputable def fan_pressure_1 (p : SPoint) (x : Int) : Option (Bool) := fan_pressure_1_m.val (p, x)
theorem fan_pressure_1_eq (p : SPoint) (x : Int) : fan_pressure_1 p x = (fan_pressure_1_t p x).get := fan_pressure_1_m.val_eq (fun x => (SPoint.dec (aggL (gd x.1 0)), intA (gd (varL (dB x.2 0)) 0))) (fun p => by kernel_rfl) (p, x)

/-! slices.IndexFunc[[]minecontrol/api.Point,minecontrol/api.Point] -/
noncomputable def slices_IndexFunc_v2_l2_step (u2_0 : Sq SPoint) (u2_2 u2_3 : Int) : DT (LR (Int) (Unit) (Int)) :=
 .ite (decide (u2_3 < ((u2_0.n : Nat) : Int))) (
 .ite (decide ((0 : Int) ≤ u2_3 ∧ u2_3 < ((u2_0.n : Nat) : Int))) (
 .bind (fan_pressure_1 (u2_0.f (Int.toNat u2_3)) u2_2) fun z0 =>
 .ite z0 (
 .leaf (.r u2_3)) (
 .leaf (.next (wr (u2_3 + (1 : Int)))))) (
 .fail)) (
 .leaf (.l ()))
noncomputable def slices_IndexFunc_v2_l2_m : LpM := ⟨(Sq SPoint) × Int, Int, Unit, Int, fun p => ⟨[(0, sqA 2 SPoint.enc p.1.1), (1, .fn 105 [.ptr 0 0]), (7, .int .i64 ((p.1.1.n : Nat) : Int)), (8, .int .i64 p.2)], [(0, .var [.int .i64 p.1.2])], 257⟩, fun f v => slices_IndexFunc_v2_l2_step f.1 f.2 v, false, (.exit 0), (fun x _ => ⟨[(4, .undef)], [(0, blkS x 0)], 257⟩), .ret, (fun x a => ⟨[(4, .int .i64 a)], [(0, blkS x 0)], 257⟩)⟩
noncomputable def slices_IndexFunc_v2_l2 (u2_0 : Sq SPoint) (u2_2 u2_3 : Int) : Option ((Unit) ⊕ (Int)) := slices_IndexFunc_v2_l2_m.val ((u2_0, u2_2), u2_3)
theorem slices_IndexFunc_v2_l2_eq (u2_0 : Sq SPoint) (u2_2 u2_3 : Int) : slices_IndexFunc_v2_l2 u2_0 u2_2 u2_3 = fixO (fun v : Int => slices_IndexFunc_v2_l2_step u2_0 u2_2 v) u2_3 := slices_IndexFunc_v2_l2_m.val_eq (fun x => ((sqD SPoint.dec (aget x.tm 0), intA (cellS x 0 0)), intA (aget x.tm 8))) (fun p => by kernel_rfl) ((u2_0, u2_2), u2_3)
noncomputable def slices_IndexFunc_v2_t (s : Sq SPoint) (y0 : Int) : DT (Int) :=
 .sum (slices_IndexFunc_v2_l2 s y0 (0 : Int)) (fun _ =>
 .leaf (-1 : Int)) (fun y1 => .leaf y1)
noncomputable def slices_IndexFunc_v2_m : FnM := nfM ((Sq SPoint) × Int) (Int) (fun p => ([sqA 2 SPoint.enc p.1, .fn 105 [.ptr 0 0]], [.var [.int .i64 p.2]])) (fun p => slices_IndexFunc_v2_t p.1 p.2) (fun r => .int .i64 r) (fun ins _ => [dB ins 0])
noncomputable def slices_IndexFunc_v2_env : Env := envM [(105, fan_pressure_1_m.c)] [(2, [0, 1, 7, 8], [4])] [(2, slices_IndexFunc_v2_l2_m.c)] [] [(2, [0])] 1
noncomputable def slices_IndexFunc_v2_e : Env := { slices_IndexFunc_v2_env with nt := 19 }
theorem slices_IndexFunc_v2_l2_tells : LoopTells slices_IndexFunc_v2_e (loopOf 2 Try.f104) slices_IndexFunc_v2_l2_m.c := slices_IndexFunc_v2_l2_m.tells 257 (fun _ => by kernel_rfl) (fun _ _ _ _ => by kernel_rfl) (fun _ _ _ _ => by kernel_rfl) fun R f v N K => by kernel_rfl
theorem slices_IndexFunc_v2_tells : Tells Try.prog 104 slices_IndexFunc_v2_m.c := slices_IndexFunc_v2_m.tells Try.func104 (show ∀ p, arun slices_IndexFunc_v2_env Try.f104 (slices_IndexFunc_v2_m.enc p).1 (slices_IndexFunc_v2_m.enc p).2 = _ from fun p => by kernel_rfl) (loopsL [loopOf 2 Try.f104] (by kernel_rfl) ⟨lpT (by kernel_rfl) slices_IndexFunc_v2_l2_tells, trivial⟩) (.cons fan_pressure_1_tells .nil)
noncomputable def slices_IndexFunc_v2 (s : Sq SPoint) (y0 : Int) : Option (Int) := slices_IndexFunc_v2_m.val (s, y0)
theorem slices_IndexFunc_v2_eq (s : Sq SPoint) (y0 : Int) : slices_IndexFunc_v2 s y0 = (slices_IndexFunc_v2_t s y0).get := slices_IndexFunc_v2_m.val_eq (fun x => (sqD SPoint.dec (gd x.1 0), intA (gd (varL (dB x.2 0)) 0))) (fun p => by kernel_rfl) (s, y0)

/-! minecontrol/fan.exactly -/
noncomputable def fan_exactly_t (n : Int) : DT (SSpan) :=
 .leaf (SSpan.mk n n)
noncomputable def fan_exactly_m : FnM := flM (Int) (SSpan) (fun p => ([.int .i64 p], [])) (fun p => fan_exactly_t p) (fun r => .agg (SSpan.enc r)) (fun _ => rfl)
noncomputable def fan_exactly_env : Env := envM [] [] [] [] [] 0
theorem fan_exactly_tells : Tells Try.prog 106 fan_exactly_m.c := fan_exactly_m.tells Try.func106 (show ∀ p, arun fan_exactly_env Try.f106 (fan_exactly_m.enc p).1 (fan_exactly_m.enc p).2 = _ from fun p => by kernel_rfl) noLoops .nil
noncomputable def fan_exactly (n : Int) : Option (SSpan) := fan_exactly_m.val n
theorem fan_exactly_eq (n : Int) : fan_exactly n = (fan_exactly_t n).get := fan_exactly_m.val_eq (fun x => intA (gd x.1 0)) (fun p => by kernel_rfl) n

/-! minecontrol/fan.between -/
noncomputable def fan_between_t (from_ to_ : SPoint) (flow : Int) : DT (SSpan) :=
 .ite ((wr (to_.Flow - from_.Flow)) != 0) (
 .bind (fan_exactly (wr (from_.Pressure - (wr (Int.tdiv (wr ((wr (from_.Pressure - to_.Pressure)) * (wr (flow - from_.Flow)))) (wr (to_.Flow - from_.Flow))))))) fun z0 =>
 .ite ((wr (to_.Flow - from_.Flow)) != 0) (
 .ite (decide ((Int.tmod (wr ((wr (from_.Pressure - to_.Pressure)) * (wr (flow - from_.Flow)))) (wr (to_.Flow - from_.Flow))) > (0 : Int))) (.leaf (SSpan.mk (wr (z0.Low - (1 : Int))) z0.High)) (.leaf z0)) (
 .fail)) (
 .fail)
noncomputable def fan_between_m : FnM := flM (SPoint × SPoint × Int) (SSpan) (fun p => ([.agg (SPoint.enc p.1), .agg (SPoint.enc p.2.1), .int .i64 p.2.2], [])) (fun p => fan_between_t p.1 p.2.1 p.2.2) (fun r => .agg (SSpan.enc r)) (fun _ => rfl)
noncomputable def fan_between_env : Env := envM [(106, fan_exactly_m.c)] [] [] [] [] 0
theorem fan_between_tells : Tells Try.prog 107 fan_between_m.c := fan_between_m.tells Try.func107 (show ∀ p, arun fan_between_env Try.f107 (fan_between_m.enc p).1 (fan_between_m.enc p).2 = _ from fun p => by kernel_rfl) noLoops (.cons fan_exactly_tells .nil)
noncomputable def fan_between (from_ to_ : SPoint) (flow : Int) : Option (SSpan) := fan_between_m.val (from_, to_, flow)
theorem fan_between_eq (from_ to_ : SPoint) (flow : Int) : fan_between from_ to_ flow = (fan_between_t from_ to_ flow).get := fan_between_m.val_eq (fun x => (SPoint.dec (aggL (gd x.1 0)), SPoint.dec (aggL (gd x.1 1)), intA (gd x.1 2))) (fun p => by kernel_rfl) (from_, to_, flow)

/-! minecontrol/fan.pressure -/
noncomputable def fan_pressure_t (curve : Sq SPoint) (flow : Int) : DT (SSpan) :=
 .bind (slices_IndexFunc_v2 curve flow) fun z0 =>
 .ite (z0 == (0 : Int)) (
 .ite (decide ((0 : Int) ≤ (0 : Int) ∧ (0 : Int) < ((curve.n : Nat) : Int))) (
 .bind (fan_exactly (curve.f 0).Pressure) fun z1 =>
 .leaf z1) (
 .fail)) (
 .ite (z0 == (-1 : Int)) (
 .ite (decide ((0 : Int) ≤ (wr (((curve.n : Nat) : Int) - (1 : Int))) ∧ (wr (((curve.n : Nat) : Int) - (1 : Int))) < ((curve.n : Nat) : Int))) (
 .bind (fan_exactly (curve.f (Int.toNat (wr (((curve.n : Nat) : Int) - (1 : Int))))).Pressure) fun z2 =>
 .leaf z2) (
 .fail)) (
 .ite (decide ((0 : Int) ≤ (wr (z0 - (1 : Int))) ∧ (wr (z0 - (1 : Int))) < ((curve.n : Nat) : Int))) (
 .ite (decide ((0 : Int) ≤ z0 ∧ z0 < ((curve.n : Nat) : Int))) (
 .bind (fan_between (curve.f (Int.toNat (wr (z0 - (1 : Int))))) (curve.f (Int.toNat z0)) flow) fun z3 =>
 .leaf z3) (
 .fail)) (
 .fail)))
noncomputable def fan_pressure_m : FnM := flM ((Sq SPoint) × Int) (SSpan) (fun p => ([sqA 2 SPoint.enc p.1, .int .i64 p.2], [])) (fun p => fan_pressure_t p.1 p.2) (fun r => .agg (SSpan.enc r)) (fun _ => rfl)
noncomputable def fan_pressure_env : Env := envM [(104, slices_IndexFunc_v2_m.c), (106, fan_exactly_m.c), (107, fan_between_m.c)] [] [] [] [] 0
theorem fan_pressure_tells : Tells Try.prog 102 fan_pressure_m.c := fan_pressure_m.tells Try.func102 (show ∀ p, arun fan_pressure_env Try.f102 (fan_pressure_m.enc p).1 (fan_pressure_m.enc p).2 = _ from fun p => by kernel_rfl) noLoops (.cons slices_IndexFunc_v2_tells (.cons fan_exactly_tells (.cons fan_between_tells .nil)))
noncomputable def fan_pressure (curve : Sq SPoint) (flow : Int) : Option (SSpan) := fan_pressure_m.val (curve, flow)
theorem fan_pressure_eq (curve : Sq SPoint) (flow : Int) : fan_pressure curve flow = (fan_pressure_t curve flow).get := fan_pressure_m.val_eq (fun x => (sqD SPoint.dec (gd x.1 0), intA (gd x.1 1))) (fun p => by kernel_rfl) (curve, flow)

/-! minecontrol/fan.blowing -/
noncomputable def fan_blowing_t (curve : Sq SPoint) (back : Bool) (flow : Int) : DT (SSpan) :=
 .ite (!back) (
 .bind (fan_pressure curve flow) fun z0 =>
 .leaf z0) (
 .bind (fan_pressure curve (wr (0 - flow))) fun z1 =>
 .leaf (SSpan.mk (wr (0 - z1.High)) (wr (0 - z1.Low))))
noncomputable def fan_blowing_m : FnM := flM ((Sq SPoint) × Bool × Int) (SSpan) (fun p => ([sqA 2 SPoint.enc p.1, .bool p.2.1, .int .i64 p.2.2], [])) (fun p => fan_blowing_t p.1 p.2.1 p.2.2) (fun r => .agg (SSpan.enc r)) (fun _ => rfl)
noncomputable def fan_blowing_env : Env := envM [(102, fan_pressure_m.c)] [] [] [] [] 0
theorem fan_blowing_tells : Tells Try.prog 94 fan_blowing_m.c := fan_blowing_m.tells Try.func94 (show ∀ p, arun fan_blowing_env Try.f94 (fan_blowing_m.enc p).1 (fan_blowing_m.enc p).2 = _ from fun p => by kernel_rfl) noLoops (.cons fan_pressure_tells .nil)
noncomputable def fan_blowing (curve : Sq SPoint) (back : Bool) (flow : Int) : Option (SSpan) := fan_blowing_m.val (curve, back, flow)
theorem fan_blowing_eq (curve : Sq SPoint) (back : Bool) (flow : Int) : fan_blowing curve back flow = (fan_blowing_t curve back flow).get := fan_blowing_m.val_eq (fun x => (sqD SPoint.dec (gd x.1 0), boolA (gd x.1 1), intA (gd x.1 2))) (fun p => by kernel_rfl) (curve, back, flow)

/-! minecontrol/fan.At -/
noncomputable def fan_At_t (f : SFan) (state flow : Int) : DT (SSpan) :=
 .bind (fan_Check f) fun z0 =>
 .ite (z0 != (0 : Int)) (
 .leaf (SSpan.mk (0 : Int) (0 : Int))) (
 .bind (fan_within flow (-1048577 : Int) (1048577 : Int)) fun z1 =>
 .ite (!z1) (
 .leaf (SSpan.mk (0 : Int) (0 : Int))) (
 .ite (state == (1 : Int)) (
 .bind (fan_blowing f.Curve f.Back flow) fun z2 =>
 .leaf z2) (
 .ite (state == (2 : Int)) (
 .bind (fan_blowing f.Curve (!f.Back) flow) fun z3 =>
 .leaf z3) (
 .ite (state == (-1 : Int)) (
 .bind (fan_blowing f.Curve f.Back flow) fun z4 =>
 .bind (fan_blowing f.Curve (!f.Back) flow) fun z5 =>
 .leaf (SSpan.mk (if z5.Low < (if z4.Low < (0 : Int) then z4.Low else (0 : Int)) then z5.Low else (if z4.Low < (0 : Int) then z4.Low else (0 : Int))) (if (if (0 : Int) < z4.High then z4.High else (0 : Int)) < z5.High then z5.High else (if (0 : Int) < z4.High then z4.High else (0 : Int))))) (
 .leaf (SSpan.mk (0 : Int) (0 : Int)))))))
noncomputable def fan_At_m : FnM := flM (SFan × Int × Int) (SSpan) (fun p => ([.agg (SFan.enc p.1), .int .i64 p.2.1, .int .i64 p.2.2], [])) (fun p => fan_At_t p.1 p.2.1 p.2.2) (fun r => .agg (SSpan.enc r)) (fun _ => rfl)
noncomputable def fan_At_env : Env := envM [(79, fan_Check_m.c), (89, fan_within_m.c), (94, fan_blowing_m.c)] [] [] [] [] 0
theorem fan_At_tells : Tells Try.prog 86 fan_At_m.c := fan_At_m.tells Try.func86 (show ∀ p, arun fan_At_env Try.f86 (fan_At_m.enc p).1 (fan_At_m.enc p).2 = _ from fun p => by kernel_rfl) noLoops (.cons fan_Check_tells (.cons fan_within_tells (.cons fan_blowing_tells .nil)))
noncomputable def fan_At (f : SFan) (state flow : Int) : Option (SSpan) := fan_At_m.val (f, state, flow)
theorem fan_At_eq (f : SFan) (state flow : Int) : fan_At f state flow = (fan_At_t f state flow).get := fan_At_m.val_eq (fun x => (SFan.dec (aggL (gd x.1 0)), intA (gd x.1 1), intA (gd x.1 2))) (fun p => by kernel_rfl) (f, state, flow)

/-! (*minecontrol/branch.airway).drop -/
noncomputable def branch_airway_drop_l4_step (u4_0 _u4_2 _u4_3 _u4_4 _u4_5 : Int) (_u4_6 _u4_7 : Bool) (_u4_8 _u4_9 _u4_10 _u4_11 : Int) (u4_12 : Sq Sblower) (u4_13 u4_14 u4_15 : Int) : DT (LR (Int × Int × Int) (Int × Int) (Unit)) :=
 .ite (decide (u4_15 < ((u4_12.n : Nat) : Int))) (
 .ite (decide ((0 : Int) ≤ u4_15 ∧ u4_15 < ((u4_12.n : Nat) : Int))) (
 .bind (fan_At (u4_12.f (Int.toNat u4_15)).Fan (u4_12.f (Int.toNat u4_15)).state_ u4_0) fun z0 =>
 .bind (branch_less (SSpan.mk u4_13 u4_14) z0) fun z1 =>
 .leaf (.next (z1.Low, z1.High, (wr (u4_15 + (1 : Int)))))) (
 .fail)) (
 .leaf (.l (u4_13, u4_14)))
noncomputable def branch_airway_drop_l4_m : LpM := ⟨Int × Int × Int × Int × Int × Bool × Bool × Int × Int × Int × Int × (Sq Sblower), Int × Int × Int, Int × Int, Unit, fun p => ⟨[(1, .int .i64 p.1.1), (4, .ptr 2 0), (6, .ptr 1346 0), (31, .own 1 0), (32, .int .i64 ((p.1.2.2.2.2.2.2.2.2.2.2.2.n : Nat) : Int)), (33, .int .i64 p.2.2.2)], [(0, .var [.int .i64 p.1.2.1, .int .i64 p.1.2.2.1, .int .i64 p.1.2.2.2.1, .int .i64 p.1.2.2.2.2.1, .bool p.1.2.2.2.2.2.1, .bool p.1.2.2.2.2.2.2.1, .int .i64 p.1.2.2.2.2.2.2.2.1, .int .i64 p.1.2.2.2.2.2.2.2.2.1, .int .i64 p.1.2.2.2.2.2.2.2.2.2.1, .int .i64 p.1.2.2.2.2.2.2.2.2.2.2.1, .own 1 0]), (1, rowA 0 5 122 Sblower.enc p.1.2.2.2.2.2.2.2.2.2.2.2), (2, .var [.int .i64 (0 : Int), .int .i64 (0 : Int)]), (1346, .var [.int .i64 p.2.1, .int .i64 p.2.2.1])], 1858⟩, fun f v => branch_airway_drop_l4_step f.1 f.2.1 f.2.2.1 f.2.2.2.1 f.2.2.2.2.1 f.2.2.2.2.2.1 f.2.2.2.2.2.2.1 f.2.2.2.2.2.2.2.1 f.2.2.2.2.2.2.2.2.1 f.2.2.2.2.2.2.2.2.2.1 f.2.2.2.2.2.2.2.2.2.2.1 f.2.2.2.2.2.2.2.2.2.2.2 v.1 v.2.1 v.2.2, true, (.exit 0), (fun x a => ⟨[(4, .ptr 2 0), (6, .ptr 1346 0)], [(0, blkS x 0), (1, blkS x 1), (2, .var [.int .i64 (0 : Int), .int .i64 (0 : Int)]), (1346, .var [.int .i64 a.1, .int .i64 a.2])], 1858⟩), .ret, (fun _ _ => ⟨[], [], 0⟩)⟩
noncomputable def branch_airway_drop_l4 (u4_0 u4_2 u4_3 u4_4 u4_5 : Int) (u4_6 u4_7 : Bool) (u4_8 u4_9 u4_10 u4_11 : Int) (u4_12 : Sq Sblower) (u4_13 u4_14 u4_15 : Int) : Option ((Int × Int) ⊕ (Unit)) := branch_airway_drop_l4_m.val ((u4_0, u4_2, u4_3, u4_4, u4_5, u4_6, u4_7, u4_8, u4_9, u4_10, u4_11, u4_12), (u4_13, u4_14, u4_15))
theorem branch_airway_drop_l4_eq (u4_0 u4_2 u4_3 u4_4 u4_5 : Int) (u4_6 u4_7 : Bool) (u4_8 u4_9 u4_10 u4_11 : Int) (u4_12 : Sq Sblower) (u4_13 u4_14 u4_15 : Int) : branch_airway_drop_l4 u4_0 u4_2 u4_3 u4_4 u4_5 u4_6 u4_7 u4_8 u4_9 u4_10 u4_11 u4_12 u4_13 u4_14 u4_15 = fixO (fun v : Int × Int × Int => branch_airway_drop_l4_step u4_0 u4_2 u4_3 u4_4 u4_5 u4_6 u4_7 u4_8 u4_9 u4_10 u4_11 u4_12 v.1 v.2.1 v.2.2) (u4_13, u4_14, u4_15) := branch_airway_drop_l4_m.val_eq (fun x => ((intA (aget x.tm 1), intA (cellS x 0 0), intA (cellS x 0 1), intA (cellS x 0 2), intA (cellS x 0 3), boolA (cellS x 0 4), boolA (cellS x 0 5), intA (cellS x 0 6), intA (cellS x 0 7), intA (cellS x 0 8), intA (cellS x 0 9), sqB Sblower.dec (blkS x 1)), (intA (cellS x 1346 0), intA (cellS x 1346 1), intA (aget x.tm 33)))) (fun p => by kernel_rfl) ((u4_0, u4_2, u4_3, u4_4, u4_5, u4_6, u4_7, u4_8, u4_9, u4_10, u4_11, u4_12), (u4_13, u4_14, u4_15))
noncomputable def branch_airway_drop_t (w : Sairway) (flow : Int) : DT (SSpan) :=
 .bind (branch_times w.Road.Rest (wr (flow * (if flow < (wr (0 - flow)) then (wr (0 - flow)) else flow)))) fun z2 =>
 .bind (branch_less z2 w.Road.Lift) fun z3 =>
 .sum (branch_airway_drop_l4 flow w.Road.From w.Road.To w.Road.Length w.Road.Area w.Road.Walk w.Road.Closed w.Road.Rest.Low w.Road.Rest.High w.Road.Lift.Low w.Road.Lift.High w.blowers_ z3.Low z3.High (0 : Int)) (fun y0 =>
 .leaf (SSpan.mk y0.1 y0.2)) (fun _ => .fail)
noncomputable def branch_airway_drop_m : FnM := nfM (Sairway × Int) (SSpan) (fun p => ([.ptr 0 0, .int .i64 p.2], [.var [.int .i64 p.1.Road.From, .int .i64 p.1.Road.To, .int .i64 p.1.Road.Length, .int .i64 p.1.Road.Area, .bool p.1.Road.Walk, .bool p.1.Road.Closed, .int .i64 p.1.Road.Rest.Low, .int .i64 p.1.Road.Rest.High, .int .i64 p.1.Road.Lift.Low, .int .i64 p.1.Road.Lift.High, .own 1 0], rowA 0 5 122 Sblower.enc p.1.blowers_])) (fun p => branch_airway_drop_t p.1 p.2) (fun r => .agg (SSpan.enc r)) (fun ins _ => [dB ins 0, dB ins 1])
noncomputable def branch_airway_drop_env : Env := envM [(85, branch_times_m.c), (84, branch_less_m.c), (86, fan_At_m.c)] [(4, [1, 4, 6, 31, 32, 33], [4, 6])] [(4, branch_airway_drop_l4_m.c)] [] [(4, [0, 1, 2, 1346])] 2
noncomputable def branch_airway_drop_e : Env := { branch_airway_drop_env with nt := 47 }
theorem branch_airway_drop_l4_tells : LoopTells branch_airway_drop_e (loopOf 4 Try.f70) branch_airway_drop_l4_m.c := branch_airway_drop_l4_m.tells 1858 (fun _ => by kernel_rfl) (fun _ _ _ _ => by kernel_rfl) (fun _ _ _ _ => by kernel_rfl) fun R f v N K => by kernel_rfl
theorem branch_airway_drop_tells : Tells Try.prog 70 branch_airway_drop_m.c := branch_airway_drop_m.tells Try.func70 (show ∀ p, arun branch_airway_drop_env Try.f70 (branch_airway_drop_m.enc p).1 (branch_airway_drop_m.enc p).2 = _ from fun p => by kernel_rfl) (loopsL [loopOf 4 Try.f70] (by kernel_rfl) ⟨lpT (by kernel_rfl) branch_airway_drop_l4_tells, trivial⟩) (.cons branch_times_tells (.cons branch_less_tells (.cons fan_At_tells .nil)))
noncomputable def branch_airway_drop (w : Sairway) (flow : Int) : Option (SSpan) := branch_airway_drop_m.val (w, flow)
theorem branch_airway_drop_eq (w : Sairway) (flow : Int) : branch_airway_drop w flow = (branch_airway_drop_t w flow).get := branch_airway_drop_m.val_eq (fun x => (⟨⟨intA (gd (varL (dB x.2 0)) 0), intA (gd (varL (dB x.2 0)) 1), intA (gd (varL (dB x.2 0)) 2), intA (gd (varL (dB x.2 0)) 3), boolA (gd (varL (dB x.2 0)) 4), boolA (gd (varL (dB x.2 0)) 5), ⟨intA (gd (varL (dB x.2 0)) 6), intA (gd (varL (dB x.2 0)) 7)⟩, ⟨intA (gd (varL (dB x.2 0)) 8), intA (gd (varL (dB x.2 0)) 9)⟩⟩, sqB Sblower.dec (dB x.2 1)⟩, intA (gd x.1 1))) (fun p => by kernel_rfl) (w, flow)

/-! minecontrol/branch.Flow$1 -/
noncomputable def branch_Flow_1_t (flow : Int) (x : Sairway) (x2 : Int) : DT (Bool) :=
 .bind (branch_airway_drop x flow) fun z0 =>
 .leaf (decide (z0.High > x2))
noncomputable def branch_Flow_1_m : FnM := nfM (Int × Sairway × Int) (Bool) (fun p => ([.int .i64 p.1, .ptr 0 0, .ptr 1 0], [.var [.int .i64 p.2.1.Road.From, .int .i64 p.2.1.Road.To, .int .i64 p.2.1.Road.Length, .int .i64 p.2.1.Road.Area, .bool p.2.1.Road.Walk, .bool p.2.1.Road.Closed, .int .i64 p.2.1.Road.Rest.Low, .int .i64 p.2.1.Road.Rest.High, .int .i64 p.2.1.Road.Lift.Low, .int .i64 p.2.1.Road.Lift.High, .own 2 0], .var [.int .i64 p.2.2], rowA 0 5 122 Sblower.enc p.2.1.blowers_])) (fun p => branch_Flow_1_t p.1 p.2.1 p.2.2) (fun r => .bool r) (fun ins _ => [dB ins 0, dB ins 1, dB ins 2])
noncomputable def branch_Flow_1_env : Env := envM [(70, branch_airway_drop_m.c)] [] [] [] [] 3
theorem branch_Flow_1_tells : Tells Try.prog 69 branch_Flow_1_m.c := branch_Flow_1_m.tells Try.func69 (show ∀ p, arun branch_Flow_1_env Try.f69 (branch_Flow_1_m.enc p).1 (branch_Flow_1_m.enc p).2 = _ from fun p => by kernel_rfl) noLoops (.cons branch_airway_drop_tells .nil)
noncomputable def branch_Flow_1 (flow : Int) (x : Sairway) (x2 : Int) : Option (Bool) := branch_Flow_1_m.val (flow, x, x2)
theorem branch_Flow_1_eq (flow : Int) (x : Sairway) (x2 : Int) : branch_Flow_1 flow x x2 = (branch_Flow_1_t flow x x2).get := branch_Flow_1_m.val_eq (fun x => (intA (gd x.1 0), ⟨⟨intA (gd (varL (dB x.2 0)) 0), intA (gd (varL (dB x.2 0)) 1), intA (gd (varL (dB x.2 0)) 2), intA (gd (varL (dB x.2 0)) 3), boolA (gd (varL (dB x.2 0)) 4), boolA (gd (varL (dB x.2 0)) 5), ⟨intA (gd (varL (dB x.2 0)) 6), intA (gd (varL (dB x.2 0)) 7)⟩, ⟨intA (gd (varL (dB x.2 0)) 8), intA (gd (varL (dB x.2 0)) 9)⟩⟩, sqB Sblower.dec (dB x.2 2)⟩, intA (gd (varL (dB x.2 1)) 0))) (fun p => by kernel_rfl) (flow, x, x2)

/-! minecontrol/branch.first$1 -/
noncomputable def branch_first_1_t (i : Int) (y0 : Sairway) (y1 : Int) : DT (Bool) :=
 .bind (branch_Flow_1 (wr (i - (1048576 : Int))) y0 y1) fun z0 =>
 .leaf z0
noncomputable def branch_first_1_m : FnM := nfM (Int × Sairway × Int) (Bool) (fun p => ([.int .i64 p.1, .ptr 0 0], [.var [.fn 69 [.ptr 1 0, .ptr 2 0]], .var [.int .i64 p.2.1.Road.From, .int .i64 p.2.1.Road.To, .int .i64 p.2.1.Road.Length, .int .i64 p.2.1.Road.Area, .bool p.2.1.Road.Walk, .bool p.2.1.Road.Closed, .int .i64 p.2.1.Road.Rest.Low, .int .i64 p.2.1.Road.Rest.High, .int .i64 p.2.1.Road.Lift.Low, .int .i64 p.2.1.Road.Lift.High, .own 3 0], .var [.int .i64 p.2.2], rowA 0 5 122 Sblower.enc p.2.1.blowers_])) (fun p => branch_first_1_t p.1 p.2.1 p.2.2) (fun r => .bool r) (fun ins _ => [dB ins 0, dB ins 1, dB ins 2, dB ins 3])
noncomputable def branch_first_1_env : Env := envM [(69, branch_Flow_1_m.c)] [] [] [] [] 4
theorem branch_first_1_tells : Tells Try.prog 83 branch_first_1_m.c := branch_first_1_m.tells Try.func83 (show ∀ p, arun branch_first_1_env Try.f83 (branch_first_1_m.enc p).1 (branch_first_1_m.enc p).2 = _ from fun p => by kernel_rfl) noLoops (.cons branch_Flow_1_tells .nil)
noncomputable def branch_first_1 (i : Int) (y0 : Sairway) (y1 : Int) : Option (Bool) := branch_first_1_m.val (i, y0, y1)
theorem branch_first_1_eq (i : Int) (y0 : Sairway) (y1 : Int) : branch_first_1 i y0 y1 = (branch_first_1_t i y0 y1).get := branch_first_1_m.val_eq (fun x => (intA (gd x.1 0), ⟨⟨intA (gd (varL (dB x.2 1)) 0), intA (gd (varL (dB x.2 1)) 1), intA (gd (varL (dB x.2 1)) 2), intA (gd (varL (dB x.2 1)) 3), boolA (gd (varL (dB x.2 1)) 4), boolA (gd (varL (dB x.2 1)) 5), ⟨intA (gd (varL (dB x.2 1)) 6), intA (gd (varL (dB x.2 1)) 7)⟩, ⟨intA (gd (varL (dB x.2 1)) 8), intA (gd (varL (dB x.2 1)) 9)⟩⟩, sqB Sblower.dec (dB x.2 3)⟩, intA (gd (varL (dB x.2 2)) 0))) (fun p => by kernel_rfl) (i, y0, y1)

/-! sort.Search -/
noncomputable def sort_Search_l2_step (u2_1 u2_2 u2_3 u2_4 : Int) (u2_5 u2_6 : Bool) (u2_7 u2_8 u2_9 u2_10 u2_11 : Int) (u2_12 : Sq Sblower) (u2_0 u2_13 : Int) : DT (LR (Int × Int) (Int) (Unit)) :=
 .ite (decide (u2_13 < u2_0)) (
 .bind (branch_first_1 (wr ((IntKind.u64.wrap (wr (u2_13 + u2_0))) / 2 ^ (Int.toNat (1 : Int)))) (Sairway.mk (SRoad.mk u2_1 u2_2 u2_3 u2_4 u2_5 u2_6 (SSpan.mk u2_7 u2_8) (SSpan.mk u2_9 u2_10)) u2_12) u2_11) fun z0 =>
 .ite (!z0) (
 .leaf (.next (u2_0, (wr ((wr ((IntKind.u64.wrap (wr (u2_13 + u2_0))) / 2 ^ (Int.toNat (1 : Int)))) + (1 : Int)))))) (
 .leaf (.next ((wr ((IntKind.u64.wrap (wr (u2_13 + u2_0))) / 2 ^ (Int.toNat (1 : Int)))), u2_13)))) (
 .leaf (.l u2_13))
noncomputable def sort_Search_l2_m : LpM := ⟨Int × Int × Int × Int × Bool × Bool × Int × Int × Int × Int × Int × (Sq Sblower), Int × Int, Int, Unit, fun p => ⟨[(1, .fn 83 [.ptr 0 0]), (5, .int .i64 p.2.2), (6, .int .i64 p.2.1)], [(0, .var [.fn 69 [.ptr 1 0, .ptr 2 0]]), (1, .var [.int .i64 p.1.1, .int .i64 p.1.2.1, .int .i64 p.1.2.2.1, .int .i64 p.1.2.2.2.1, .bool p.1.2.2.2.2.1, .bool p.1.2.2.2.2.2.1, .int .i64 p.1.2.2.2.2.2.2.1, .int .i64 p.1.2.2.2.2.2.2.2.1, .int .i64 p.1.2.2.2.2.2.2.2.2.1, .int .i64 p.1.2.2.2.2.2.2.2.2.2.1, .own 3 0]), (2, .var [.int .i64 p.1.2.2.2.2.2.2.2.2.2.2.1]), (3, rowA 0 5 122 Sblower.enc p.1.2.2.2.2.2.2.2.2.2.2.2)], 260⟩, fun f v => sort_Search_l2_step f.1 f.2.1 f.2.2.1 f.2.2.2.1 f.2.2.2.2.1 f.2.2.2.2.2.1 f.2.2.2.2.2.2.1 f.2.2.2.2.2.2.2.1 f.2.2.2.2.2.2.2.2.1 f.2.2.2.2.2.2.2.2.2.1 f.2.2.2.2.2.2.2.2.2.2.1 f.2.2.2.2.2.2.2.2.2.2.2 v.1 v.2, true, (.exit 0), (fun x a => ⟨[(5, .int .i64 a)], [(0, .var [.fn 69 [.ptr 1 0, .ptr 2 0]]), (1, blkS x 1), (2, blkS x 2), (3, blkS x 3)], 260⟩), .ret, (fun _ _ => ⟨[], [], 0⟩)⟩
noncomputable def sort_Search_l2 (u2_1 u2_2 u2_3 u2_4 : Int) (u2_5 u2_6 : Bool) (u2_7 u2_8 u2_9 u2_10 u2_11 : Int) (u2_12 : Sq Sblower) (u2_0 u2_13 : Int) : Option ((Int) ⊕ (Unit)) := sort_Search_l2_m.val ((u2_1, u2_2, u2_3, u2_4, u2_5, u2_6, u2_7, u2_8, u2_9, u2_10, u2_11, u2_12), (u2_0, u2_13))
theorem sort_Search_l2_eq (u2_1 u2_2 u2_3 u2_4 : Int) (u2_5 u2_6 : Bool) (u2_7 u2_8 u2_9 u2_10 u2_11 : Int) (u2_12 : Sq Sblower) (u2_0 u2_13 : Int) : sort_Search_l2 u2_1 u2_2 u2_3 u2_4 u2_5 u2_6 u2_7 u2_8 u2_9 u2_10 u2_11 u2_12 u2_0 u2_13 = fixO (fun v : Int × Int => sort_Search_l2_step u2_1 u2_2 u2_3 u2_4 u2_5 u2_6 u2_7 u2_8 u2_9 u2_10 u2_11 u2_12 v.1 v.2) (u2_0, u2_13) := sort_Search_l2_m.val_eq (fun x => ((intA (cellS x 1 0), intA (cellS x 1 1), intA (cellS x 1 2), intA (cellS x 1 3), boolA (cellS x 1 4), boolA (cellS x 1 5), intA (cellS x 1 6), intA (cellS x 1 7), intA (cellS x 1 8), intA (cellS x 1 9), intA (cellS x 2 0), sqB Sblower.dec (blkS x 3)), (intA (aget x.tm 6), intA (aget x.tm 5)))) (fun p => by kernel_rfl) ((u2_1, u2_2, u2_3, u2_4, u2_5, u2_6, u2_7, u2_8, u2_9, u2_10, u2_11, u2_12), (u2_0, u2_13))
noncomputable def sort_Search_t (n : Int) (y0 : Sairway) (y1 : Int) : DT (Int) :=
 .sum (sort_Search_l2 y0.Road.From y0.Road.To y0.Road.Length y0.Road.Area y0.Road.Walk y0.Road.Closed y0.Road.Rest.Low y0.Road.Rest.High y0.Road.Lift.Low y0.Road.Lift.High y1 y0.blowers_ n (0 : Int)) (fun y2 =>
 .leaf y2) (fun _ => .fail)
noncomputable def sort_Search_m : FnM := nfM (Int × Sairway × Int) (Int) (fun p => ([.int .i64 p.1, .fn 83 [.ptr 0 0]], [.var [.fn 69 [.ptr 1 0, .ptr 2 0]], .var [.int .i64 p.2.1.Road.From, .int .i64 p.2.1.Road.To, .int .i64 p.2.1.Road.Length, .int .i64 p.2.1.Road.Area, .bool p.2.1.Road.Walk, .bool p.2.1.Road.Closed, .int .i64 p.2.1.Road.Rest.Low, .int .i64 p.2.1.Road.Rest.High, .int .i64 p.2.1.Road.Lift.Low, .int .i64 p.2.1.Road.Lift.High, .own 3 0], .var [.int .i64 p.2.2], rowA 0 5 122 Sblower.enc p.2.1.blowers_])) (fun p => sort_Search_t p.1 p.2.1 p.2.2) (fun r => .int .i64 r) (fun ins _ => [dB ins 0, dB ins 1, dB ins 2, dB ins 3])
noncomputable def sort_Search_env : Env := envM [(83, branch_first_1_m.c)] [(2, [1, 5, 6], [5])] [(2, sort_Search_l2_m.c)] [] [(2, [0, 1, 2, 3])] 4
noncomputable def sort_Search_e : Env := { sort_Search_env with nt := 26 }
theorem sort_Search_l2_tells : LoopTells sort_Search_e (loopOf 2 Try.f52) sort_Search_l2_m.c := sort_Search_l2_m.tells 260 (fun _ => by kernel_rfl) (fun _ _ _ _ => by kernel_rfl) (fun _ _ _ _ => by kernel_rfl) fun R f v N K => by kernel_rfl
theorem sort_Search_tells : Tells Try.prog 52 sort_Search_m.c := sort_Search_m.tells Try.func52 (show ∀ p, arun sort_Search_env Try.f52 (sort_Search_m.enc p).1 (sort_Search_m.enc p).2 = _ from fun p => by kernel_rfl) (loopsL [loopOf 2 Try.f52] (by kernel_rfl) ⟨lpT (by kernel_rfl) sort_Search_l2_tells, trivial⟩) (.cons branch_first_1_tells .nil)
noncomputable def sort_Search (n : Int) (y0 : Sairway) (y1 : Int) : Option (Int) := sort_Search_m.val (n, y0, y1)
theorem sort_Search_eq (n : Int) (y0 : Sairway) (y1 : Int) : sort_Search n y0 y1 = (sort_Search_t n y0 y1).get := sort_Search_m.val_eq (fun x => (intA (gd x.1 0), ⟨⟨intA (gd (varL (dB x.2 1)) 0), intA (gd (varL (dB x.2 1)) 1), intA (gd (varL (dB x.2 1)) 2), intA (gd (varL (dB x.2 1)) 3), boolA (gd (varL (dB x.2 1)) 4), boolA (gd (varL (dB x.2 1)) 5), ⟨intA (gd (varL (dB x.2 1)) 6), intA (gd (varL (dB x.2 1)) 7)⟩, ⟨intA (gd (varL (dB x.2 1)) 8), intA (gd (varL (dB x.2 1)) 9)⟩⟩, sqB Sblower.dec (dB x.2 3)⟩, intA (gd (varL (dB x.2 2)) 0))) (fun p => by kernel_rfl) (n, y0, y1)

/-! minecontrol/branch.first -/
noncomputable def branch_first_t (y0 : Sairway) (y1 : Int) : DT (Int) :=
 .bind (sort_Search (2097153 : Int) y0 y1) fun z0 =>
 .leaf (wr (z0 - (1048576 : Int)))
noncomputable def branch_first_m : FnM := nfM (Sairway × Int) (Int) (fun p => ([.fn 69 [.ptr 0 0, .ptr 1 0]], [.var [.int .i64 p.1.Road.From, .int .i64 p.1.Road.To, .int .i64 p.1.Road.Length, .int .i64 p.1.Road.Area, .bool p.1.Road.Walk, .bool p.1.Road.Closed, .int .i64 p.1.Road.Rest.Low, .int .i64 p.1.Road.Rest.High, .int .i64 p.1.Road.Lift.Low, .int .i64 p.1.Road.Lift.High, .own 2 0], .var [.int .i64 p.2], rowA 0 5 122 Sblower.enc p.1.blowers_])) (fun p => branch_first_t p.1 p.2) (fun r => .int .i64 r) (fun ins _ => [dB ins 0, dB ins 1, dB ins 2])
noncomputable def branch_first_env : Env := envM [(52, sort_Search_m.c)] [] [] [] [] 3
theorem branch_first_tells : Tells Try.prog 68 branch_first_m.c := branch_first_m.tells Try.func68 (show ∀ p, arun branch_first_env Try.f68 (branch_first_m.enc p).1 (branch_first_m.enc p).2 = _ from fun p => by kernel_rfl) noLoops (.cons sort_Search_tells .nil)
noncomputable def branch_first (y0 : Sairway) (y1 : Int) : Option (Int) := branch_first_m.val (y0, y1)
theorem branch_first_eq (y0 : Sairway) (y1 : Int) : branch_first y0 y1 = (branch_first_t y0 y1).get := branch_first_m.val_eq (fun x => (⟨⟨intA (gd (varL (dB x.2 0)) 0), intA (gd (varL (dB x.2 0)) 1), intA (gd (varL (dB x.2 0)) 2), intA (gd (varL (dB x.2 0)) 3), boolA (gd (varL (dB x.2 0)) 4), boolA (gd (varL (dB x.2 0)) 5), ⟨intA (gd (varL (dB x.2 0)) 6), intA (gd (varL (dB x.2 0)) 7)⟩, ⟨intA (gd (varL (dB x.2 0)) 8), intA (gd (varL (dB x.2 0)) 9)⟩⟩, sqB Sblower.dec (dB x.2 2)⟩, intA (gd (varL (dB x.2 1)) 0))) (fun p => by kernel_rfl) (y0, y1)

/-! minecontrol/branch.Flow$2 -/
noncomputable def branch_Flow_2_t (flow : Int) (x : Sairway) (x2 : Int) : DT (Bool) :=
 .bind (branch_airway_drop x flow) fun z0 =>
 .leaf (decide (z0.Low ≥ x2))
noncomputable def branch_Flow_2_m : FnM := nfM (Int × Sairway × Int) (Bool) (fun p => ([.int .i64 p.1, .ptr 0 0, .ptr 1 0], [.var [.int .i64 p.2.1.Road.From, .int .i64 p.2.1.Road.To, .int .i64 p.2.1.Road.Length, .int .i64 p.2.1.Road.Area, .bool p.2.1.Road.Walk, .bool p.2.1.Road.Closed, .int .i64 p.2.1.Road.Rest.Low, .int .i64 p.2.1.Road.Rest.High, .int .i64 p.2.1.Road.Lift.Low, .int .i64 p.2.1.Road.Lift.High, .own 2 0], .var [.int .i64 p.2.2], rowA 0 5 122 Sblower.enc p.2.1.blowers_])) (fun p => branch_Flow_2_t p.1 p.2.1 p.2.2) (fun r => .bool r) (fun ins _ => [dB ins 0, dB ins 1, dB ins 2])
noncomputable def branch_Flow_2_env : Env := envM [(70, branch_airway_drop_m.c)] [] [] [] [] 3
theorem branch_Flow_2_tells : Tells Try.prog 71 branch_Flow_2_m.c := branch_Flow_2_m.tells Try.func71 (show ∀ p, arun branch_Flow_2_env Try.f71 (branch_Flow_2_m.enc p).1 (branch_Flow_2_m.enc p).2 = _ from fun p => by kernel_rfl) noLoops (.cons branch_airway_drop_tells .nil)
noncomputable def branch_Flow_2 (flow : Int) (x : Sairway) (x2 : Int) : Option (Bool) := branch_Flow_2_m.val (flow, x, x2)
theorem branch_Flow_2_eq (flow : Int) (x : Sairway) (x2 : Int) : branch_Flow_2 flow x x2 = (branch_Flow_2_t flow x x2).get := branch_Flow_2_m.val_eq (fun x => (intA (gd x.1 0), ⟨⟨intA (gd (varL (dB x.2 0)) 0), intA (gd (varL (dB x.2 0)) 1), intA (gd (varL (dB x.2 0)) 2), intA (gd (varL (dB x.2 0)) 3), boolA (gd (varL (dB x.2 0)) 4), boolA (gd (varL (dB x.2 0)) 5), ⟨intA (gd (varL (dB x.2 0)) 6), intA (gd (varL (dB x.2 0)) 7)⟩, ⟨intA (gd (varL (dB x.2 0)) 8), intA (gd (varL (dB x.2 0)) 9)⟩⟩, sqB Sblower.dec (dB x.2 2)⟩, intA (gd (varL (dB x.2 1)) 0))) (fun p => by kernel_rfl) (flow, x, x2)

/-! minecontrol/branch.first$1 -/
noncomputable def branch_first_1_v2_t (i : Int) (y0 : Sairway) (y1 : Int) : DT (Bool) :=
 .bind (branch_Flow_2 (wr (i - (1048576 : Int))) y0 y1) fun z0 =>
 .leaf z0
noncomputable def branch_first_1_v2_m : FnM := nfM (Int × Sairway × Int) (Bool) (fun p => ([.int .i64 p.1, .ptr 0 0], [.var [.fn 71 [.ptr 1 0, .ptr 2 0]], .var [.int .i64 p.2.1.Road.From, .int .i64 p.2.1.Road.To, .int .i64 p.2.1.Road.Length, .int .i64 p.2.1.Road.Area, .bool p.2.1.Road.Walk, .bool p.2.1.Road.Closed, .int .i64 p.2.1.Road.Rest.Low, .int .i64 p.2.1.Road.Rest.High, .int .i64 p.2.1.Road.Lift.Low, .int .i64 p.2.1.Road.Lift.High, .own 3 0], .var [.int .i64 p.2.2], rowA 0 5 122 Sblower.enc p.2.1.blowers_])) (fun p => branch_first_1_v2_t p.1 p.2.1 p.2.2) (fun r => .bool r) (fun ins _ => [dB ins 0, dB ins 1, dB ins 2, dB ins 3])
noncomputable def branch_first_1_v2_env : Env := envM [(71, branch_Flow_2_m.c)] [] [] [] [] 4
theorem branch_first_1_v2_tells : Tells Try.prog 83 branch_first_1_v2_m.c := branch_first_1_v2_m.tells Try.func83 (show ∀ p, arun branch_first_1_v2_env Try.f83 (branch_first_1_v2_m.enc p).1 (branch_first_1_v2_m.enc p).2 = _ from fun p => by kernel_rfl) noLoops (.cons branch_Flow_2_tells .nil)
noncomputable def branch_first_1_v2 (i : Int) (y0 : Sairway) (y1 : Int) : Option (Bool) := branch_first_1_v2_m.val (i, y0, y1)
theorem branch_first_1_v2_eq (i : Int) (y0 : Sairway) (y1 : Int) : branch_first_1_v2 i y0 y1 = (branch_first_1_v2_t i y0 y1).get := branch_first_1_v2_m.val_eq (fun x => (intA (gd x.1 0), ⟨⟨intA (gd (varL (dB x.2 1)) 0), intA (gd (varL (dB x.2 1)) 1), intA (gd (varL (dB x.2 1)) 2), intA (gd (varL (dB x.2 1)) 3), boolA (gd (varL (dB x.2 1)) 4), boolA (gd (varL (dB x.2 1)) 5), ⟨intA (gd (varL (dB x.2 1)) 6), intA (gd (varL (dB x.2 1)) 7)⟩, ⟨intA (gd (varL (dB x.2 1)) 8), intA (gd (varL (dB x.2 1)) 9)⟩⟩, sqB Sblower.dec (dB x.2 3)⟩, intA (gd (varL (dB x.2 2)) 0))) (fun p => by kernel_rfl) (i, y0, y1)

/-! sort.Search -/
noncomputable def sort_Search_v2_l2_step (u2_1 u2_2 u2_3 u2_4 : Int) (u2_5 u2_6 : Bool) (u2_7 u2_8 u2_9 u2_10 u2_11 : Int) (u2_12 : Sq Sblower) (u2_0 u2_13 : Int) : DT (LR (Int × Int) (Int) (Unit)) :=
 .ite (decide (u2_13 < u2_0)) (
 .bind (branch_first_1_v2 (wr ((IntKind.u64.wrap (wr (u2_13 + u2_0))) / 2 ^ (Int.toNat (1 : Int)))) (Sairway.mk (SRoad.mk u2_1 u2_2 u2_3 u2_4 u2_5 u2_6 (SSpan.mk u2_7 u2_8) (SSpan.mk u2_9 u2_10)) u2_12) u2_11) fun z0 =>
 .ite (!z0) (
 .leaf (.next (u2_0, (wr ((wr ((IntKind.u64.wrap (wr (u2_13 + u2_0))) / 2 ^ (Int.toNat (1 : Int)))) + (1 : Int)))))) (
 .leaf (.next ((wr ((IntKind.u64.wrap (wr (u2_13 + u2_0))) / 2 ^ (Int.toNat (1 : Int)))), u2_13)))) (
 .leaf (.l u2_13))
noncomputable def sort_Search_v2_l2_m : LpM := ⟨Int × Int × Int × Int × Bool × Bool × Int × Int × Int × Int × Int × (Sq Sblower), Int × Int, Int, Unit, fun p => ⟨[(1, .fn 83 [.ptr 0 0]), (5, .int .i64 p.2.2), (6, .int .i64 p.2.1)], [(0, .var [.fn 71 [.ptr 1 0, .ptr 2 0]]), (1, .var [.int .i64 p.1.1, .int .i64 p.1.2.1, .int .i64 p.1.2.2.1, .int .i64 p.1.2.2.2.1, .bool p.1.2.2.2.2.1, .bool p.1.2.2.2.2.2.1, .int .i64 p.1.2.2.2.2.2.2.1, .int .i64 p.1.2.2.2.2.2.2.2.1, .int .i64 p.1.2.2.2.2.2.2.2.2.1, .int .i64 p.1.2.2.2.2.2.2.2.2.2.1, .own 3 0]), (2, .var [.int .i64 p.1.2.2.2.2.2.2.2.2.2.2.1]), (3, rowA 0 5 122 Sblower.enc p.1.2.2.2.2.2.2.2.2.2.2.2)], 260⟩, fun f v => sort_Search_v2_l2_step f.1 f.2.1 f.2.2.1 f.2.2.2.1 f.2.2.2.2.1 f.2.2.2.2.2.1 f.2.2.2.2.2.2.1 f.2.2.2.2.2.2.2.1 f.2.2.2.2.2.2.2.2.1 f.2.2.2.2.2.2.2.2.2.1 f.2.2.2.2.2.2.2.2.2.2.1 f.2.2.2.2.2.2.2.2.2.2.2 v.1 v.2, true, (.exit 0), (fun x a => ⟨[(5, .int .i64 a)], [(0, .var [.fn 71 [.ptr 1 0, .ptr 2 0]]), (1, blkS x 1), (2, blkS x 2), (3, blkS x 3)], 260⟩), .ret, (fun _ _ => ⟨[], [], 0⟩)⟩
noncomputable def sort_Search_v2_l2 (u2_1 u2_2 u2_3 u2_4 : Int) (u2_5 u2_6 : Bool) (u2_7 u2_8 u2_9 u2_10 u2_11 : Int) (u2_12 : Sq Sblower) (u2_0 u2_13 : Int) : Option ((Int) ⊕ (Unit)) := sort_Search_v2_l2_m.val ((u2_1, u2_2, u2_3, u2_4, u2_5, u2_6, u2_7, u2_8, u2_9, u2_10, u2_11, u2_12), (u2_0, u2_13))
theorem sort_Search_v2_l2_eq (u2_1 u2_2 u2_3 u2_4 : Int) (u2_5 u2_6 : Bool) (u2_7 u2_8 u2_9 u2_10 u2_11 : Int) (u2_12 : Sq Sblower) (u2_0 u2_13 : Int) : sort_Search_v2_l2 u2_1 u2_2 u2_3 u2_4 u2_5 u2_6 u2_7 u2_8 u2_9 u2_10 u2_11 u2_12 u2_0 u2_13 = fixO (fun v : Int × Int => sort_Search_v2_l2_step u2_1 u2_2 u2_3 u2_4 u2_5 u2_6 u2_7 u2_8 u2_9 u2_10 u2_11 u2_12 v.1 v.2) (u2_0, u2_13) := sort_Search_v2_l2_m.val_eq (fun x => ((intA (cellS x 1 0), intA (cellS x 1 1), intA (cellS x 1 2), intA (cellS x 1 3), boolA (cellS x 1 4), boolA (cellS x 1 5), intA (cellS x 1 6), intA (cellS x 1 7), intA (cellS x 1 8), intA (cellS x 1 9), intA (cellS x 2 0), sqB Sblower.dec (blkS x 3)), (intA (aget x.tm 6), intA (aget x.tm 5)))) (fun p => by kernel_rfl) ((u2_1, u2_2, u2_3, u2_4, u2_5, u2_6, u2_7, u2_8, u2_9, u2_10, u2_11, u2_12), (u2_0, u2_13))
noncomputable def sort_Search_v2_t (n : Int) (y0 : Sairway) (y1 : Int) : DT (Int) :=
 .sum (sort_Search_v2_l2 y0.Road.From y0.Road.To y0.Road.Length y0.Road.Area y0.Road.Walk y0.Road.Closed y0.Road.Rest.Low y0.Road.Rest.High y0.Road.Lift.Low y0.Road.Lift.High y1 y0.blowers_ n (0 : Int)) (fun y2 =>
 .leaf y2) (fun _ => .fail)
noncomputable def sort_Search_v2_m : FnM := nfM (Int × Sairway × Int) (Int) (fun p => ([.int .i64 p.1, .fn 83 [.ptr 0 0]], [.var [.fn 71 [.ptr 1 0, .ptr 2 0]], .var [.int .i64 p.2.1.Road.From, .int .i64 p.2.1.Road.To, .int .i64 p.2.1.Road.Length, .int .i64 p.2.1.Road.Area, .bool p.2.1.Road.Walk, .bool p.2.1.Road.Closed, .int .i64 p.2.1.Road.Rest.Low, .int .i64 p.2.1.Road.Rest.High, .int .i64 p.2.1.Road.Lift.Low, .int .i64 p.2.1.Road.Lift.High, .own 3 0], .var [.int .i64 p.2.2], rowA 0 5 122 Sblower.enc p.2.1.blowers_])) (fun p => sort_Search_v2_t p.1 p.2.1 p.2.2) (fun r => .int .i64 r) (fun ins _ => [dB ins 0, dB ins 1, dB ins 2, dB ins 3])
noncomputable def sort_Search_v2_env : Env := envM [(83, branch_first_1_v2_m.c)] [(2, [1, 5, 6], [5])] [(2, sort_Search_v2_l2_m.c)] [] [(2, [0, 1, 2, 3])] 4
noncomputable def sort_Search_v2_e : Env := { sort_Search_v2_env with nt := 26 }
theorem sort_Search_v2_l2_tells : LoopTells sort_Search_v2_e (loopOf 2 Try.f52) sort_Search_v2_l2_m.c := sort_Search_v2_l2_m.tells 260 (fun _ => by kernel_rfl) (fun _ _ _ _ => by kernel_rfl) (fun _ _ _ _ => by kernel_rfl) fun R f v N K => by kernel_rfl
theorem sort_Search_v2_tells : Tells Try.prog 52 sort_Search_v2_m.c := sort_Search_v2_m.tells Try.func52 (show ∀ p, arun sort_Search_v2_env Try.f52 (sort_Search_v2_m.enc p).1 (sort_Search_v2_m.enc p).2 = _ from fun p => by kernel_rfl) (loopsL [loopOf 2 Try.f52] (by kernel_rfl) ⟨lpT (by kernel_rfl) sort_Search_v2_l2_tells, trivial⟩) (.cons branch_first_1_v2_tells .nil)
noncomputable def sort_Search_v2 (n : Int) (y0 : Sairway) (y1 : Int) : Option (Int) := sort_Search_v2_m.val (n, y0, y1)
theorem sort_Search_v2_eq (n : Int) (y0 : Sairway) (y1 : Int) : sort_Search_v2 n y0 y1 = (sort_Search_v2_t n y0 y1).get := sort_Search_v2_m.val_eq (fun x => (intA (gd x.1 0), ⟨⟨intA (gd (varL (dB x.2 1)) 0), intA (gd (varL (dB x.2 1)) 1), intA (gd (varL (dB x.2 1)) 2), intA (gd (varL (dB x.2 1)) 3), boolA (gd (varL (dB x.2 1)) 4), boolA (gd (varL (dB x.2 1)) 5), ⟨intA (gd (varL (dB x.2 1)) 6), intA (gd (varL (dB x.2 1)) 7)⟩, ⟨intA (gd (varL (dB x.2 1)) 8), intA (gd (varL (dB x.2 1)) 9)⟩⟩, sqB Sblower.dec (dB x.2 3)⟩, intA (gd (varL (dB x.2 2)) 0))) (fun p => by kernel_rfl) (n, y0, y1)

/-! minecontrol/branch.first -/
noncomputable def branch_first_v2_t (y0 : Sairway) (y1 : Int) : DT (Int) :=
 .bind (sort_Search_v2 (2097153 : Int) y0 y1) fun z0 =>
 .leaf (wr (z0 - (1048576 : Int)))
noncomputable def branch_first_v2_m : FnM := nfM (Sairway × Int) (Int) (fun p => ([.fn 71 [.ptr 0 0, .ptr 1 0]], [.var [.int .i64 p.1.Road.From, .int .i64 p.1.Road.To, .int .i64 p.1.Road.Length, .int .i64 p.1.Road.Area, .bool p.1.Road.Walk, .bool p.1.Road.Closed, .int .i64 p.1.Road.Rest.Low, .int .i64 p.1.Road.Rest.High, .int .i64 p.1.Road.Lift.Low, .int .i64 p.1.Road.Lift.High, .own 2 0], .var [.int .i64 p.2], rowA 0 5 122 Sblower.enc p.1.blowers_])) (fun p => branch_first_v2_t p.1 p.2) (fun r => .int .i64 r) (fun ins _ => [dB ins 0, dB ins 1, dB ins 2])
noncomputable def branch_first_v2_env : Env := envM [(52, sort_Search_v2_m.c)] [] [] [] [] 3
theorem branch_first_v2_tells : Tells Try.prog 68 branch_first_v2_m.c := branch_first_v2_m.tells Try.func68 (show ∀ p, arun branch_first_v2_env Try.f68 (branch_first_v2_m.enc p).1 (branch_first_v2_m.enc p).2 = _ from fun p => by kernel_rfl) noLoops (.cons sort_Search_v2_tells .nil)
noncomputable def branch_first_v2 (y0 : Sairway) (y1 : Int) : Option (Int) := branch_first_v2_m.val (y0, y1)
theorem branch_first_v2_eq (y0 : Sairway) (y1 : Int) : branch_first_v2 y0 y1 = (branch_first_v2_t y0 y1).get := branch_first_v2_m.val_eq (fun x => (⟨⟨intA (gd (varL (dB x.2 0)) 0), intA (gd (varL (dB x.2 0)) 1), intA (gd (varL (dB x.2 0)) 2), intA (gd (varL (dB x.2 0)) 3), boolA (gd (varL (dB x.2 0)) 4), boolA (gd (varL (dB x.2 0)) 5), ⟨intA (gd (varL (dB x.2 0)) 6), intA (gd (varL (dB x.2 0)) 7)⟩, ⟨intA (gd (varL (dB x.2 0)) 8), intA (gd (varL (dB x.2 0)) 9)⟩⟩, sqB Sblower.dec (dB x.2 2)⟩, intA (gd (varL (dB x.2 1)) 0))) (fun p => by kernel_rfl) (y0, y1)

/-! minecontrol/branch.Flow -/
noncomputable def branch_Flow_t (a : SAir) (s : SSetting) (road pressure : Int) : DT (SSpan) :=
 .bind (branch_open a s road) fun z0 =>
 .ite (!z0.2) (
 .leaf (SSpan.mk (0 : Int) (0 : Int))) (
 .bind (branch_first z0.1 pressure) fun z1 =>
 .bind (branch_first_v2 z0.1 pressure) fun z2 =>
 .leaf (SSpan.mk (wr (z1 - (1 : Int))) z2))
noncomputable def branch_Flow_m : FnM := flM (SAir × SSetting × Int × Int) (SSpan) (fun p => ([.agg (SAir.enc p.1), .agg (SSetting.enc p.2.1), .int .i64 p.2.2.1, .int .i64 p.2.2.2], [])) (fun p => branch_Flow_t p.1 p.2.1 p.2.2.1 p.2.2.2) (fun r => .agg (SSpan.enc r)) (fun _ => rfl)
noncomputable def branch_Flow_env : Env := envM [(67, branch_open_m.c), (68, orC [6, 69, 2, 5, 0, 0, 5, 1, 0, 10, 11, 1, 1, 1, 1, 2, 2, 1, 1, 1, 1, 4, 2, 0, 10, 1, 1, 11, 5] branch_first_m.c (branch_first_v2_m.c))] [] [] [] [] 0
theorem branch_Flow_tells : Tells Try.prog 58 branch_Flow_m.c := branch_Flow_m.tells Try.func58 (show ∀ p, arun branch_Flow_env Try.f58 (branch_Flow_m.enc p).1 (branch_Flow_m.enc p).2 = _ from fun p => by kernel_rfl) noLoops (.cons branch_open_tells (.cons (orC_tells branch_first_tells (branch_first_v2_tells)) .nil))
noncomputable def branch_Flow (a : SAir) (s : SSetting) (road pressure : Int) : Option (SSpan) := branch_Flow_m.val (a, s, road, pressure)
theorem branch_Flow_eq (a : SAir) (s : SSetting) (road pressure : Int) : branch_Flow a s road pressure = (branch_Flow_t a s road pressure).get := branch_Flow_m.val_eq (fun x => (SAir.dec (aggL (gd x.1 0)), SSetting.dec (aggL (gd x.1 1)), intA (gd x.1 2), intA (gd x.1 3))) (fun p => by kernel_rfl) (a, s, road, pressure)

/-! (*minecontrol/balance.junction).leaving -/
noncomputable def balance_junction_leaving_t (j : Sjunction) (road pressure : Int) : DT (SSpan) :=
 .bind (plan_Other j.air_.Mine road j.place_) fun z0 =>
 .ite (decide ((0 : Int) ≤ z0 ∧ z0 < ((j.pressures_.n : Nat) : Int))) (
 .ite (decide ((0 : Int) ≤ road ∧ road < ((j.air_.Mine.Roads.n : Nat) : Int))) (
 .ite ((j.air_.Mine.Roads.f (Int.toNat road)).From == j.place_) (
 .bind (branch_Flow j.air_ j.setting_ road (wr (pressure - (j.pressures_.f (Int.toNat z0))))) fun z1 =>
 .leaf z1) (
 .bind (branch_Flow j.air_ j.setting_ road (wr ((j.pressures_.f (Int.toNat z0)) - pressure))) fun z2 =>
 .leaf (SSpan.mk (wr (0 - z2.High)) (wr (0 - z2.Low))))) (
 .fail)) (
 .fail)
noncomputable def balance_junction_leaving_m : FnM := nfM (Sjunction × Int × Int) (SSpan) (fun p => ([.ptr 0 0, .int .i64 p.2.1, .int .i64 p.2.2], [.var [sqA 2 SPlace.enc p.1.air_.Mine.Places, .own 1 0, .own 2 0, .own 3 0, .own 4 0, .own 5 0, sqA 1 (eI .i64) p.1.pressures_, .int .i64 p.1.place_], rowA 0 10 60 SRoad.enc p.1.air_.Mine.Roads, rowA 0 4 83 SFan.enc p.1.air_.Fans, rowA 0 3 72 SDoor.enc p.1.air_.Doors, rowA 0 1 3 (eI .i64) p.1.setting_.Fans, rowA 0 1 3 (eI .i64) p.1.setting_.Doors])) (fun p => balance_junction_leaving_t p.1 p.2.1 p.2.2) (fun r => .agg (SSpan.enc r)) (fun ins _ => [dB ins 0, dB ins 1, dB ins 2, dB ins 3, dB ins 4, dB ins 5])
noncomputable def balance_junction_leaving_env : Env := envM [(57, plan_Other_m.c), (58, branch_Flow_m.c)] [] [] [] [] 6
theorem balance_junction_leaving_tells : Tells Try.prog 48 balance_junction_leaving_m.c := balance_junction_leaving_m.tells Try.func48 (show ∀ p, arun balance_junction_leaving_env Try.f48 (balance_junction_leaving_m.enc p).1 (balance_junction_leaving_m.enc p).2 = _ from fun p => by kernel_rfl) noLoops (.cons plan_Other_tells (.cons branch_Flow_tells .nil))
noncomputable def balance_junction_leaving (j : Sjunction) (road pressure : Int) : Option (SSpan) := balance_junction_leaving_m.val (j, road, pressure)
theorem balance_junction_leaving_eq (j : Sjunction) (road pressure : Int) : balance_junction_leaving j road pressure = (balance_junction_leaving_t j road pressure).get := balance_junction_leaving_m.val_eq (fun x => (⟨⟨⟨sqD SPlace.dec (gd (varL (dB x.2 0)) 0), sqB SRoad.dec (dB x.2 1)⟩, sqB SFan.dec (dB x.2 2), sqB SDoor.dec (dB x.2 3)⟩, ⟨sqB dI (dB x.2 4), sqB dI (dB x.2 5)⟩, sqD dI (gd (varL (dB x.2 0)) 6), intA (gd (varL (dB x.2 0)) 7)⟩, intA (gd x.1 1), intA (gd x.1 2))) (fun p => by kernel_rfl) (j, road, pressure)

/-! (*minecontrol/balance.junction).net -/
noncomputable def balance_junction_net_l3_step (u3_0 : Int) (u3_2 : Sq SPlace) (u3_3 : Sq Int) (u3_4 : Int) (u3_5 : Sq SRoad) (u3_6 : Sq SFan) (u3_7 : Sq SDoor) (u3_8 u3_9 : Sq Int) (u3_10 u3_11 u3_12 : Int) : DT (LR (Int × Int × Int) (Int × Int) (Unit)) :=
 .ite (decide (u3_10 < ((u3_5.n : Nat) : Int))) (
 .bind (balance_junction_leaving (Sjunction.mk (SAir.mk (SMine.mk u3_2 u3_5) u3_6 u3_7) (SSetting.mk u3_8 u3_9) u3_3 u3_4) u3_10 u3_0) fun z0 =>
 .leaf (.next ((wr (u3_10 + (1 : Int))), (wr (u3_11 + z0.Low)), (wr (u3_12 + z0.High))))) (
 .leaf (.l (u3_11, u3_12)))
noncomputable def balance_junction_net_l3_m : LpM := ⟨Int × (Sq SPlace) × (Sq Int) × Int × (Sq SRoad) × (Sq SFan) × (Sq SDoor) × (Sq Int) × (Sq Int), Int × Int × Int, Int × Int, Unit, fun p => ⟨[(0, .ptr 0 0), (1, .int .i64 p.1.1), (4, .ptr 6 0), (5, .ptr 70 0), (14, .int .i64 ((p.1.2.2.2.2.1.n : Nat) : Int)), (15, .int .i64 p.2.1)], [(0, .var [sqA 2 SPlace.enc p.1.2.1, .own 1 0, .own 2 0, .own 3 0, .own 4 0, .own 5 0, sqA 1 (eI .i64) p.1.2.2.1, .int .i64 p.1.2.2.2.1]), (1, rowA 0 10 60 SRoad.enc p.1.2.2.2.2.1), (2, rowA 0 4 83 SFan.enc p.1.2.2.2.2.2.1), (3, rowA 0 3 72 SDoor.enc p.1.2.2.2.2.2.2.1), (4, rowA 0 1 3 (eI .i64) p.1.2.2.2.2.2.2.2.1), (5, rowA 0 1 3 (eI .i64) p.1.2.2.2.2.2.2.2.2), (6, .var [.int .i64 (0 : Int), .int .i64 (0 : Int)]), (70, .var [.int .i64 p.2.2.1, .int .i64 p.2.2.2])], 646⟩, fun f v => balance_junction_net_l3_step f.1 f.2.1 f.2.2.1 f.2.2.2.1 f.2.2.2.2.1 f.2.2.2.2.2.1 f.2.2.2.2.2.2.1 f.2.2.2.2.2.2.2.1 f.2.2.2.2.2.2.2.2 v.1 v.2.1 v.2.2, true, (.exit 0), (fun x a => ⟨[(4, .ptr 6 0), (5, .ptr 70 0)], [(0, blkS x 0), (1, blkS x 1), (2, blkS x 2), (3, blkS x 3), (4, blkS x 4), (5, blkS x 5), (6, .var [.int .i64 (0 : Int), .int .i64 (0 : Int)]), (70, .var [.int .i64 a.1, .int .i64 a.2])], 646⟩), .ret, (fun _ _ => ⟨[], [], 0⟩)⟩
noncomputable def balance_junction_net_l3 (u3_0 : Int) (u3_2 : Sq SPlace) (u3_3 : Sq Int) (u3_4 : Int) (u3_5 : Sq SRoad) (u3_6 : Sq SFan) (u3_7 : Sq SDoor) (u3_8 u3_9 : Sq Int) (u3_10 u3_11 u3_12 : Int) : Option ((Int × Int) ⊕ (Unit)) := balance_junction_net_l3_m.val ((u3_0, u3_2, u3_3, u3_4, u3_5, u3_6, u3_7, u3_8, u3_9), (u3_10, u3_11, u3_12))
theorem balance_junction_net_l3_eq (u3_0 : Int) (u3_2 : Sq SPlace) (u3_3 : Sq Int) (u3_4 : Int) (u3_5 : Sq SRoad) (u3_6 : Sq SFan) (u3_7 : Sq SDoor) (u3_8 u3_9 : Sq Int) (u3_10 u3_11 u3_12 : Int) : balance_junction_net_l3 u3_0 u3_2 u3_3 u3_4 u3_5 u3_6 u3_7 u3_8 u3_9 u3_10 u3_11 u3_12 = fixO (fun v : Int × Int × Int => balance_junction_net_l3_step u3_0 u3_2 u3_3 u3_4 u3_5 u3_6 u3_7 u3_8 u3_9 v.1 v.2.1 v.2.2) (u3_10, u3_11, u3_12) := balance_junction_net_l3_m.val_eq (fun x => ((intA (aget x.tm 1), sqD SPlace.dec (cellS x 0 0), sqD dI (cellS x 0 6), intA (cellS x 0 7), sqB SRoad.dec (blkS x 1), sqB SFan.dec (blkS x 2), sqB SDoor.dec (blkS x 3), sqB dI (blkS x 4), sqB dI (blkS x 5)), (intA (aget x.tm 15), intA (cellS x 70 0), intA (cellS x 70 1)))) (fun p => by kernel_rfl) ((u3_0, u3_2, u3_3, u3_4, u3_5, u3_6, u3_7, u3_8, u3_9), (u3_10, u3_11, u3_12))
noncomputable def balance_junction_net_t (j : Sjunction) (pressure : Int) : DT (SSpan) :=
 .sum (balance_junction_net_l3 pressure j.air_.Mine.Places j.pressures_ j.place_ j.air_.Mine.Roads j.air_.Fans j.air_.Doors j.setting_.Fans j.setting_.Doors (0 : Int) (0 : Int) (0 : Int)) (fun y0 =>
 .leaf (SSpan.mk y0.1 y0.2)) (fun _ => .fail)
noncomputable def balance_junction_net_m : FnM := nfM (Sjunction × Int) (SSpan) (fun p => ([.ptr 0 0, .int .i64 p.2], [.var [sqA 2 SPlace.enc p.1.air_.Mine.Places, .own 1 0, .own 2 0, .own 3 0, .own 4 0, .own 5 0, sqA 1 (eI .i64) p.1.pressures_, .int .i64 p.1.place_], rowA 0 10 60 SRoad.enc p.1.air_.Mine.Roads, rowA 0 4 83 SFan.enc p.1.air_.Fans, rowA 0 3 72 SDoor.enc p.1.air_.Doors, rowA 0 1 3 (eI .i64) p.1.setting_.Fans, rowA 0 1 3 (eI .i64) p.1.setting_.Doors])) (fun p => balance_junction_net_t p.1 p.2) (fun r => .agg (SSpan.enc r)) (fun ins _ => [dB ins 0, dB ins 1, dB ins 2, dB ins 3, dB ins 4, dB ins 5])
noncomputable def balance_junction_net_env : Env := envM [(48, balance_junction_leaving_m.c)] [(3, [0, 1, 4, 5, 14, 15], [4, 5])] [(3, balance_junction_net_l3_m.c)] [] [(3, [0, 1, 2, 3, 4, 5, 6, 70])] 6
noncomputable def balance_junction_net_e : Env := { balance_junction_net_env with nt := 36 }
theorem balance_junction_net_l3_tells : LoopTells balance_junction_net_e (loopOf 3 Try.f31) balance_junction_net_l3_m.c := balance_junction_net_l3_m.tells 646 (fun _ => by kernel_rfl) (fun _ _ _ _ => by kernel_rfl) (fun _ _ _ _ => by kernel_rfl) fun R f v N K => by kernel_rfl
theorem balance_junction_net_tells : Tells Try.prog 31 balance_junction_net_m.c := balance_junction_net_m.tells Try.func31 (show ∀ p, arun balance_junction_net_env Try.f31 (balance_junction_net_m.enc p).1 (balance_junction_net_m.enc p).2 = _ from fun p => by kernel_rfl) (loopsL [loopOf 3 Try.f31] (by kernel_rfl) ⟨lpT (by kernel_rfl) balance_junction_net_l3_tells, trivial⟩) (.cons balance_junction_leaving_tells .nil)
noncomputable def balance_junction_net (j : Sjunction) (pressure : Int) : Option (SSpan) := balance_junction_net_m.val (j, pressure)
theorem balance_junction_net_eq (j : Sjunction) (pressure : Int) : balance_junction_net j pressure = (balance_junction_net_t j pressure).get := balance_junction_net_m.val_eq (fun x => (⟨⟨⟨sqD SPlace.dec (gd (varL (dB x.2 0)) 0), sqB SRoad.dec (dB x.2 1)⟩, sqB SFan.dec (dB x.2 2), sqB SDoor.dec (dB x.2 3)⟩, ⟨sqB dI (dB x.2 4), sqB dI (dB x.2 5)⟩, sqD dI (gd (varL (dB x.2 0)) 6), intA (gd (varL (dB x.2 0)) 7)⟩, intA (gd x.1 1))) (fun p => by kernel_rfl) (j, pressure)

/-! minecontrol/balance.Net -/
noncomputable def balance_Net_t (a : SAir) (s : SSetting) (pressures : Sq Int) (place : Int) : DT (SSpan) :=
 .bind (balance_proper a s pressures place) fun z0 =>
 .ite (!z0) (
 .leaf (SSpan.mk (0 : Int) (0 : Int))) (
 .bind (balance_junctionOf a s pressures place) fun z1 =>
 .ite (decide ((0 : Int) ≤ place ∧ place < ((pressures.n : Nat) : Int))) (
 .bind (balance_junction_net z1 (pressures.f (Int.toNat place))) fun z2 =>
 .leaf z2) (
 .fail))
noncomputable def balance_Net_m : FnM := flM (SAir × SSetting × (Sq Int) × Int) (SSpan) (fun p => ([.agg (SAir.enc p.1), .agg (SSetting.enc p.2.1), sqA 1 (eI .i64) p.2.2.1, .int .i64 p.2.2.2], [])) (fun p => balance_Net_t p.1 p.2.1 p.2.2.1 p.2.2.2) (fun r => .agg (SSpan.enc r)) (fun _ => rfl)
noncomputable def balance_Net_env : Env := envM [(29, balance_proper_m.c), (30, balance_junctionOf_m.c), (31, balance_junction_net_m.c)] [] [] [] [] 0
theorem balance_Net_tells : Tells Try.prog 14 balance_Net_m.c := balance_Net_m.tells Try.func14 (show ∀ p, arun balance_Net_env Try.f14 (balance_Net_m.enc p).1 (balance_Net_m.enc p).2 = _ from fun p => by kernel_rfl) noLoops (.cons balance_proper_tells (.cons balance_junctionOf_tells (.cons balance_junction_net_tells .nil)))
noncomputable def balance_Net (a : SAir) (s : SSetting) (pressures : Sq Int) (place : Int) : Option (SSpan) := balance_Net_m.val (a, s, pressures, place)
theorem balance_Net_eq (a : SAir) (s : SSetting) (pressures : Sq Int) (place : Int) : balance_Net a s pressures place = (balance_Net_t a s pressures place).get := balance_Net_m.val_eq (fun x => (SAir.dec (aggL (gd x.1 0)), SSetting.dec (aggL (gd x.1 1)), sqD dI (gd x.1 2), intA (gd x.1 3))) (fun p => by kernel_rfl) (a, s, pressures, place)

/-! minecontrol/minecontrolref10.right -/
noncomputable def ref10_right_l4_step (u4_0 : Sq Int) (u4_1 : Int) : DT (LR (Int) (Unit) (Unit)) :=
 .ite (decide (u4_1 < ((u4_0.n : Nat) : Int))) (
 .ite (decide ((0 : Int) ≤ u4_1 ∧ u4_1 < ((u4_0.n : Nat) : Int))) (
 .ite (decide ((u4_0.f (Int.toNat u4_1)) < (-70368744177664 : Int))) (
 .leaf (.r ())) (
 .ite (decide ((0 : Int) ≤ u4_1 ∧ u4_1 < ((u4_0.n : Nat) : Int))) (
 .ite (decide ((u4_0.f (Int.toNat u4_1)) > (70368744177664 : Int))) (
 .leaf (.r ())) (
 .leaf (.next (wr (u4_1 + (1 : Int)))))) (
 .fail))) (
 .fail)) (
 .leaf (.l ()))
noncomputable def ref10_right_l4_m : LpM := ⟨(Sq Int), Int, Unit, Unit, fun p => ⟨[(2, sqA 1 (eI .i64) p.1), (9, .int .i64 p.2)], [], 1792⟩, fun f v => ref10_right_l4_step f v, false, (.exit 0), (fun _ _ => ⟨[(8, .undef)], [], 1792⟩), .ret, (fun _ _ => ⟨[(8, .bool false)], [], 1792⟩)⟩
noncomputable def ref10_right_l4 (u4_0 : Sq Int) (u4_1 : Int) : Option ((Unit) ⊕ (Unit)) := ref10_right_l4_m.val (u4_0, u4_1)
theorem ref10_right_l4_eq (u4_0 : Sq Int) (u4_1 : Int) : ref10_right_l4 u4_0 u4_1 = fixO (fun v : Int => ref10_right_l4_step u4_0 v) u4_1 := ref10_right_l4_m.val_eq (fun x => (sqD dI (aget x.tm 2), intA (aget x.tm 9))) (fun p => by kernel_rfl) (u4_0, u4_1)
noncomputable def ref10_right_t (a : SAir) (s : SSetting) (pressures : Sq Int) (place : Int) : DT (Bool) :=
 .bind (ref09_Right a s) fun z0 =>
 .ite (!z0) (
 .leaf false) (
 .ite (((pressures.n : Nat) : Int) != ((a.Mine.Places.n : Nat) : Int)) (
 .leaf false) (
 .ite (decide (place < (0 : Int))) (
 .leaf false) (
 .ite (decide (place ≥ ((pressures.n : Nat) : Int))) (
 .leaf false) (
 .sum (ref10_right_l4 pressures (0 : Int)) (fun _ =>
 .leaf true) (fun _ => .leaf false)))))
noncomputable def ref10_right_m : FnM := flM (SAir × SSetting × (Sq Int) × Int) (Bool) (fun p => ([.agg (SAir.enc p.1), .agg (SSetting.enc p.2.1), sqA 1 (eI .i64) p.2.2.1, .int .i64 p.2.2.2], [])) (fun p => ref10_right_t p.1 p.2.1 p.2.2.1 p.2.2.2) (fun r => .bool r) (fun _ => rfl)
noncomputable def ref10_right_env : Env := envM [(49, ref09_Right_m.c)] [(4, [2, 9], [8])] [(4, ref10_right_l4_m.c)] [] [(4, [])] 0
noncomputable def ref10_right_e : Env := { ref10_right_env with nt := 51 }
theorem ref10_right_l4_tells : LoopTells ref10_right_e (loopOf 4 Try.f32) ref10_right_l4_m.c := ref10_right_l4_m.tells 1792 (fun _ => by kernel_rfl) (fun _ _ _ _ => by kernel_rfl) (fun _ _ _ _ => by kernel_rfl) fun R f v N K => by kernel_rfl
theorem ref10_right_tells : Tells Try.prog 32 ref10_right_m.c := ref10_right_m.tells Try.func32 (show ∀ p, arun ref10_right_env Try.f32 (ref10_right_m.enc p).1 (ref10_right_m.enc p).2 = _ from fun p => by kernel_rfl) (loopsL [loopOf 4 Try.f32] (by kernel_rfl) ⟨lpT (by kernel_rfl) ref10_right_l4_tells, trivial⟩) (.cons ref09_Right_tells .nil)
noncomputable def ref10_right (a : SAir) (s : SSetting) (pressures : Sq Int) (place : Int) : Option (Bool) := ref10_right_m.val (a, s, pressures, place)
theorem ref10_right_eq (a : SAir) (s : SSetting) (pressures : Sq Int) (place : Int) : ref10_right a s pressures place = (ref10_right_t a s pressures place).get := ref10_right_m.val_eq (fun x => (SAir.dec (aggL (gd x.1 0)), SSetting.dec (aggL (gd x.1 1)), sqD dI (gd x.1 2), intA (gd x.1 3))) (fun p => by kernel_rfl) (a, s, pressures, place)

/-! minecontrol/minecontrolref09.Inner -/
noncomputable def ref09_Inner_l4_step (u4_0 _u4_1 : Int) (_u4_2 : Sq SPlace) (_u4_3 : Sq SRoad) (_u4_4 : Sq SFan) (u4_5 : Sq SDoor) (_u4_6 u4_7 : Sq Int) (_u4_8 _u4_9 _u4_10 _u4_11 : Int) (_u4_12 _u4_13 : Bool) (_u4_14 _u4_15 _u4_16 _u4_17 u4_18 u4_19 u4_20 : Int) : DT (LR (Int × Int × Int) (Int × Int) (Unit)) :=
 .ite (decide (u4_18 < ((u4_5.n : Nat) : Int))) (
 .ite (decide ((0 : Int) ≤ u4_18 ∧ u4_18 < ((u4_5.n : Nat) : Int))) (
 .ite ((u4_5.f (Int.toNat u4_18)).Road == u4_0) (
 .ite (decide ((0 : Int) ≤ u4_18 ∧ u4_18 < ((u4_5.n : Nat) : Int))) (
 .ite (decide ((0 : Int) ≤ u4_18 ∧ u4_18 < ((u4_7.n : Nat) : Int))) (
 .bind (ref08_Rest (u4_5.f (Int.toNat u4_18)) (u4_7.f (Int.toNat u4_18))) fun z0 =>
 .leaf (.next ((wr (u4_18 + (1 : Int))), (wr (u4_19 + z0.Low)), (wr (u4_20 + z0.High))))) (
 .fail)) (
 .fail)) (
 .leaf (.next ((wr (u4_18 + (1 : Int))), u4_19, u4_20)))) (
 .fail)) (
 .leaf (.l (u4_19, u4_20)))
noncomputable def ref09_Inner_l4_m : LpM := ⟨Int × Int × (Sq SPlace) × (Sq SRoad) × (Sq SFan) × (Sq SDoor) × (Sq Int) × (Sq Int) × Int × Int × Int × Int × Bool × Bool × Int × Int × Int × Int, Int × Int × Int, Int × Int, Unit, fun p => ⟨[(2, .int .i64 p.1.1), (3, .int .i64 p.1.2.1), (4, .ptr 0 0), (5, .ptr 64 0), (8, .ptr 128 0), (9, .ptr 576 0), (10, .ptr 832 0), (11, .int .i64 p.2.1)], [(0, .var [sqA 2 SPlace.enc p.1.2.2.1, sqA 10 SRoad.enc p.1.2.2.2.1, sqA 4 SFan.enc p.1.2.2.2.2.1, sqA 3 SDoor.enc p.1.2.2.2.2.2.1]), (64, .var [sqA 1 (eI .i64) p.1.2.2.2.2.2.2.1, sqA 1 (eI .i64) p.1.2.2.2.2.2.2.2.1]), (128, .var [.int .i64 (0 : Int), .int .i64 (0 : Int)]), (576, .var [.int .i64 p.1.2.2.2.2.2.2.2.2.1, .int .i64 p.1.2.2.2.2.2.2.2.2.2.1, .int .i64 p.1.2.2.2.2.2.2.2.2.2.2.1, .int .i64 p.1.2.2.2.2.2.2.2.2.2.2.2.1, .bool p.1.2.2.2.2.2.2.2.2.2.2.2.2.1, .bool p.1.2.2.2.2.2.2.2.2.2.2.2.2.2.1, .int .i64 p.1.2.2.2.2.2.2.2.2.2.2.2.2.2.2.1, .int .i64 p.1.2.2.2.2.2.2.2.2.2.2.2.2.2.2.2.1, .int .i64 p.1.2.2.2.2.2.2.2.2.2.2.2.2.2.2.2.2.1, .int .i64 p.1.2.2.2.2.2.2.2.2.2.2.2.2.2.2.2.2.2]), (832, .var [.int .i64 p.2.2.1, .int .i64 p.2.2.2])], 1024⟩, fun f v => ref09_Inner_l4_step f.1 f.2.1 f.2.2.1 f.2.2.2.1 f.2.2.2.2.1 f.2.2.2.2.2.1 f.2.2.2.2.2.2.1 f.2.2.2.2.2.2.2.1 f.2.2.2.2.2.2.2.2.1 f.2.2.2.2.2.2.2.2.2.1 f.2.2.2.2.2.2.2.2.2.2.1 f.2.2.2.2.2.2.2.2.2.2.2.1 f.2.2.2.2.2.2.2.2.2.2.2.2.1 f.2.2.2.2.2.2.2.2.2.2.2.2.2.1 f.2.2.2.2.2.2.2.2.2.2.2.2.2.2.1 f.2.2.2.2.2.2.2.2.2.2.2.2.2.2.2.1 f.2.2.2.2.2.2.2.2.2.2.2.2.2.2.2.2.1 f.2.2.2.2.2.2.2.2.2.2.2.2.2.2.2.2.2 v.1 v.2.1 v.2.2, true, (.exit 0), (fun x a => ⟨[(2, aget x.tm 2), (3, aget x.tm 3), (4, .ptr 0 0), (5, .ptr 64 0), (8, .ptr 128 0), (9, .ptr 576 0), (10, .ptr 832 0)], [(0, blkS x 0), (64, blkS x 64), (128, .var [.int .i64 (0 : Int), .int .i64 (0 : Int)]), (576, blkS x 576), (832, .var [.int .i64 a.1, .int .i64 a.2])], 1024⟩), .ret, (fun _ _ => ⟨[], [], 0⟩)⟩
noncomputable def ref09_Inner_l4 (u4_0 u4_1 : Int) (u4_2 : Sq SPlace) (u4_3 : Sq SRoad) (u4_4 : Sq SFan) (u4_5 : Sq SDoor) (u4_6 u4_7 : Sq Int) (u4_8 u4_9 u4_10 u4_11 : Int) (u4_12 u4_13 : Bool) (u4_14 u4_15 u4_16 u4_17 u4_18 u4_19 u4_20 : Int) : Option ((Int × Int) ⊕ (Unit)) := ref09_Inner_l4_m.val ((u4_0, u4_1, u4_2, u4_3, u4_4, u4_5, u4_6, u4_7, u4_8, u4_9, u4_10, u4_11, u4_12, u4_13, u4_14, u4_15, u4_16, u4_17), (u4_18, u4_19, u4_20))
theorem ref09_Inner_l4_eq (u4_0 u4_1 : Int) (u4_2 : Sq SPlace) (u4_3 : Sq SRoad) (u4_4 : Sq SFan) (u4_5 : Sq SDoor) (u4_6 u4_7 : Sq Int) (u4_8 u4_9 u4_10 u4_11 : Int) (u4_12 u4_13 : Bool) (u4_14 u4_15 u4_16 u4_17 u4_18 u4_19 u4_20 : Int) : ref09_Inner_l4 u4_0 u4_1 u4_2 u4_3 u4_4 u4_5 u4_6 u4_7 u4_8 u4_9 u4_10 u4_11 u4_12 u4_13 u4_14 u4_15 u4_16 u4_17 u4_18 u4_19 u4_20 = fixO (fun v : Int × Int × Int => ref09_Inner_l4_step u4_0 u4_1 u4_2 u4_3 u4_4 u4_5 u4_6 u4_7 u4_8 u4_9 u4_10 u4_11 u4_12 u4_13 u4_14 u4_15 u4_16 u4_17 v.1 v.2.1 v.2.2) (u4_18, u4_19, u4_20) := ref09_Inner_l4_m.val_eq (fun x => ((intA (aget x.tm 2), intA (aget x.tm 3), sqD SPlace.dec (cellS x 0 0), sqD SRoad.dec (cellS x 0 1), sqD SFan.dec (cellS x 0 2), sqD SDoor.dec (cellS x 0 3), sqD dI (cellS x 64 0), sqD dI (cellS x 64 1), intA (cellS x 576 0), intA (cellS x 576 1), intA (cellS x 576 2), intA (cellS x 576 3), boolA (cellS x 576 4), boolA (cellS x 576 5), intA (cellS x 576 6), intA (cellS x 576 7), intA (cellS x 576 8), intA (cellS x 576 9)), (intA (aget x.tm 11), intA (cellS x 832 0), intA (cellS x 832 1)))) (fun p => by kernel_rfl) ((u4_0, u4_1, u4_2, u4_3, u4_4, u4_5, u4_6, u4_7, u4_8, u4_9, u4_10, u4_11, u4_12, u4_13, u4_14, u4_15, u4_16, u4_17), (u4_18, u4_19, u4_20))
noncomputable def ref09_Inner_l14_step (u14_0 u14_1 : Int) (_u14_2 : Sq SPlace) (_u14_3 : Sq SRoad) (u14_4 : Sq SFan) (_u14_5 : Sq SDoor) (u14_6 _u14_7 : Sq Int) (u14_8 u14_9 u14_10 : Int) : DT (LR (Int × Int × Int) (Int × Int) (Unit)) :=
 .ite (decide (u14_10 < ((u14_4.n : Nat) : Int))) (
 .ite (decide ((0 : Int) ≤ u14_10 ∧ u14_10 < ((u14_4.n : Nat) : Int))) (
 .ite ((u14_4.f (Int.toNat u14_10)).Road == u14_0) (
 .ite (decide ((0 : Int) ≤ u14_10 ∧ u14_10 < ((u14_4.n : Nat) : Int))) (
 .ite (decide ((0 : Int) ≤ u14_10 ∧ u14_10 < ((u14_6.n : Nat) : Int))) (
 .bind (ref07_State (u14_4.f (Int.toNat u14_10)) (u14_6.f (Int.toNat u14_10)) u14_1) fun z1 =>
 .leaf (.next ((wr (u14_8 - z1.High)), (wr (u14_9 - z1.Low)), (wr (u14_10 + (1 : Int)))))) (
 .fail)) (
 .fail)) (
 .leaf (.next (u14_8, u14_9, (wr (u14_10 + (1 : Int))))))) (
 .fail)) (
 .leaf (.l (u14_8, u14_9)))
noncomputable def ref09_Inner_l14_m : LpM := ⟨Int × Int × (Sq SPlace) × (Sq SRoad) × (Sq SFan) × (Sq SDoor) × (Sq Int) × (Sq Int), Int × Int × Int, Int × Int, Unit, fun p => ⟨[(2, .int .i64 p.1.1), (3, .int .i64 p.1.2.1), (4, .ptr 0 0), (5, .ptr 64 0), (8, .ptr 128 0), (13, .ptr 1856 0), (14, .int .i64 p.2.2.2)], [(0, .var [sqA 2 SPlace.enc p.1.2.2.1, sqA 10 SRoad.enc p.1.2.2.2.1, sqA 4 SFan.enc p.1.2.2.2.2.1, sqA 3 SDoor.enc p.1.2.2.2.2.2.1]), (64, .var [sqA 1 (eI .i64) p.1.2.2.2.2.2.2.1, sqA 1 (eI .i64) p.1.2.2.2.2.2.2.2]), (128, .var [.int .i64 (0 : Int), .int .i64 (0 : Int)]), (1856, .var [.int .i64 p.2.1, .int .i64 p.2.2.1])], 3712⟩, fun f v => ref09_Inner_l14_step f.1 f.2.1 f.2.2.1 f.2.2.2.1 f.2.2.2.2.1 f.2.2.2.2.2.1 f.2.2.2.2.2.2.1 f.2.2.2.2.2.2.2 v.1 v.2.1 v.2.2, true, (.exit 2), (fun x a => ⟨[(8, .ptr 128 0), (13, .ptr 1856 0)], [(0, blkS x 0), (64, blkS x 64), (128, .var [.int .i64 (0 : Int), .int .i64 (0 : Int)]), (1856, .var [.int .i64 a.1, .int .i64 a.2])], 3712⟩), .ret, (fun _ _ => ⟨[], [], 0⟩)⟩
noncomputable def ref09_Inner_l14 (u14_0 u14_1 : Int) (u14_2 : Sq SPlace) (u14_3 : Sq SRoad) (u14_4 : Sq SFan) (u14_5 : Sq SDoor) (u14_6 u14_7 : Sq Int) (u14_8 u14_9 u14_10 : Int) : Option ((Int × Int) ⊕ (Unit)) := ref09_Inner_l14_m.val ((u14_0, u14_1, u14_2, u14_3, u14_4, u14_5, u14_6, u14_7), (u14_8, u14_9, u14_10))
theorem ref09_Inner_l14_eq (u14_0 u14_1 : Int) (u14_2 : Sq SPlace) (u14_3 : Sq SRoad) (u14_4 : Sq SFan) (u14_5 : Sq SDoor) (u14_6 u14_7 : Sq Int) (u14_8 u14_9 u14_10 : Int) : ref09_Inner_l14 u14_0 u14_1 u14_2 u14_3 u14_4 u14_5 u14_6 u14_7 u14_8 u14_9 u14_10 = fixO (fun v : Int × Int × Int => ref09_Inner_l14_step u14_0 u14_1 u14_2 u14_3 u14_4 u14_5 u14_6 u14_7 v.1 v.2.1 v.2.2) (u14_8, u14_9, u14_10) := ref09_Inner_l14_m.val_eq (fun x => ((intA (aget x.tm 2), intA (aget x.tm 3), sqD SPlace.dec (cellS x 0 0), sqD SRoad.dec (cellS x 0 1), sqD SFan.dec (cellS x 0 2), sqD SDoor.dec (cellS x 0 3), sqD dI (cellS x 64 0), sqD dI (cellS x 64 1)), (intA (cellS x 1856 0), intA (cellS x 1856 1), intA (aget x.tm 14)))) (fun p => by kernel_rfl) ((u14_0, u14_1, u14_2, u14_3, u14_4, u14_5, u14_6, u14_7), (u14_8, u14_9, u14_10))
noncomputable def ref09_Inner_t (a : SAir) (s : SSetting) (road flow : Int) : DT (SSpan) :=
 .ite (decide ((0 : Int) ≤ road ∧ road < ((a.Mine.Roads.n : Nat) : Int))) (
 .sum (ref09_Inner_l4 road flow a.Mine.Places a.Mine.Roads a.Fans a.Doors s.Fans s.Doors (a.Mine.Roads.f (Int.toNat road)).From (a.Mine.Roads.f (Int.toNat road)).To (a.Mine.Roads.f (Int.toNat road)).Length (a.Mine.Roads.f (Int.toNat road)).Area (a.Mine.Roads.f (Int.toNat road)).Walk (a.Mine.Roads.f (Int.toNat road)).Closed (a.Mine.Roads.f (Int.toNat road)).Rest.Low (a.Mine.Roads.f (Int.toNat road)).Rest.High (a.Mine.Roads.f (Int.toNat road)).Lift.Low (a.Mine.Roads.f (Int.toNat road)).Lift.High (0 : Int) (a.Mine.Roads.f (Int.toNat road)).Rest.Low (a.Mine.Roads.f (Int.toNat road)).Rest.High) (fun y0 =>
 .ite (decide (flow < (0 : Int))) (
 .sum (ref09_Inner_l14 road flow a.Mine.Places a.Mine.Roads a.Fans a.Doors s.Fans s.Doors (wr ((wr (0 - (wr ((wr (y0.2 * flow)) * flow)))) - (a.Mine.Roads.f (Int.toNat road)).Lift.High)) (wr ((wr (0 - (wr ((wr (y0.1 * flow)) * flow)))) - (a.Mine.Roads.f (Int.toNat road)).Lift.Low)) (0 : Int)) (fun y1 =>
 .leaf (SSpan.mk y1.1 y1.2)) (fun _ => .fail)) (
 .sum (ref09_Inner_l14 road flow a.Mine.Places a.Mine.Roads a.Fans a.Doors s.Fans s.Doors (wr ((wr ((wr (y0.1 * flow)) * flow)) - (a.Mine.Roads.f (Int.toNat road)).Lift.High)) (wr ((wr ((wr (y0.2 * flow)) * flow)) - (a.Mine.Roads.f (Int.toNat road)).Lift.Low)) (0 : Int)) (fun y2 =>
 .leaf (SSpan.mk y2.1 y2.2)) (fun _ => .fail))) (fun _ => .fail)) (
 .fail)
noncomputable def ref09_Inner_m : FnM := flM (SAir × SSetting × Int × Int) (SSpan) (fun p => ([.agg (SAir.enc p.1), .agg (SSetting.enc p.2.1), .int .i64 p.2.2.1, .int .i64 p.2.2.2], [])) (fun p => ref09_Inner_t p.1 p.2.1 p.2.2.1 p.2.2.2) (fun r => .agg (SSpan.enc r)) (fun _ => rfl)
noncomputable def ref09_Inner_env : Env := envM [(42, ref08_Rest_m.c), (43, ref07_State_m.c)] [(4, [2, 3, 4, 5, 8, 9, 10, 11], [2, 3, 4, 5, 8, 9, 10]), (14, [2, 3, 4, 5, 8, 13, 14], [8, 13])] [(4, ref09_Inner_l4_m.c), (14, ref09_Inner_l14_m.c)] [] [(4, [0, 64, 128, 576, 832]), (14, [0, 64, 128, 1856])] 0
noncomputable def ref09_Inner_e : Env := { ref09_Inner_env with nt := 138 }
theorem ref09_Inner_l4_tells : LoopTells ref09_Inner_e (loopOf 4 Try.f60) ref09_Inner_l4_m.c := ref09_Inner_l4_m.tells 1024 (fun _ => by kernel_rfl) (fun _ _ _ _ => by kernel_rfl) (fun _ _ _ _ => by kernel_rfl) fun R f v N K => by kernel_rfl
theorem ref09_Inner_l14_tells : LoopTells ref09_Inner_e (loopOf 14 Try.f60) ref09_Inner_l14_m.c := ref09_Inner_l14_m.tells 3712 (fun _ => by kernel_rfl) (fun _ _ _ _ => by kernel_rfl) (fun _ _ _ _ => by kernel_rfl) fun R f v N K => by kernel_rfl
theorem ref09_Inner_tells : Tells Try.prog 60 ref09_Inner_m.c := ref09_Inner_m.tells Try.func60 (show ∀ p, arun ref09_Inner_env Try.f60 (ref09_Inner_m.enc p).1 (ref09_Inner_m.enc p).2 = _ from fun p => by kernel_rfl) (loopsL [loopOf 4 Try.f60, loopOf 14 Try.f60] (by kernel_rfl) ⟨lpT (by kernel_rfl) ref09_Inner_l4_tells, ⟨lpT (by kernel_rfl) ref09_Inner_l14_tells, trivial⟩⟩) (.cons ref08_Rest_tells (.cons ref07_State_tells .nil))
noncomputable def ref09_Inner (a : SAir) (s : SSetting) (road flow : Int) : Option (SSpan) := ref09_Inner_m.val (a, s, road, flow)
theorem ref09_Inner_eq (a : SAir) (s : SSetting) (road flow : Int) : ref09_Inner a s road flow = (ref09_Inner_t a s road flow).get := ref09_Inner_m.val_eq (fun x => (SAir.dec (aggL (gd x.1 0)), SSetting.dec (aggL (gd x.1 1)), intA (gd x.1 2), intA (gd x.1 3))) (fun p => by kernel_rfl) (a, s, road, flow)

/-! minecontrol/minecontrolref09.Lowest -/
noncomputable def ref09_Lowest_l2_step (u2_0 u2_1 : Int) (u2_2 : Sq SPlace) (u2_3 : Sq SRoad) (u2_4 : Sq SFan) (u2_5 : Sq SDoor) (u2_6 u2_7 : Sq Int) (u2_8 u2_9 : Int) : DT (LR (Int × Int) (Int) (Unit)) :=
 .ite (decide (u2_8 < u2_9)) (
 .bind (ref09_Inner (SAir.mk (SMine.mk u2_2 u2_3) u2_4 u2_5) (SSetting.mk u2_6 u2_7) u2_0 (wr (u2_8 + (wr (Int.tdiv (wr ((wr (u2_9 - u2_8)) + (1 : Int))) (2 : Int)))))) fun z0 =>
 .ite (decide (z0.High ≤ u2_1)) (
 .leaf (.next ((wr (u2_8 + (wr (Int.tdiv (wr ((wr (u2_9 - u2_8)) + (1 : Int))) (2 : Int))))), u2_9))) (
 .leaf (.next (u2_8, (wr ((wr (u2_8 + (wr (Int.tdiv (wr ((wr (u2_9 - u2_8)) + (1 : Int))) (2 : Int))))) - (1 : Int))))))) (
 .leaf (.l u2_8))
noncomputable def ref09_Lowest_l2_m : LpM := ⟨Int × Int × (Sq SPlace) × (Sq SRoad) × (Sq SFan) × (Sq SDoor) × (Sq Int) × (Sq Int), Int × Int, Int, Unit, fun p => ⟨[(2, .int .i64 p.1.1), (3, .int .i64 p.1.2.1), (4, .ptr 0 0), (5, .ptr 64 0), (9, .int .i64 p.2.1), (10, .int .i64 p.2.2)], [(0, .var [sqA 2 SPlace.enc p.1.2.2.1, sqA 10 SRoad.enc p.1.2.2.2.1, sqA 4 SFan.enc p.1.2.2.2.2.1, sqA 3 SDoor.enc p.1.2.2.2.2.2.1]), (64, .var [sqA 1 (eI .i64) p.1.2.2.2.2.2.2.1, sqA 1 (eI .i64) p.1.2.2.2.2.2.2.2])], 320⟩, fun f v => ref09_Lowest_l2_step f.1 f.2.1 f.2.2.1 f.2.2.2.1 f.2.2.2.2.1 f.2.2.2.2.2.1 f.2.2.2.2.2.2.1 f.2.2.2.2.2.2.2 v.1 v.2, true, (.exit 0), (fun x a => ⟨[(9, .int .i64 a)], [(0, blkS x 0), (64, blkS x 64)], 320⟩), .ret, (fun _ _ => ⟨[], [], 0⟩)⟩
noncomputable def ref09_Lowest_l2 (u2_0 u2_1 : Int) (u2_2 : Sq SPlace) (u2_3 : Sq SRoad) (u2_4 : Sq SFan) (u2_5 : Sq SDoor) (u2_6 u2_7 : Sq Int) (u2_8 u2_9 : Int) : Option ((Int) ⊕ (Unit)) := ref09_Lowest_l2_m.val ((u2_0, u2_1, u2_2, u2_3, u2_4, u2_5, u2_6, u2_7), (u2_8, u2_9))
theorem ref09_Lowest_l2_eq (u2_0 u2_1 : Int) (u2_2 : Sq SPlace) (u2_3 : Sq SRoad) (u2_4 : Sq SFan) (u2_5 : Sq SDoor) (u2_6 u2_7 : Sq Int) (u2_8 u2_9 : Int) : ref09_Lowest_l2 u2_0 u2_1 u2_2 u2_3 u2_4 u2_5 u2_6 u2_7 u2_8 u2_9 = fixO (fun v : Int × Int => ref09_Lowest_l2_step u2_0 u2_1 u2_2 u2_3 u2_4 u2_5 u2_6 u2_7 v.1 v.2) (u2_8, u2_9) := ref09_Lowest_l2_m.val_eq (fun x => ((intA (aget x.tm 2), intA (aget x.tm 3), sqD SPlace.dec (cellS x 0 0), sqD SRoad.dec (cellS x 0 1), sqD SFan.dec (cellS x 0 2), sqD SDoor.dec (cellS x 0 3), sqD dI (cellS x 64 0), sqD dI (cellS x 64 1)), (intA (aget x.tm 9), intA (aget x.tm 10)))) (fun p => by kernel_rfl) ((u2_0, u2_1, u2_2, u2_3, u2_4, u2_5, u2_6, u2_7), (u2_8, u2_9))
noncomputable def ref09_Lowest_t (a : SAir) (s : SSetting) (road pressure : Int) : DT (Int) :=
 .sum (ref09_Lowest_l2 road pressure a.Mine.Places a.Mine.Roads a.Fans a.Doors s.Fans s.Doors (-1048577 : Int) (1048576 : Int)) (fun y0 =>
 .leaf y0) (fun _ => .fail)
noncomputable def ref09_Lowest_m : FnM := flM (SAir × SSetting × Int × Int) (Int) (fun p => ([.agg (SAir.enc p.1), .agg (SSetting.enc p.2.1), .int .i64 p.2.2.1, .int .i64 p.2.2.2], [])) (fun p => ref09_Lowest_t p.1 p.2.1 p.2.2.1 p.2.2.2) (fun r => .int .i64 r) (fun _ => rfl)
noncomputable def ref09_Lowest_env : Env := envM [(60, ref09_Inner_m.c)] [(2, [2, 3, 4, 5, 9, 10], [9])] [(2, ref09_Lowest_l2_m.c)] [] [(2, [0, 64])] 0
noncomputable def ref09_Lowest_e : Env := { ref09_Lowest_env with nt := 34 }
theorem ref09_Lowest_l2_tells : LoopTells ref09_Lowest_e (loopOf 2 Try.f50) ref09_Lowest_l2_m.c := ref09_Lowest_l2_m.tells 320 (fun _ => by kernel_rfl) (fun _ _ _ _ => by kernel_rfl) (fun _ _ _ _ => by kernel_rfl) fun R f v N K => by kernel_rfl
theorem ref09_Lowest_tells : Tells Try.prog 50 ref09_Lowest_m.c := ref09_Lowest_m.tells Try.func50 (show ∀ p, arun ref09_Lowest_env Try.f50 (ref09_Lowest_m.enc p).1 (ref09_Lowest_m.enc p).2 = _ from fun p => by kernel_rfl) (loopsL [loopOf 2 Try.f50] (by kernel_rfl) ⟨lpT (by kernel_rfl) ref09_Lowest_l2_tells, trivial⟩) (.cons ref09_Inner_tells .nil)
noncomputable def ref09_Lowest (a : SAir) (s : SSetting) (road pressure : Int) : Option (Int) := ref09_Lowest_m.val (a, s, road, pressure)
theorem ref09_Lowest_eq (a : SAir) (s : SSetting) (road pressure : Int) : ref09_Lowest a s road pressure = (ref09_Lowest_t a s road pressure).get := ref09_Lowest_m.val_eq (fun x => (SAir.dec (aggL (gd x.1 0)), SSetting.dec (aggL (gd x.1 1)), intA (gd x.1 2), intA (gd x.1 3))) (fun p => by kernel_rfl) (a, s, road, pressure)

/-! minecontrol/minecontrolref09.Highest -/
noncomputable def ref09_Highest_l2_step (u2_0 u2_1 : Int) (u2_2 : Sq SPlace) (u2_3 : Sq SRoad) (u2_4 : Sq SFan) (u2_5 : Sq SDoor) (u2_6 u2_7 : Sq Int) (u2_8 u2_9 : Int) : DT (LR (Int × Int) (Int) (Unit)) :=
 .ite (decide (u2_9 < u2_8)) (
 .bind (ref09_Inner (SAir.mk (SMine.mk u2_2 u2_3) u2_4 u2_5) (SSetting.mk u2_6 u2_7) u2_0 (wr (u2_9 + (wr (Int.tdiv (wr (u2_8 - u2_9)) (2 : Int)))))) fun z0 =>
 .ite (decide (z0.Low ≥ u2_1)) (
 .leaf (.next ((wr (u2_9 + (wr (Int.tdiv (wr (u2_8 - u2_9)) (2 : Int))))), u2_9))) (
 .leaf (.next (u2_8, (wr ((wr (u2_9 + (wr (Int.tdiv (wr (u2_8 - u2_9)) (2 : Int))))) + (1 : Int))))))) (
 .leaf (.l u2_9))
noncomputable def ref09_Highest_l2_m : LpM := ⟨Int × Int × (Sq SPlace) × (Sq SRoad) × (Sq SFan) × (Sq SDoor) × (Sq Int) × (Sq Int), Int × Int, Int, Unit, fun p => ⟨[(2, .int .i64 p.1.1), (3, .int .i64 p.1.2.1), (4, .ptr 0 0), (5, .ptr 64 0), (9, .int .i64 p.2.2), (10, .int .i64 p.2.1)], [(0, .var [sqA 2 SPlace.enc p.1.2.2.1, sqA 10 SRoad.enc p.1.2.2.2.1, sqA 4 SFan.enc p.1.2.2.2.2.1, sqA 3 SDoor.enc p.1.2.2.2.2.2.1]), (64, .var [sqA 1 (eI .i64) p.1.2.2.2.2.2.2.1, sqA 1 (eI .i64) p.1.2.2.2.2.2.2.2])], 320⟩, fun f v => ref09_Highest_l2_step f.1 f.2.1 f.2.2.1 f.2.2.2.1 f.2.2.2.2.1 f.2.2.2.2.2.1 f.2.2.2.2.2.2.1 f.2.2.2.2.2.2.2 v.1 v.2, true, (.exit 0), (fun x a => ⟨[(9, .int .i64 a)], [(0, blkS x 0), (64, blkS x 64)], 320⟩), .ret, (fun _ _ => ⟨[], [], 0⟩)⟩
noncomputable def ref09_Highest_l2 (u2_0 u2_1 : Int) (u2_2 : Sq SPlace) (u2_3 : Sq SRoad) (u2_4 : Sq SFan) (u2_5 : Sq SDoor) (u2_6 u2_7 : Sq Int) (u2_8 u2_9 : Int) : Option ((Int) ⊕ (Unit)) := ref09_Highest_l2_m.val ((u2_0, u2_1, u2_2, u2_3, u2_4, u2_5, u2_6, u2_7), (u2_8, u2_9))
theorem ref09_Highest_l2_eq (u2_0 u2_1 : Int) (u2_2 : Sq SPlace) (u2_3 : Sq SRoad) (u2_4 : Sq SFan) (u2_5 : Sq SDoor) (u2_6 u2_7 : Sq Int) (u2_8 u2_9 : Int) : ref09_Highest_l2 u2_0 u2_1 u2_2 u2_3 u2_4 u2_5 u2_6 u2_7 u2_8 u2_9 = fixO (fun v : Int × Int => ref09_Highest_l2_step u2_0 u2_1 u2_2 u2_3 u2_4 u2_5 u2_6 u2_7 v.1 v.2) (u2_8, u2_9) := ref09_Highest_l2_m.val_eq (fun x => ((intA (aget x.tm 2), intA (aget x.tm 3), sqD SPlace.dec (cellS x 0 0), sqD SRoad.dec (cellS x 0 1), sqD SFan.dec (cellS x 0 2), sqD SDoor.dec (cellS x 0 3), sqD dI (cellS x 64 0), sqD dI (cellS x 64 1)), (intA (aget x.tm 10), intA (aget x.tm 9)))) (fun p => by kernel_rfl) ((u2_0, u2_1, u2_2, u2_3, u2_4, u2_5, u2_6, u2_7), (u2_8, u2_9))
noncomputable def ref09_Highest_t (a : SAir) (s : SSetting) (road pressure : Int) : DT (Int) :=
 .sum (ref09_Highest_l2 road pressure a.Mine.Places a.Mine.Roads a.Fans a.Doors s.Fans s.Doors (1048577 : Int) (-1048576 : Int)) (fun y0 =>
 .leaf y0) (fun _ => .fail)
noncomputable def ref09_Highest_m : FnM := flM (SAir × SSetting × Int × Int) (Int) (fun p => ([.agg (SAir.enc p.1), .agg (SSetting.enc p.2.1), .int .i64 p.2.2.1, .int .i64 p.2.2.2], [])) (fun p => ref09_Highest_t p.1 p.2.1 p.2.2.1 p.2.2.2) (fun r => .int .i64 r) (fun _ => rfl)
noncomputable def ref09_Highest_env : Env := envM [(60, ref09_Inner_m.c)] [(2, [2, 3, 4, 5, 9, 10], [9])] [(2, ref09_Highest_l2_m.c)] [] [(2, [0, 64])] 0
noncomputable def ref09_Highest_e : Env := { ref09_Highest_env with nt := 33 }
theorem ref09_Highest_l2_tells : LoopTells ref09_Highest_e (loopOf 2 Try.f51) ref09_Highest_l2_m.c := ref09_Highest_l2_m.tells 320 (fun _ => by kernel_rfl) (fun _ _ _ _ => by kernel_rfl) (fun _ _ _ _ => by kernel_rfl) fun R f v N K => by kernel_rfl
theorem ref09_Highest_tells : Tells Try.prog 51 ref09_Highest_m.c := ref09_Highest_m.tells Try.func51 (show ∀ p, arun ref09_Highest_env Try.f51 (ref09_Highest_m.enc p).1 (ref09_Highest_m.enc p).2 = _ from fun p => by kernel_rfl) (loopsL [loopOf 2 Try.f51] (by kernel_rfl) ⟨lpT (by kernel_rfl) ref09_Highest_l2_tells, trivial⟩) (.cons ref09_Inner_tells .nil)
noncomputable def ref09_Highest (a : SAir) (s : SSetting) (road pressure : Int) : Option (Int) := ref09_Highest_m.val (a, s, road, pressure)
theorem ref09_Highest_eq (a : SAir) (s : SSetting) (road pressure : Int) : ref09_Highest a s road pressure = (ref09_Highest_t a s road pressure).get := ref09_Highest_m.val_eq (fun x => (SAir.dec (aggL (gd x.1 0)), SSetting.dec (aggL (gd x.1 1)), intA (gd x.1 2), intA (gd x.1 3))) (fun p => by kernel_rfl) (a, s, road, pressure)

/-! minecontrol/minecontrolref10.Lowest -/
noncomputable def ref10_Lowest_l3_step (u3_0 : Sq Int) (u3_1 : Int) (u3_2 : Sq SPlace) (u3_3 : Sq SRoad) (u3_4 : Sq SFan) (u3_5 : Sq SDoor) (u3_6 u3_7 : Sq Int) (u3_8 u3_9 : Int) : DT (LR (Int × Int) (Int) (Unit)) :=
 .ite (decide (u3_8 < ((u3_3.n : Nat) : Int))) (
 .ite (decide ((0 : Int) ≤ u3_8 ∧ u3_8 < ((u3_3.n : Nat) : Int))) (
 .ite (u3_3.f (Int.toNat u3_8)).Closed (
 .leaf (.next ((wr (u3_8 + (1 : Int))), u3_9))) (
 .ite ((u3_3.f (Int.toNat u3_8)).From == u3_1) (
 .ite (decide ((0 : Int) ≤ (u3_3.f (Int.toNat u3_8)).From ∧ (u3_3.f (Int.toNat u3_8)).From < ((u3_0.n : Nat) : Int))) (
 .ite (decide ((0 : Int) ≤ (u3_3.f (Int.toNat u3_8)).To ∧ (u3_3.f (Int.toNat u3_8)).To < ((u3_0.n : Nat) : Int))) (
 .bind (ref09_Lowest (SAir.mk (SMine.mk u3_2 u3_3) u3_4 u3_5) (SSetting.mk u3_6 u3_7) u3_8 (wr ((u3_0.f (Int.toNat (u3_3.f (Int.toNat u3_8)).From)) - (u3_0.f (Int.toNat (u3_3.f (Int.toNat u3_8)).To))))) fun z0 =>
 .ite ((u3_3.f (Int.toNat u3_8)).To == u3_1) (
 .ite (decide ((0 : Int) ≤ (u3_3.f (Int.toNat u3_8)).From ∧ (u3_3.f (Int.toNat u3_8)).From < ((u3_0.n : Nat) : Int))) (
 .ite (decide ((0 : Int) ≤ (u3_3.f (Int.toNat u3_8)).To ∧ (u3_3.f (Int.toNat u3_8)).To < ((u3_0.n : Nat) : Int))) (
 .bind (ref09_Highest (SAir.mk (SMine.mk u3_2 u3_3) u3_4 u3_5) (SSetting.mk u3_6 u3_7) u3_8 (wr ((u3_0.f (Int.toNat (u3_3.f (Int.toNat u3_8)).From)) - (u3_0.f (Int.toNat (u3_3.f (Int.toNat u3_8)).To))))) fun z1 =>
 .leaf (.next ((wr (u3_8 + (1 : Int))), (wr ((wr (u3_9 + z0)) - z1))))) (
 .fail)) (
 .fail)) (
 .leaf (.next ((wr (u3_8 + (1 : Int))), (wr (u3_9 + z0)))))) (
 .fail)) (
 .fail)) (
 .ite ((u3_3.f (Int.toNat u3_8)).To == u3_1) (
 .ite (decide ((0 : Int) ≤ (u3_3.f (Int.toNat u3_8)).From ∧ (u3_3.f (Int.toNat u3_8)).From < ((u3_0.n : Nat) : Int))) (
 .ite (decide ((0 : Int) ≤ (u3_3.f (Int.toNat u3_8)).To ∧ (u3_3.f (Int.toNat u3_8)).To < ((u3_0.n : Nat) : Int))) (
 .bind (ref09_Highest (SAir.mk (SMine.mk u3_2 u3_3) u3_4 u3_5) (SSetting.mk u3_6 u3_7) u3_8 (wr ((u3_0.f (Int.toNat (u3_3.f (Int.toNat u3_8)).From)) - (u3_0.f (Int.toNat (u3_3.f (Int.toNat u3_8)).To))))) fun z2 =>
 .leaf (.next ((wr (u3_8 + (1 : Int))), (wr (u3_9 - z2))))) (
 .fail)) (
 .fail)) (
 .leaf (.next ((wr (u3_8 + (1 : Int))), u3_9)))))) (
 .fail)) (
 .leaf (.l u3_9))
noncomputable def ref10_Lowest_l3_m : LpM := ⟨(Sq Int) × Int × (Sq SPlace) × (Sq SRoad) × (Sq SFan) × (Sq SDoor) × (Sq Int) × (Sq Int), Int × Int, Int, Unit, fun p => ⟨[(2, sqA 1 (eI .i64) p.1.1), (3, .int .i64 p.1.2.1), (4, .ptr 0 0), (5, .ptr 64 0), (9, .int .i64 p.2.2), (10, .int .i64 p.2.1)], [(0, .var [sqA 2 SPlace.enc p.1.2.2.1, sqA 10 SRoad.enc p.1.2.2.2.1, sqA 4 SFan.enc p.1.2.2.2.2.1, sqA 3 SDoor.enc p.1.2.2.2.2.2.1]), (64, .var [sqA 1 (eI .i64) p.1.2.2.2.2.2.2.1, sqA 1 (eI .i64) p.1.2.2.2.2.2.2.2])], 320⟩, fun f v => ref10_Lowest_l3_step f.1 f.2.1 f.2.2.1 f.2.2.2.1 f.2.2.2.2.1 f.2.2.2.2.2.1 f.2.2.2.2.2.2.1 f.2.2.2.2.2.2.2 v.1 v.2, true, (.exit 0), (fun x a => ⟨[(9, .int .i64 a)], [(0, blkS x 0), (64, blkS x 64)], 320⟩), .ret, (fun _ _ => ⟨[], [], 0⟩)⟩
noncomputable def ref10_Lowest_l3 (u3_0 : Sq Int) (u3_1 : Int) (u3_2 : Sq SPlace) (u3_3 : Sq SRoad) (u3_4 : Sq SFan) (u3_5 : Sq SDoor) (u3_6 u3_7 : Sq Int) (u3_8 u3_9 : Int) : Option ((Int) ⊕ (Unit)) := ref10_Lowest_l3_m.val ((u3_0, u3_1, u3_2, u3_3, u3_4, u3_5, u3_6, u3_7), (u3_8, u3_9))
theorem ref10_Lowest_l3_eq (u3_0 : Sq Int) (u3_1 : Int) (u3_2 : Sq SPlace) (u3_3 : Sq SRoad) (u3_4 : Sq SFan) (u3_5 : Sq SDoor) (u3_6 u3_7 : Sq Int) (u3_8 u3_9 : Int) : ref10_Lowest_l3 u3_0 u3_1 u3_2 u3_3 u3_4 u3_5 u3_6 u3_7 u3_8 u3_9 = fixO (fun v : Int × Int => ref10_Lowest_l3_step u3_0 u3_1 u3_2 u3_3 u3_4 u3_5 u3_6 u3_7 v.1 v.2) (u3_8, u3_9) := ref10_Lowest_l3_m.val_eq (fun x => ((sqD dI (aget x.tm 2), intA (aget x.tm 3), sqD SPlace.dec (cellS x 0 0), sqD SRoad.dec (cellS x 0 1), sqD SFan.dec (cellS x 0 2), sqD SDoor.dec (cellS x 0 3), sqD dI (cellS x 64 0), sqD dI (cellS x 64 1)), (intA (aget x.tm 10), intA (aget x.tm 9)))) (fun p => by kernel_rfl) ((u3_0, u3_1, u3_2, u3_3, u3_4, u3_5, u3_6, u3_7), (u3_8, u3_9))
noncomputable def ref10_Lowest_t (a : SAir) (s : SSetting) (pressures : Sq Int) (place : Int) : DT (Int) :=
 .sum (ref10_Lowest_l3 pressures place a.Mine.Places a.Mine.Roads a.Fans a.Doors s.Fans s.Doors (0 : Int) (0 : Int)) (fun y0 =>
 .leaf y0) (fun _ => .fail)
noncomputable def ref10_Lowest_m : FnM := flM (SAir × SSetting × (Sq Int) × Int) (Int) (fun p => ([.agg (SAir.enc p.1), .agg (SSetting.enc p.2.1), sqA 1 (eI .i64) p.2.2.1, .int .i64 p.2.2.2], [])) (fun p => ref10_Lowest_t p.1 p.2.1 p.2.2.1 p.2.2.2) (fun r => .int .i64 r) (fun _ => rfl)
noncomputable def ref10_Lowest_env : Env := envM [(50, ref09_Lowest_m.c), (51, ref09_Highest_m.c)] [(3, [2, 3, 4, 5, 9, 10], [9])] [(3, ref10_Lowest_l3_m.c)] [] [(3, [0, 64])] 0
noncomputable def ref10_Lowest_e : Env := { ref10_Lowest_env with nt := 71 }
theorem ref10_Lowest_l3_tells : LoopTells ref10_Lowest_e (loopOf 3 Try.f33) ref10_Lowest_l3_m.c := ref10_Lowest_l3_m.tells 320 (fun _ => by kernel_rfl) (fun _ _ _ _ => by kernel_rfl) (fun _ _ _ _ => by kernel_rfl) fun R f v N K => by kernel_rfl
theorem ref10_Lowest_tells : Tells Try.prog 33 ref10_Lowest_m.c := ref10_Lowest_m.tells Try.func33 (show ∀ p, arun ref10_Lowest_env Try.f33 (ref10_Lowest_m.enc p).1 (ref10_Lowest_m.enc p).2 = _ from fun p => by kernel_rfl) (loopsL [loopOf 3 Try.f33] (by kernel_rfl) ⟨lpT (by kernel_rfl) ref10_Lowest_l3_tells, trivial⟩) (.cons ref09_Lowest_tells (.cons ref09_Highest_tells .nil))
noncomputable def ref10_Lowest (a : SAir) (s : SSetting) (pressures : Sq Int) (place : Int) : Option (Int) := ref10_Lowest_m.val (a, s, pressures, place)
theorem ref10_Lowest_eq (a : SAir) (s : SSetting) (pressures : Sq Int) (place : Int) : ref10_Lowest a s pressures place = (ref10_Lowest_t a s pressures place).get := ref10_Lowest_m.val_eq (fun x => (SAir.dec (aggL (gd x.1 0)), SSetting.dec (aggL (gd x.1 1)), sqD dI (gd x.1 2), intA (gd x.1 3))) (fun p => by kernel_rfl) (a, s, pressures, place)

/-! minecontrol/minecontrolref10.Highest -/
noncomputable def ref10_Highest_l3_step (u3_0 : Sq Int) (u3_1 : Int) (u3_2 : Sq SPlace) (u3_3 : Sq SRoad) (u3_4 : Sq SFan) (u3_5 : Sq SDoor) (u3_6 u3_7 : Sq Int) (u3_8 u3_9 : Int) : DT (LR (Int × Int) (Int) (Unit)) :=
 .ite (decide (u3_8 < ((u3_3.n : Nat) : Int))) (
 .ite (decide ((0 : Int) ≤ u3_8 ∧ u3_8 < ((u3_3.n : Nat) : Int))) (
 .ite (u3_3.f (Int.toNat u3_8)).Closed (
 .leaf (.next ((wr (u3_8 + (1 : Int))), u3_9))) (
 .ite ((u3_3.f (Int.toNat u3_8)).From == u3_1) (
 .ite (decide ((0 : Int) ≤ (u3_3.f (Int.toNat u3_8)).From ∧ (u3_3.f (Int.toNat u3_8)).From < ((u3_0.n : Nat) : Int))) (
 .ite (decide ((0 : Int) ≤ (u3_3.f (Int.toNat u3_8)).To ∧ (u3_3.f (Int.toNat u3_8)).To < ((u3_0.n : Nat) : Int))) (
 .bind (ref09_Highest (SAir.mk (SMine.mk u3_2 u3_3) u3_4 u3_5) (SSetting.mk u3_6 u3_7) u3_8 (wr ((u3_0.f (Int.toNat (u3_3.f (Int.toNat u3_8)).From)) - (u3_0.f (Int.toNat (u3_3.f (Int.toNat u3_8)).To))))) fun z0 =>
 .ite ((u3_3.f (Int.toNat u3_8)).To == u3_1) (
 .ite (decide ((0 : Int) ≤ (u3_3.f (Int.toNat u3_8)).From ∧ (u3_3.f (Int.toNat u3_8)).From < ((u3_0.n : Nat) : Int))) (
 .ite (decide ((0 : Int) ≤ (u3_3.f (Int.toNat u3_8)).To ∧ (u3_3.f (Int.toNat u3_8)).To < ((u3_0.n : Nat) : Int))) (
 .bind (ref09_Lowest (SAir.mk (SMine.mk u3_2 u3_3) u3_4 u3_5) (SSetting.mk u3_6 u3_7) u3_8 (wr ((u3_0.f (Int.toNat (u3_3.f (Int.toNat u3_8)).From)) - (u3_0.f (Int.toNat (u3_3.f (Int.toNat u3_8)).To))))) fun z1 =>
 .leaf (.next ((wr (u3_8 + (1 : Int))), (wr ((wr (u3_9 + z0)) - z1))))) (
 .fail)) (
 .fail)) (
 .leaf (.next ((wr (u3_8 + (1 : Int))), (wr (u3_9 + z0)))))) (
 .fail)) (
 .fail)) (
 .ite ((u3_3.f (Int.toNat u3_8)).To == u3_1) (
 .ite (decide ((0 : Int) ≤ (u3_3.f (Int.toNat u3_8)).From ∧ (u3_3.f (Int.toNat u3_8)).From < ((u3_0.n : Nat) : Int))) (
 .ite (decide ((0 : Int) ≤ (u3_3.f (Int.toNat u3_8)).To ∧ (u3_3.f (Int.toNat u3_8)).To < ((u3_0.n : Nat) : Int))) (
 .bind (ref09_Lowest (SAir.mk (SMine.mk u3_2 u3_3) u3_4 u3_5) (SSetting.mk u3_6 u3_7) u3_8 (wr ((u3_0.f (Int.toNat (u3_3.f (Int.toNat u3_8)).From)) - (u3_0.f (Int.toNat (u3_3.f (Int.toNat u3_8)).To))))) fun z2 =>
 .leaf (.next ((wr (u3_8 + (1 : Int))), (wr (u3_9 - z2))))) (
 .fail)) (
 .fail)) (
 .leaf (.next ((wr (u3_8 + (1 : Int))), u3_9)))))) (
 .fail)) (
 .leaf (.l u3_9))
noncomputable def ref10_Highest_l3_m : LpM := ⟨(Sq Int) × Int × (Sq SPlace) × (Sq SRoad) × (Sq SFan) × (Sq SDoor) × (Sq Int) × (Sq Int), Int × Int, Int, Unit, fun p => ⟨[(2, sqA 1 (eI .i64) p.1.1), (3, .int .i64 p.1.2.1), (4, .ptr 0 0), (5, .ptr 64 0), (9, .int .i64 p.2.2), (10, .int .i64 p.2.1)], [(0, .var [sqA 2 SPlace.enc p.1.2.2.1, sqA 10 SRoad.enc p.1.2.2.2.1, sqA 4 SFan.enc p.1.2.2.2.2.1, sqA 3 SDoor.enc p.1.2.2.2.2.2.1]), (64, .var [sqA 1 (eI .i64) p.1.2.2.2.2.2.2.1, sqA 1 (eI .i64) p.1.2.2.2.2.2.2.2])], 320⟩, fun f v => ref10_Highest_l3_step f.1 f.2.1 f.2.2.1 f.2.2.2.1 f.2.2.2.2.1 f.2.2.2.2.2.1 f.2.2.2.2.2.2.1 f.2.2.2.2.2.2.2 v.1 v.2, true, (.exit 0), (fun x a => ⟨[(9, .int .i64 a)], [(0, blkS x 0), (64, blkS x 64)], 320⟩), .ret, (fun _ _ => ⟨[], [], 0⟩)⟩
noncomputable def ref10_Highest_l3 (u3_0 : Sq Int) (u3_1 : Int) (u3_2 : Sq SPlace) (u3_3 : Sq SRoad) (u3_4 : Sq SFan) (u3_5 : Sq SDoor) (u3_6 u3_7 : Sq Int) (u3_8 u3_9 : Int) : Option ((Int) ⊕ (Unit)) := ref10_Highest_l3_m.val ((u3_0, u3_1, u3_2, u3_3, u3_4, u3_5, u3_6, u3_7), (u3_8, u3_9))
theorem ref10_Highest_l3_eq (u3_0 : Sq Int) (u3_1 : Int) (u3_2 : Sq SPlace) (u3_3 : Sq SRoad) (u3_4 : Sq SFan) (u3_5 : Sq SDoor) (u3_6 u3_7 : Sq Int) (u3_8 u3_9 : Int) : ref10_Highest_l3 u3_0 u3_1 u3_2 u3_3 u3_4 u3_5 u3_6 u3_7 u3_8 u3_9 = fixO (fun v : Int × Int => ref10_Highest_l3_step u3_0 u3_1 u3_2 u3_3 u3_4 u3_5 u3_6 u3_7 v.1 v.2) (u3_8, u3_9) := ref10_Highest_l3_m.val_eq (fun x => ((sqD dI (aget x.tm 2), intA (aget x.tm 3), sqD SPlace.dec (cellS x 0 0), sqD SRoad.dec (cellS x 0 1), sqD SFan.dec (cellS x 0 2), sqD SDoor.dec (cellS x 0 3), sqD dI (cellS x 64 0), sqD dI (cellS x 64 1)), (intA (aget x.tm 10), intA (aget x.tm 9)))) (fun p => by kernel_rfl) ((u3_0, u3_1, u3_2, u3_3, u3_4, u3_5, u3_6, u3_7), (u3_8, u3_9))
noncomputable def ref10_Highest_t (a : SAir) (s : SSetting) (pressures : Sq Int) (place : Int) : DT (Int) :=
 .sum (ref10_Highest_l3 pressures place a.Mine.Places a.Mine.Roads a.Fans a.Doors s.Fans s.Doors (0 : Int) (0 : Int)) (fun y0 =>
 .leaf y0) (fun _ => .fail)
noncomputable def ref10_Highest_m : FnM := flM (SAir × SSetting × (Sq Int) × Int) (Int) (fun p => ([.agg (SAir.enc p.1), .agg (SSetting.enc p.2.1), sqA 1 (eI .i64) p.2.2.1, .int .i64 p.2.2.2], [])) (fun p => ref10_Highest_t p.1 p.2.1 p.2.2.1 p.2.2.2) (fun r => .int .i64 r) (fun _ => rfl)
noncomputable def ref10_Highest_env : Env := envM [(51, ref09_Highest_m.c), (50, ref09_Lowest_m.c)] [(3, [2, 3, 4, 5, 9, 10], [9])] [(3, ref10_Highest_l3_m.c)] [] [(3, [0, 64])] 0
noncomputable def ref10_Highest_e : Env := { ref10_Highest_env with nt := 71 }
theorem ref10_Highest_l3_tells : LoopTells ref10_Highest_e (loopOf 3 Try.f34) ref10_Highest_l3_m.c := ref10_Highest_l3_m.tells 320 (fun _ => by kernel_rfl) (fun _ _ _ _ => by kernel_rfl) (fun _ _ _ _ => by kernel_rfl) fun R f v N K => by kernel_rfl
theorem ref10_Highest_tells : Tells Try.prog 34 ref10_Highest_m.c := ref10_Highest_m.tells Try.func34 (show ∀ p, arun ref10_Highest_env Try.f34 (ref10_Highest_m.enc p).1 (ref10_Highest_m.enc p).2 = _ from fun p => by kernel_rfl) (loopsL [loopOf 3 Try.f34] (by kernel_rfl) ⟨lpT (by kernel_rfl) ref10_Highest_l3_tells, trivial⟩) (.cons ref09_Highest_tells (.cons ref09_Lowest_tells .nil))
noncomputable def ref10_Highest (a : SAir) (s : SSetting) (pressures : Sq Int) (place : Int) : Option (Int) := ref10_Highest_m.val (a, s, pressures, place)
theorem ref10_Highest_eq (a : SAir) (s : SSetting) (pressures : Sq Int) (place : Int) : ref10_Highest a s pressures place = (ref10_Highest_t a s pressures place).get := ref10_Highest_m.val_eq (fun x => (SAir.dec (aggL (gd x.1 0)), SSetting.dec (aggL (gd x.1 1)), sqD dI (gd x.1 2), intA (gd x.1 3))) (fun p => by kernel_rfl) (a, s, pressures, place)

/-! minecontrol/minecontrolref10.Net -/
noncomputable def ref10_Net_t (a : SAir) (s : SSetting) (pressures : Sq Int) (place : Int) : DT (SSpan) :=
 .bind (ref10_right a s pressures place) fun z0 =>
 .ite (!z0) (
 .leaf (SSpan.mk (0 : Int) (0 : Int))) (
 .bind (ref10_Lowest a s pressures place) fun z1 =>
 .bind (ref10_Highest a s pressures place) fun z2 =>
 .leaf (SSpan.mk z1 z2))
noncomputable def ref10_Net_m : FnM := flM (SAir × SSetting × (Sq Int) × Int) (SSpan) (fun p => ([.agg (SAir.enc p.1), .agg (SSetting.enc p.2.1), sqA 1 (eI .i64) p.2.2.1, .int .i64 p.2.2.2], [])) (fun p => ref10_Net_t p.1 p.2.1 p.2.2.1 p.2.2.2) (fun r => .agg (SSpan.enc r)) (fun _ => rfl)
noncomputable def ref10_Net_env : Env := envM [(32, ref10_right_m.c), (33, ref10_Lowest_m.c), (34, ref10_Highest_m.c)] [] [] [] [] 0
theorem ref10_Net_tells : Tells Try.prog 15 ref10_Net_m.c := ref10_Net_m.tells Try.func15 (show ∀ p, arun ref10_Net_env Try.f15 (ref10_Net_m.enc p).1 (ref10_Net_m.enc p).2 = _ from fun p => by kernel_rfl) noLoops (.cons ref10_right_tells (.cons ref10_Lowest_tells (.cons ref10_Highest_tells .nil)))
noncomputable def ref10_Net (a : SAir) (s : SSetting) (pressures : Sq Int) (place : Int) : Option (SSpan) := ref10_Net_m.val (a, s, pressures, place)
theorem ref10_Net_eq (a : SAir) (s : SSetting) (pressures : Sq Int) (place : Int) : ref10_Net a s pressures place = (ref10_Net_t a s pressures place).get := ref10_Net_m.val_eq (fun x => (SAir.dec (aggL (gd x.1 0)), SSetting.dec (aggL (gd x.1 1)), sqD dI (gd x.1 2), intA (gd x.1 3))) (fun p => by kernel_rfl) (a, s, pressures, place)

/-! minecontrol/branch.belongs -/
noncomputable def branch_belongs_v2_l4_step (_u4_0 : Sq SPlace) (_u4_1 : Sq SRoad) (_u4_2 : Sq SFan) (_u4_3 : Sq SDoor) : DT (LR (Unit) (Unit) (Unit)) :=
 .leaf (.l ())
noncomputable def branch_belongs_v2_l4_m : LpM := ⟨(Sq SPlace) × (Sq SRoad) × (Sq SFan) × (Sq SDoor), Unit, Unit, Unit, fun p => ⟨[(2, .ptr 0 0), (3, .ptr 64 0), (26, .slc 0 0 (fun _ => [])), (27, .int .i64 (0 : Int)), (28, .int .i64 (0 : Int))], [(0, .var [sqA 2 SPlace.enc p.1.1, sqA 10 SRoad.enc p.1.2.1, sqA 4 SFan.enc p.1.2.2.1, sqA 3 SDoor.enc p.1.2.2.2]), (64, .var [.slc 0 0 (fun _ => []), .slc 0 0 (fun _ => [])])], 1536⟩, fun f _ => branch_belongs_v2_l4_step f.1 f.2.1 f.2.2.1 f.2.2.2, true, (.exit 0), (fun x _ => ⟨[(2, .ptr 0 0), (3, .ptr 64 0), (4, .undef)], [(0, blkS x 0), (64, .var [.slc 0 0 (fun _ => []), .slc 0 0 (fun _ => [])])], 1536⟩), .ret, (fun _ _ => ⟨[], [], 0⟩)⟩
noncomputable def branch_belongs_v2_l4 (u4_0 : Sq SPlace) (u4_1 : Sq SRoad) (u4_2 : Sq SFan) (u4_3 : Sq SDoor) : Option ((Unit) ⊕ (Unit)) := branch_belongs_v2_l4_m.val ((u4_0, u4_1, u4_2, u4_3), ())
theorem branch_belongs_v2_l4_eq (u4_0 : Sq SPlace) (u4_1 : Sq SRoad) (u4_2 : Sq SFan) (u4_3 : Sq SDoor) : branch_belongs_v2_l4 u4_0 u4_1 u4_2 u4_3 = fixO (fun _ : Unit => branch_belongs_v2_l4_step u4_0 u4_1 u4_2 u4_3) () := branch_belongs_v2_l4_m.val_eq (fun x => ((sqD SPlace.dec (cellS x 0 0), sqD SRoad.dec (cellS x 0 1), sqD SFan.dec (cellS x 0 2), sqD SDoor.dec (cellS x 0 3)), ())) (fun p => by kernel_rfl) ((u4_0, u4_1, u4_2, u4_3), ())
noncomputable def branch_belongs_v2_l10_step (_u10_0 : Sq SPlace) (_u10_1 : Sq SRoad) (_u10_2 : Sq SFan) (_u10_3 : Sq SDoor) : DT (LR (Unit) (Unit) (Unit)) :=
 .leaf (.l ())
noncomputable def branch_belongs_v2_l10_m : LpM := ⟨(Sq SPlace) × (Sq SRoad) × (Sq SFan) × (Sq SDoor), Unit, Unit, Unit, fun p => ⟨[(2, .ptr 0 0), (37, .slc 0 0 (fun _ => [])), (38, .int .i64 (0 : Int)), (39, .int .i64 (0 : Int))], [(0, .var [sqA 2 SPlace.enc p.1.1, sqA 10 SRoad.enc p.1.2.1, sqA 4 SFan.enc p.1.2.2.1, sqA 3 SDoor.enc p.1.2.2.2])], 1792⟩, fun f _ => branch_belongs_v2_l10_step f.1 f.2.1 f.2.2.1 f.2.2.2, true, (.exit 2), (fun x _ => ⟨[(4, .undef)], [(0, blkS x 0)], 1792⟩), .ret, (fun _ _ => ⟨[], [], 0⟩)⟩
noncomputable def branch_belongs_v2_l10 (u10_0 : Sq SPlace) (u10_1 : Sq SRoad) (u10_2 : Sq SFan) (u10_3 : Sq SDoor) : Option ((Unit) ⊕ (Unit)) := branch_belongs_v2_l10_m.val ((u10_0, u10_1, u10_2, u10_3), ())
theorem branch_belongs_v2_l10_eq (u10_0 : Sq SPlace) (u10_1 : Sq SRoad) (u10_2 : Sq SFan) (u10_3 : Sq SDoor) : branch_belongs_v2_l10 u10_0 u10_1 u10_2 u10_3 = fixO (fun _ : Unit => branch_belongs_v2_l10_step u10_0 u10_1 u10_2 u10_3) () := branch_belongs_v2_l10_m.val_eq (fun x => ((sqD SPlace.dec (cellS x 0 0), sqD SRoad.dec (cellS x 0 1), sqD SFan.dec (cellS x 0 2), sqD SDoor.dec (cellS x 0 3)), ())) (fun p => by kernel_rfl) ((u10_0, u10_1, u10_2, u10_3), ())
noncomputable def branch_belongs_v2_t (a : SAir) : DT (Bool) :=
 .ite ((0 : Int) != ((a.Fans.n : Nat) : Int)) (
 .leaf false) (
 .ite ((0 : Int) != ((a.Doors.n : Nat) : Int)) (
 .leaf false) (
 .sum (branch_belongs_v2_l4 a.Mine.Places a.Mine.Roads a.Fans a.Doors) (fun _ =>
 .sum (branch_belongs_v2_l10 a.Mine.Places a.Mine.Roads a.Fans a.Doors) (fun _ =>
 .leaf true) (fun _ => .fail)) (fun _ => .fail)))
noncomputable def branch_belongs_v2_m : FnM := flM (SAir) (Bool) (fun p => ([.agg (SAir.enc p), .agg [.slc 0 0 (fun _ => []), .slc 0 0 (fun _ => [])]], [])) (fun p => branch_belongs_v2_t p) (fun r => .bool r) (fun _ => rfl)
noncomputable def branch_belongs_v2_env : Env := envM [] [(4, [2, 3, 26, 27, 28], [2, 3, 4]), (10, [2, 37, 38, 39], [4])] [(4, branch_belongs_v2_l4_m.c), (10, branch_belongs_v2_l10_m.c)] [] [(4, [0, 64]), (10, [0])] 0
noncomputable def branch_belongs_v2_e : Env := { branch_belongs_v2_env with nt := 56 }
theorem branch_belongs_v2_l4_tells : LoopTells branch_belongs_v2_e (loopOf 4 Try.f56) branch_belongs_v2_l4_m.c := branch_belongs_v2_l4_m.tells 1536 (fun _ => by kernel_rfl) (fun _ _ _ _ => by kernel_rfl) (fun _ _ _ _ => by kernel_rfl) fun R f v N K => by kernel_rfl
theorem branch_belongs_v2_l10_tells : LoopTells branch_belongs_v2_e (loopOf 10 Try.f56) branch_belongs_v2_l10_m.c := branch_belongs_v2_l10_m.tells 1792 (fun _ => by kernel_rfl) (fun _ _ _ _ => by kernel_rfl) (fun _ _ _ _ => by kernel_rfl) fun R f v N K => by kernel_rfl
theorem branch_belongs_v2_tells : Tells Try.prog 56 branch_belongs_v2_m.c := branch_belongs_v2_m.tells Try.func56 (show ∀ p, arun branch_belongs_v2_env Try.f56 (branch_belongs_v2_m.enc p).1 (branch_belongs_v2_m.enc p).2 = _ from fun p => by kernel_rfl) (loopsL [loopOf 4 Try.f56, loopOf 10 Try.f56] (by kernel_rfl) ⟨lpT (by kernel_rfl) branch_belongs_v2_l4_tells, ⟨lpT (by kernel_rfl) branch_belongs_v2_l10_tells, trivial⟩⟩) .nil
noncomputable def branch_belongs_v2 (a : SAir) : Option (Bool) := branch_belongs_v2_m.val a
theorem branch_belongs_v2_eq (a : SAir) : branch_belongs_v2 a = (branch_belongs_v2_t a).get := branch_belongs_v2_m.val_eq (fun x => SAir.dec (aggL (gd x.1 0))) (fun p => by kernel_rfl) a

/-! minecontrol/branch.Right -/
noncomputable def branch_Right_v2_t (a : SAir) : DT (Bool) :=
 .bind (branch_Check a) fun z0 =>
 .ite (z0 == (0 : Int)) (
 .bind (branch_belongs_v2 a) fun z1 =>
 .leaf z1) (
 .leaf false)
noncomputable def branch_Right_v2_m : FnM := flM (SAir) (Bool) (fun p => ([.agg (SAir.enc p), .agg [.slc 0 0 (fun _ => []), .slc 0 0 (fun _ => [])]], [])) (fun p => branch_Right_v2_t p) (fun r => .bool r) (fun _ => rfl)
noncomputable def branch_Right_v2_env : Env := envM [(55, branch_Check_m.c), (56, branch_belongs_v2_m.c)] [] [] [] [] 0
theorem branch_Right_v2_tells : Tells Try.prog 44 branch_Right_v2_m.c := branch_Right_v2_m.tells Try.func44 (show ∀ p, arun branch_Right_v2_env Try.f44 (branch_Right_v2_m.enc p).1 (branch_Right_v2_m.enc p).2 = _ from fun p => by kernel_rfl) noLoops (.cons branch_Check_tells (.cons branch_belongs_v2_tells .nil))
noncomputable def branch_Right_v2 (a : SAir) : Option (Bool) := branch_Right_v2_m.val a
theorem branch_Right_v2_eq (a : SAir) : branch_Right_v2 a = (branch_Right_v2_t a).get := branch_Right_v2_m.val_eq (fun x => SAir.dec (aggL (gd x.1 0))) (fun p => by kernel_rfl) a

/-! minecontrol/balance.proper -/
noncomputable def balance_proper_v2_l4_step (u4_0 : Sq Int) (u4_2 : Int) : DT (LR (Int) (Unit) (Unit)) :=
 .ite (decide (u4_2 < ((u4_0.n : Nat) : Int))) (
 .ite (decide ((0 : Int) ≤ u4_2 ∧ u4_2 < ((u4_0.n : Nat) : Int))) (
 .bind (balance_within (u4_0.f (Int.toNat u4_2)) (-70368744177664 : Int) (70368744177664 : Int)) fun z0 =>
 .ite (!z0) (
 .leaf (.r ())) (
 .leaf (.next (wr (u4_2 + (1 : Int)))))) (
 .fail)) (
 .leaf (.l ()))
noncomputable def balance_proper_v2_l4_m : LpM := ⟨(Sq Int), Int, Unit, Unit, fun p => ⟨[(32, sqA 1 (eI .i64) p.1), (33, .int .i64 ((p.1.n : Nat) : Int)), (34, .int .i64 p.2)], [], 1792⟩, fun f v => balance_proper_v2_l4_step f v, false, (.exit 0), (fun _ _ => ⟨[(8, .undef)], [], 1792⟩), .ret, (fun _ _ => ⟨[(8, .bool false)], [], 1792⟩)⟩
noncomputable def balance_proper_v2_l4 (u4_0 : Sq Int) (u4_2 : Int) : Option ((Unit) ⊕ (Unit)) := balance_proper_v2_l4_m.val (u4_0, u4_2)
theorem balance_proper_v2_l4_eq (u4_0 : Sq Int) (u4_2 : Int) : balance_proper_v2_l4 u4_0 u4_2 = fixO (fun v : Int => balance_proper_v2_l4_step u4_0 v) u4_2 := balance_proper_v2_l4_m.val_eq (fun x => (sqD dI (aget x.tm 32), intA (aget x.tm 34))) (fun p => by kernel_rfl) (u4_0, u4_2)
noncomputable def balance_proper_v2_t (a : SAir) (pressures : Sq Int) (place : Int) : DT (Bool) :=
 .bind (branch_Right_v2 a) fun z1 =>
 .ite (!z1) (
 .leaf false) (
 .ite (((pressures.n : Nat) : Int) != ((a.Mine.Places.n : Nat) : Int)) (
 .leaf false) (
 .bind (balance_within place (0 : Int) (wr (((pressures.n : Nat) : Int) - (1 : Int)))) fun z2 =>
 .ite (!z2) (
 .leaf false) (
 .sum (balance_proper_v2_l4 pressures (0 : Int)) (fun _ =>
 .leaf true) (fun _ => .leaf false))))
noncomputable def balance_proper_v2_m : FnM := flM (SAir × (Sq Int) × Int) (Bool) (fun p => ([.agg (SAir.enc p.1), .agg [.slc 0 0 (fun _ => []), .slc 0 0 (fun _ => [])], sqA 1 (eI .i64) p.2.1, .int .i64 p.2.2], [])) (fun p => balance_proper_v2_t p.1 p.2.1 p.2.2) (fun r => .bool r) (fun _ => rfl)
noncomputable def balance_proper_v2_env : Env := envM [(44, branch_Right_v2_m.c), (45, balance_within_m.c)] [(4, [32, 33, 34], [8])] [(4, balance_proper_v2_l4_m.c)] [] [(4, [])] 0
noncomputable def balance_proper_v2_e : Env := { balance_proper_v2_env with nt := 42 }
theorem balance_proper_v2_l4_tells : LoopTells balance_proper_v2_e (loopOf 4 Try.f29) balance_proper_v2_l4_m.c := balance_proper_v2_l4_m.tells 1792 (fun _ => by kernel_rfl) (fun _ _ _ _ => by kernel_rfl) (fun _ _ _ _ => by kernel_rfl) fun R f v N K => by kernel_rfl
theorem balance_proper_v2_tells : Tells Try.prog 29 balance_proper_v2_m.c := balance_proper_v2_m.tells Try.func29 (show ∀ p, arun balance_proper_v2_env Try.f29 (balance_proper_v2_m.enc p).1 (balance_proper_v2_m.enc p).2 = _ from fun p => by kernel_rfl) (loopsL [loopOf 4 Try.f29] (by kernel_rfl) ⟨lpT (by kernel_rfl) balance_proper_v2_l4_tells, trivial⟩) (.cons branch_Right_v2_tells (.cons balance_within_tells .nil))
noncomputable def balance_proper_v2 (a : SAir) (pressures : Sq Int) (place : Int) : Option (Bool) := balance_proper_v2_m.val (a, pressures, place)
theorem balance_proper_v2_eq (a : SAir) (pressures : Sq Int) (place : Int) : balance_proper_v2 a pressures place = (balance_proper_v2_t a pressures place).get := balance_proper_v2_m.val_eq (fun x => (SAir.dec (aggL (gd x.1 0)), sqD dI (gd x.1 2), intA (gd x.1 3))) (fun p => by kernel_rfl) (a, pressures, place)

/-! minecontrol/balance.junctionOf -/
noncomputable def balance_junctionOf_v2_l5_step (_u5_1 : Sq SPlace) (u5_2 : Sq SRoad) (_u5_3 : Sq SFan) (_u5_4 : Sq SDoor) (_u5_6 : Sq Int) (_u5_7 : Int) (u5_8 : Sq Int) (u5_5 : Sq SRoad) (u5_9 : Int) : DT (LR ((Sq SRoad) × Int) ((Sq SRoad)) (Unit)) :=
 .ite (decide (u5_9 < ((u5_8.n : Nat) : Int))) (
 .ite (decide ((0 : Int) ≤ u5_9 ∧ u5_9 < ((u5_8.n : Nat) : Int))) (
 .ite (decide ((0 : Int) ≤ (u5_8.f (Int.toNat u5_9)) ∧ (u5_8.f (Int.toNat u5_9)) < ((u5_2.n : Nat) : Int))) (
 .ite (decide ((u5_5.n + 1) * 72 ≤ 140737488355328 ∧ (u5_5.n + 1) ≤ 1099511627776)) (
 .leaf (.next ((Sq.mk (u5_5.n + 1) (fun k0 => (SRoad.mk (cond (Nat.blt k0 u5_5.n) (u5_5.f k0).From (u5_2.f (Int.toNat (u5_8.f (Int.toNat u5_9)))).From) (cond (Nat.blt k0 u5_5.n) (u5_5.f k0).To (u5_2.f (Int.toNat (u5_8.f (Int.toNat u5_9)))).To) (cond (Nat.blt k0 u5_5.n) (u5_5.f k0).Length (u5_2.f (Int.toNat (u5_8.f (Int.toNat u5_9)))).Length) (cond (Nat.blt k0 u5_5.n) (u5_5.f k0).Area (u5_2.f (Int.toNat (u5_8.f (Int.toNat u5_9)))).Area) (cond (Nat.blt k0 u5_5.n) (u5_5.f k0).Walk (u5_2.f (Int.toNat (u5_8.f (Int.toNat u5_9)))).Walk) (cond (Nat.blt k0 u5_5.n) (u5_5.f k0).Closed (u5_2.f (Int.toNat (u5_8.f (Int.toNat u5_9)))).Closed) (SSpan.mk (cond (Nat.blt k0 u5_5.n) (u5_5.f k0).Rest.Low (u5_2.f (Int.toNat (u5_8.f (Int.toNat u5_9)))).Rest.Low) (cond (Nat.blt k0 u5_5.n) (u5_5.f k0).Rest.High (u5_2.f (Int.toNat (u5_8.f (Int.toNat u5_9)))).Rest.High)) (SSpan.mk (cond (Nat.blt k0 u5_5.n) (u5_5.f k0).Lift.Low (u5_2.f (Int.toNat (u5_8.f (Int.toNat u5_9)))).Lift.Low) (cond (Nat.blt k0 u5_5.n) (u5_5.f k0).Lift.High (u5_2.f (Int.toNat (u5_8.f (Int.toNat u5_9)))).Lift.High))))), (wr (u5_9 + (1 : Int)))))) (
 .fail)) (
 .fail)) (
 .fail)) (
 .leaf (.l u5_5))
noncomputable def balance_junctionOf_v2_l5_m : LpM := ⟨(Sq SPlace) × (Sq SRoad) × (Sq SFan) × (Sq SDoor) × (Sq Int) × Int × (Sq Int), (Sq SRoad) × Int, (Sq SRoad), Unit, fun p => ⟨[(4, .ptr 0 0), (5, .ptr 64 0), (9, .ptr 384 0), (10, .own 1280 0), (33, .own 1280 0), (34, .int .i64 ((p.1.2.2.2.2.2.2.n : Nat) : Int)), (35, .int .i64 p.2.2)], [(0, .var [sqA 2 SPlace.enc p.1.1, sqA 10 SRoad.enc p.1.2.1, sqA 4 SFan.enc p.1.2.2.1, sqA 3 SDoor.enc p.1.2.2.2.1]), (64, .var [.slc 0 0 (fun _ => []), .slc 0 0 (fun _ => [])]), (321, rowA 0 10 60 SRoad.enc p.2.1), (322, .nilrow 0), (323, .nilrow 0), (324, .nilrow 0), (325, .nilrow 0), (384, .var [sqA 2 SPlace.enc p.1.1, .own 321 0, .own 322 0, .own 323 0, .own 324 0, .own 325 0, sqA 1 (eI .i64) p.1.2.2.2.2.1, .int .i64 p.1.2.2.2.2.2.1]), (1280, rowA 0 1 3 (eI .i64) p.1.2.2.2.2.2.2)], 1600⟩, fun f v => balance_junctionOf_v2_l5_step f.1 f.2.1 f.2.2.1 f.2.2.2.1 f.2.2.2.2.1 f.2.2.2.2.2.1 f.2.2.2.2.2.2 v.1 v.2, true, (.exit 0), (fun x a => ⟨[(4, .ptr 0 0), (5, .ptr 64 0), (9, .ptr 384 0), (10, .own 1280 0)], [(0, blkS x 0), (64, .var [.slc 0 0 (fun _ => []), .slc 0 0 (fun _ => [])]), (321, rowA 0 10 60 SRoad.enc a), (322, .nilrow 0), (323, .nilrow 0), (324, .nilrow 0), (325, .nilrow 0), (384, blkS x 384), (1280, blkS x 1280)], 1600⟩), .ret, (fun _ _ => ⟨[], [], 0⟩)⟩
noncomputable def balance_junctionOf_v2_l5 (u5_1 : Sq SPlace) (u5_2 : Sq SRoad) (u5_3 : Sq SFan) (u5_4 : Sq SDoor) (u5_6 : Sq Int) (u5_7 : Int) (u5_8 : Sq Int) (u5_5 : Sq SRoad) (u5_9 : Int) : Option (((Sq SRoad)) ⊕ (Unit)) := balance_junctionOf_v2_l5_m.val ((u5_1, u5_2, u5_3, u5_4, u5_6, u5_7, u5_8), (u5_5, u5_9))
theorem balance_junctionOf_v2_l5_eq (u5_1 : Sq SPlace) (u5_2 : Sq SRoad) (u5_3 : Sq SFan) (u5_4 : Sq SDoor) (u5_6 : Sq Int) (u5_7 : Int) (u5_8 : Sq Int) (u5_5 : Sq SRoad) (u5_9 : Int) : balance_junctionOf_v2_l5 u5_1 u5_2 u5_3 u5_4 u5_6 u5_7 u5_8 u5_5 u5_9 = fixO (fun v : (Sq SRoad) × Int => balance_junctionOf_v2_l5_step u5_1 u5_2 u5_3 u5_4 u5_6 u5_7 u5_8 v.1 v.2) (u5_5, u5_9) := balance_junctionOf_v2_l5_m.val_eq (fun x => ((sqD SPlace.dec (cellS x 0 0), sqD SRoad.dec (cellS x 0 1), sqD SFan.dec (cellS x 0 2), sqD SDoor.dec (cellS x 0 3), sqD dI (cellS x 384 6), intA (cellS x 384 7), sqB dI (blkS x 1280)), (sqB SRoad.dec (blkS x 321), intA (aget x.tm 35)))) (fun p => by kernel_rfl) ((u5_1, u5_2, u5_3, u5_4, u5_6, u5_7, u5_8), (u5_5, u5_9))
noncomputable def balance_junctionOf_v2_l10_step (u10_0 : Sq SFan) (_u10_2 : Sq SPlace) (_u10_3 : Sq SRoad) (_u10_4 : Sq SDoor) (_u10_5 : Sq SRoad) (_u10_6 : Sq Int) (_u10_7 : Int) (u10_8 : Sq Int) (u10_9 : Int) : DT (LR (Int) (Unit) (Unit)) :=
 .ite (decide (u10_9 < ((u10_0.n : Nat) : Int))) (
 .ite (decide ((0 : Int) ≤ u10_9 ∧ u10_9 < ((u10_0.n : Nat) : Int))) (
 .bind (slices_Index u10_8 (u10_0.f (Int.toNat u10_9)).Road) fun z0 =>
 .ite (decide (z0 ≥ (0 : Int))) (
 .fail) (
 .leaf (.next (wr (u10_9 + (1 : Int)))))) (
 .fail)) (
 .leaf (.l ()))
noncomputable def balance_junctionOf_v2_l10_m : LpM := ⟨(Sq SFan) × (Sq SPlace) × (Sq SRoad) × (Sq SDoor) × (Sq SRoad) × (Sq Int) × Int × (Sq Int), Int, Unit, Unit, fun p => ⟨[(4, .ptr 0 0), (5, .ptr 64 0), (9, .ptr 384 0), (10, .own 1280 0), (60, sqA 4 SFan.enc p.1.1), (61, .int .i64 ((p.1.1.n : Nat) : Int)), (62, .int .i64 p.2)], [(0, .var [sqA 2 SPlace.enc p.1.2.1, sqA 10 SRoad.enc p.1.2.2.1, sqA 4 SFan.enc p.1.1, sqA 3 SDoor.enc p.1.2.2.2.1]), (64, .var [.slc 0 0 (fun _ => []), .slc 0 0 (fun _ => [])]), (321, rowA 0 10 60 SRoad.enc p.1.2.2.2.2.1), (322, .nilrow 0), (323, .nilrow 0), (324, .nilrow 0), (325, .nilrow 0), (384, .var [sqA 2 SPlace.enc p.1.2.1, .own 321 0, .own 322 0, .own 323 0, .own 324 0, .own 325 0, sqA 1 (eI .i64) p.1.2.2.2.2.2.1, .int .i64 p.1.2.2.2.2.2.2.1]), (1280, rowA 0 1 3 (eI .i64) p.1.2.2.2.2.2.2.2)], 1856⟩, fun f v => balance_junctionOf_v2_l10_step f.1 f.2.1 f.2.2.1 f.2.2.2.1 f.2.2.2.2.1 f.2.2.2.2.2.1 f.2.2.2.2.2.2.1 f.2.2.2.2.2.2.2 v, true, (.exit 2), (fun x _ => ⟨[(4, .ptr 0 0), (5, .ptr 64 0), (9, .ptr 384 0), (10, .own 1280 0)], [(0, blkS x 0), (64, .var [.slc 0 0 (fun _ => []), .slc 0 0 (fun _ => [])]), (321, blkS x 321), (322, .nilrow 0), (323, .nilrow 0), (324, .nilrow 0), (325, .nilrow 0), (384, blkS x 384), (1280, blkS x 1280)], 1856⟩), .ret, (fun _ _ => ⟨[], [], 0⟩)⟩
noncomputable def balance_junctionOf_v2_l10 (u10_0 : Sq SFan) (u10_2 : Sq SPlace) (u10_3 : Sq SRoad) (u10_4 : Sq SDoor) (u10_5 : Sq SRoad) (u10_6 : Sq Int) (u10_7 : Int) (u10_8 : Sq Int) (u10_9 : Int) : Option ((Unit) ⊕ (Unit)) := balance_junctionOf_v2_l10_m.val ((u10_0, u10_2, u10_3, u10_4, u10_5, u10_6, u10_7, u10_8), u10_9)
theorem balance_junctionOf_v2_l10_eq (u10_0 : Sq SFan) (u10_2 : Sq SPlace) (u10_3 : Sq SRoad) (u10_4 : Sq SDoor) (u10_5 : Sq SRoad) (u10_6 : Sq Int) (u10_7 : Int) (u10_8 : Sq Int) (u10_9 : Int) : balance_junctionOf_v2_l10 u10_0 u10_2 u10_3 u10_4 u10_5 u10_6 u10_7 u10_8 u10_9 = fixO (fun v : Int => balance_junctionOf_v2_l10_step u10_0 u10_2 u10_3 u10_4 u10_5 u10_6 u10_7 u10_8 v) u10_9 := balance_junctionOf_v2_l10_m.val_eq (fun x => ((sqD SFan.dec (aget x.tm 60), sqD SPlace.dec (cellS x 0 0), sqD SRoad.dec (cellS x 0 1), sqD SDoor.dec (cellS x 0 3), sqB SRoad.dec (blkS x 321), sqD dI (cellS x 384 6), intA (cellS x 384 7), sqB dI (blkS x 1280)), intA (aget x.tm 62))) (fun p => by kernel_rfl) ((u10_0, u10_2, u10_3, u10_4, u10_5, u10_6, u10_7, u10_8), u10_9)
noncomputable def balance_junctionOf_v2_l18_step (u18_0 : Sq SDoor) (_u18_2 : Sq SRoad) (_u18_3 : Sq SPlace) (_u18_4 : Sq Int) (_u18_5 : Int) (u18_6 : Sq Int) (u18_7 : Int) : DT (LR (Int) (Unit) (Unit)) :=
 .ite (decide (u18_7 < ((u18_0.n : Nat) : Int))) (
 .ite (decide ((0 : Int) ≤ u18_7 ∧ u18_7 < ((u18_0.n : Nat) : Int))) (
 .bind (slices_Index u18_6 (u18_0.f (Int.toNat u18_7)).Road) fun z1 =>
 .ite (decide (z1 ≥ (0 : Int))) (
 .fail) (
 .leaf (.next (wr (u18_7 + (1 : Int)))))) (
 .fail)) (
 .leaf (.l ()))
noncomputable def balance_junctionOf_v2_l18_m : LpM := ⟨(Sq SDoor) × (Sq SRoad) × (Sq SPlace) × (Sq Int) × Int × (Sq Int), Int, Unit, Unit, fun p => ⟨[(5, .ptr 64 0), (9, .ptr 384 0), (10, .own 1280 0), (105, sqA 3 SDoor.enc p.1.1), (106, .int .i64 ((p.1.1.n : Nat) : Int)), (107, .int .i64 p.2)], [(64, .var [.slc 0 0 (fun _ => []), .slc 0 0 (fun _ => [])]), (321, rowA 0 10 60 SRoad.enc p.1.2.1), (322, .nilrow 0), (323, .nilrow 0), (324, .nilrow 0), (325, .nilrow 0), (384, .var [sqA 2 SPlace.enc p.1.2.2.1, .own 321 0, .own 322 0, .own 323 0, .own 324 0, .own 325 0, sqA 1 (eI .i64) p.1.2.2.2.1, .int .i64 p.1.2.2.2.2.1]), (1280, rowA 0 1 3 (eI .i64) p.1.2.2.2.2.2)], 2112⟩, fun f v => balance_junctionOf_v2_l18_step f.1 f.2.1 f.2.2.1 f.2.2.2.1 f.2.2.2.2.1 f.2.2.2.2.2 v, true, (.exit 4), (fun x _ => ⟨[(9, .ptr 384 0)], [(64, .var [.slc 0 0 (fun _ => []), .slc 0 0 (fun _ => [])]), (321, blkS x 321), (322, .nilrow 0), (323, .nilrow 0), (324, .nilrow 0), (325, .nilrow 0), (384, blkS x 384), (1280, blkS x 1280)], 2112⟩), .ret, (fun _ _ => ⟨[], [], 0⟩)⟩
noncomputable def balance_junctionOf_v2_l18 (u18_0 : Sq SDoor) (u18_2 : Sq SRoad) (u18_3 : Sq SPlace) (u18_4 : Sq Int) (u18_5 : Int) (u18_6 : Sq Int) (u18_7 : Int) : Option ((Unit) ⊕ (Unit)) := balance_junctionOf_v2_l18_m.val ((u18_0, u18_2, u18_3, u18_4, u18_5, u18_6), u18_7)
theorem balance_junctionOf_v2_l18_eq (u18_0 : Sq SDoor) (u18_2 : Sq SRoad) (u18_3 : Sq SPlace) (u18_4 : Sq Int) (u18_5 : Int) (u18_6 : Sq Int) (u18_7 : Int) : balance_junctionOf_v2_l18 u18_0 u18_2 u18_3 u18_4 u18_5 u18_6 u18_7 = fixO (fun v : Int => balance_junctionOf_v2_l18_step u18_0 u18_2 u18_3 u18_4 u18_5 u18_6 v) u18_7 := balance_junctionOf_v2_l18_m.val_eq (fun x => ((sqD SDoor.dec (aget x.tm 105), sqB SRoad.dec (blkS x 321), sqD SPlace.dec (cellS x 384 0), sqD dI (cellS x 384 6), intA (cellS x 384 7), sqB dI (blkS x 1280)), intA (aget x.tm 107))) (fun p => by kernel_rfl) ((u18_0, u18_2, u18_3, u18_4, u18_5, u18_6), u18_7)
noncomputable def balance_junctionOf_v2_t (a : SAir) (pressures : Sq Int) (place : Int) : DT ((Sq SPlace) × (Sq SRoad) × (Sq Int) × Int) :=
 .bind (plan_Roads a.Mine place) fun z2 =>
 .sum (balance_junctionOf_v2_l5 a.Mine.Places a.Mine.Roads a.Fans a.Doors pressures place z2 (Sq.mk 0 (fun _ => (SRoad.mk (0 : Int) (0 : Int) (0 : Int) (0 : Int) false false (SSpan.mk (0 : Int) (0 : Int)) (SSpan.mk (0 : Int) (0 : Int))))) (0 : Int)) (fun y0 =>
 .sum (balance_junctionOf_v2_l10 a.Fans a.Mine.Places a.Mine.Roads a.Doors y0 pressures place z2 (0 : Int)) (fun _ =>
 .sum (balance_junctionOf_v2_l18 a.Doors y0 a.Mine.Places pressures place z2 (0 : Int)) (fun _ =>
 .leaf (a.Mine.Places, y0, pressures, place)) (fun _ => .fail)) (fun _ => .fail)) (fun _ => .fail)
noncomputable def balance_junctionOf_v2_m : FnM := nfM (SAir × (Sq Int) × Int) ((Sq SPlace) × (Sq SRoad) × (Sq Int) × Int) (fun p => ([.agg (SAir.enc p.1), .agg [.slc 0 0 (fun _ => []), .slc 0 0 (fun _ => [])], sqA 1 (eI .i64) p.2.1, .int .i64 p.2.2], [])) (fun p => balance_junctionOf_v2_t p.1 p.2.1 p.2.2) (fun _ => .ptr 0 0) (fun _ r => [.var [sqA 2 SPlace.enc r.1, .own 1 0, .own 2 0, .own 3 0, .own 4 0, .own 5 0, sqA 1 (eI .i64) r.2.2.1, .int .i64 r.2.2.2], rowA 0 10 60 SRoad.enc r.2.1, .nilrow 0, .nilrow 0, .nilrow 0, .nilrow 0])
noncomputable def balance_junctionOf_v2_env : Env := envM [(46, plan_Roads_m.c), (47, slices_Index_m.c)] [(5, [4, 5, 9, 10, 33, 34, 35], [4, 5, 9, 10]), (10, [4, 5, 9, 10, 60, 61, 62], [4, 5, 9, 10]), (18, [5, 9, 10, 105, 106, 107], [9])] [(5, balance_junctionOf_v2_l5_m.c), (10, balance_junctionOf_v2_l10_m.c), (18, balance_junctionOf_v2_l18_m.c)] [(1000005, [.asrow 321 60 10 (fun _ => SRoad.enc (SRoad.mk (0 : Int) (0 : Int) (0 : Int) (0 : Int) false false (SSpan.mk (0 : Int) (0 : Int)) (SSpan.mk (0 : Int) (0 : Int))))])] [(5, [0, 64, 321, 322, 323, 324, 325, 384, 1280]), (10, [0, 64, 321, 322, 323, 324, 325, 384, 1280]), (18, [64, 321, 322, 323, 324, 325, 384, 1280])] 0
noncomputable def balance_junctionOf_v2_e : Env := { balance_junctionOf_v2_env with nt := 151 }
theorem balance_junctionOf_v2_l5_tells : LoopTells balance_junctionOf_v2_e (loopOf 5 Try.f30) balance_junctionOf_v2_l5_m.c := balance_junctionOf_v2_l5_m.tells 1600 (fun _ => by kernel_rfl) (fun _ _ _ _ => by kernel_rfl) (fun _ _ _ _ => by kernel_rfl) fun R f v N K => by kernel_rfl
theorem balance_junctionOf_v2_l10_tells : LoopTells balance_junctionOf_v2_e (loopOf 10 Try.f30) balance_junctionOf_v2_l10_m.c := balance_junctionOf_v2_l10_m.tells 1856 (fun _ => by kernel_rfl) (fun _ _ _ _ => by kernel_rfl) (fun _ _ _ _ => by kernel_rfl) fun R f v N K => by kernel_rfl
theorem balance_junctionOf_v2_l18_tells : LoopTells balance_junctionOf_v2_e (loopOf 18 Try.f30) balance_junctionOf_v2_l18_m.c := balance_junctionOf_v2_l18_m.tells 2112 (fun _ => by kernel_rfl) (fun _ _ _ _ => by kernel_rfl) (fun _ _ _ _ => by kernel_rfl) fun R f v N K => by kernel_rfl
theorem balance_junctionOf_v2_tells : Tells Try.prog 30 balance_junctionOf_v2_m.c := balance_junctionOf_v2_m.tells Try.func30 (show ∀ p, arun balance_junctionOf_v2_env Try.f30 (balance_junctionOf_v2_m.enc p).1 (balance_junctionOf_v2_m.enc p).2 = _ from fun p => by kernel_rfl) (loopsL [loopOf 5 Try.f30, loopOf 10 Try.f30, loopOf 18 Try.f30] (by kernel_rfl) ⟨lpT (by kernel_rfl) balance_junctionOf_v2_l5_tells, ⟨lpT (by kernel_rfl) balance_junctionOf_v2_l10_tells, ⟨lpT (by kernel_rfl) balance_junctionOf_v2_l18_tells, trivial⟩⟩⟩) (.cons plan_Roads_tells (.cons slices_Index_tells .nil))
noncomputable def balance_junctionOf_v2 (a : SAir) (pressures : Sq Int) (place : Int) : Option ((Sq SPlace) × (Sq SRoad) × (Sq Int) × Int) := balance_junctionOf_v2_m.val (a, pressures, place)
theorem balance_junctionOf_v2_eq (a : SAir) (pressures : Sq Int) (place : Int) : balance_junctionOf_v2 a pressures place = (balance_junctionOf_v2_t a pressures place).get := balance_junctionOf_v2_m.val_eq (fun x => (SAir.dec (aggL (gd x.1 0)), sqD dI (gd x.1 2), intA (gd x.1 3))) (fun p => by kernel_rfl) (a, pressures, place)

/-! minecontrol/balance.Least$1 -/
noncomputable def balance_Least_1_t (net : SSpan) : DT (Bool) :=
 .leaf (decide (net.Low ≥ (0 : Int)))
noncomputable def balance_Least_1_m : FnM := flM (SSpan) (Bool) (fun p => ([.agg (SSpan.enc p)], [])) (fun p => balance_Least_1_t p) (fun r => .bool r) (fun _ => rfl)
noncomputable def balance_Least_1_env : Env := envM [] [] [] [] [] 0
theorem balance_Least_1_tells : Tells Try.prog 36 balance_Least_1_m.c := balance_Least_1_m.tells Try.func36 (show ∀ p, arun balance_Least_1_env Try.f36 (balance_Least_1_m.enc p).1 (balance_Least_1_m.enc p).2 = _ from fun p => by kernel_rfl) noLoops .nil
noncomputable def balance_Least_1 (net : SSpan) : Option (Bool) := balance_Least_1_m.val net
theorem balance_Least_1_eq (net : SSpan) : balance_Least_1 net = (balance_Least_1_t net).get := balance_Least_1_m.val_eq (fun x => SSpan.dec (aggL (gd x.1 0))) (fun p => by kernel_rfl) net

/-! minecontrol/balance.nearest$1 -/
noncomputable def balance_nearest_1_t (n x x2 : Int) (y0 : Sjunction) : DT (Bool) :=
 .bind (balance_junction_net y0 (wr (x + (wr (n * x2))))) fun z0 =>
 .bind (balance_Least_1 z0) fun z1 =>
 .leaf z1
noncomputable def balance_nearest_1_m : FnM := nfM (Int × Int × Int × Sjunction) (Bool) (fun p => ([.int .i64 p.1, .ptr 0 0, .ptr 1 0, .ptr 2 0, .ptr 3 0], [.var [.fn 36 []], .var [.ptr 4 0], .var [.int .i64 p.2.1], .var [.int .i64 p.2.2.1], .var [sqA 2 SPlace.enc p.2.2.2.air_.Mine.Places, .own 5 0, .own 6 0, .own 7 0, .own 8 0, .own 9 0, sqA 1 (eI .i64) p.2.2.2.pressures_, .int .i64 p.2.2.2.place_], rowA 0 10 60 SRoad.enc p.2.2.2.air_.Mine.Roads, rowA 0 4 83 SFan.enc p.2.2.2.air_.Fans, rowA 0 3 72 SDoor.enc p.2.2.2.air_.Doors, rowA 0 1 3 (eI .i64) p.2.2.2.setting_.Fans, rowA 0 1 3 (eI .i64) p.2.2.2.setting_.Doors])) (fun p => balance_nearest_1_t p.1 p.2.1 p.2.2.1 p.2.2.2) (fun r => .bool r) (fun ins _ => [dB ins 0, dB ins 1, dB ins 2, dB ins 3, dB ins 4, dB ins 5, dB ins 6, dB ins 7, dB ins 8, dB ins 9])
noncomputable def balance_nearest_1_env : Env := envM [(31, balance_junction_net_m.c), (36, balance_Least_1_m.c)] [] [] [] [] 10
theorem balance_nearest_1_tells : Tells Try.prog 53 balance_nearest_1_m.c := balance_nearest_1_m.tells Try.func53 (show ∀ p, arun balance_nearest_1_env Try.f53 (balance_nearest_1_m.enc p).1 (balance_nearest_1_m.enc p).2 = _ from fun p => by kernel_rfl) noLoops (.cons balance_junction_net_tells (.cons balance_Least_1_tells .nil))
noncomputable def balance_nearest_1 (n x x2 : Int) (y0 : Sjunction) : Option (Bool) := balance_nearest_1_m.val (n, x, x2, y0)
theorem balance_nearest_1_eq (n x x2 : Int) (y0 : Sjunction) : balance_nearest_1 n x x2 y0 = (balance_nearest_1_t n x x2 y0).get := balance_nearest_1_m.val_eq (fun x => (intA (gd x.1 0), intA (gd (varL (dB x.2 2)) 0), intA (gd (varL (dB x.2 3)) 0), ⟨⟨⟨sqD SPlace.dec (gd (varL (dB x.2 4)) 0), sqB SRoad.dec (dB x.2 5)⟩, sqB SFan.dec (dB x.2 6), sqB SDoor.dec (dB x.2 7)⟩, ⟨sqB dI (dB x.2 8), sqB dI (dB x.2 9)⟩, sqD dI (gd (varL (dB x.2 4)) 6), intA (gd (varL (dB x.2 4)) 7)⟩)) (fun p => by kernel_rfl) (n, x, x2, y0)

/-! sort.Search -/
noncomputable def sort_Search_v3_l2_step (u2_1 u2_2 : Int) (u2_3 : Sq SPlace) (u2_4 : Sq Int) (u2_5 : Int) (u2_6 : Sq SRoad) (u2_7 : Sq SFan) (u2_8 : Sq SDoor) (u2_9 u2_10 : Sq Int) (u2_0 u2_11 : Int) : DT (LR (Int × Int) (Int) (Unit)) :=
 .ite (decide (u2_11 < u2_0)) (
 .bind (balance_nearest_1 (wr ((IntKind.u64.wrap (wr (u2_11 + u2_0))) / 2 ^ (Int.toNat (1 : Int)))) u2_1 u2_2 (Sjunction.mk (SAir.mk (SMine.mk u2_3 u2_6) u2_7 u2_8) (SSetting.mk u2_9 u2_10) u2_4 u2_5)) fun z0 =>
 .ite (!z0) (
 .leaf (.next (u2_0, (wr ((wr ((IntKind.u64.wrap (wr (u2_11 + u2_0))) / 2 ^ (Int.toNat (1 : Int)))) + (1 : Int)))))) (
 .leaf (.next ((wr ((IntKind.u64.wrap (wr (u2_11 + u2_0))) / 2 ^ (Int.toNat (1 : Int)))), u2_11)))) (
 .leaf (.l u2_11))
noncomputable def sort_Search_v3_l2_m : LpM := ⟨Int × Int × (Sq SPlace) × (Sq Int) × Int × (Sq SRoad) × (Sq SFan) × (Sq SDoor) × (Sq Int) × (Sq Int), Int × Int, Int, Unit, fun p => ⟨[(1, .fn 53 [.ptr 0 0, .ptr 1 0, .ptr 2 0, .ptr 3 0]), (5, .int .i64 p.2.2), (6, .int .i64 p.2.1)], [(0, .var [.fn 36 []]), (1, .var [.ptr 4 0]), (2, .var [.int .i64 p.1.1]), (3, .var [.int .i64 p.1.2.1]), (4, .var [sqA 2 SPlace.enc p.1.2.2.1, .own 5 0, .own 6 0, .own 7 0, .own 8 0, .own 9 0, sqA 1 (eI .i64) p.1.2.2.2.1, .int .i64 p.1.2.2.2.2.1]), (5, rowA 0 10 60 SRoad.enc p.1.2.2.2.2.2.1), (6, rowA 0 4 83 SFan.enc p.1.2.2.2.2.2.2.1), (7, rowA 0 3 72 SDoor.enc p.1.2.2.2.2.2.2.2.1), (8, rowA 0 1 3 (eI .i64) p.1.2.2.2.2.2.2.2.2.1), (9, rowA 0 1 3 (eI .i64) p.1.2.2.2.2.2.2.2.2.2)], 266⟩, fun f v => sort_Search_v3_l2_step f.1 f.2.1 f.2.2.1 f.2.2.2.1 f.2.2.2.2.1 f.2.2.2.2.2.1 f.2.2.2.2.2.2.1 f.2.2.2.2.2.2.2.1 f.2.2.2.2.2.2.2.2.1 f.2.2.2.2.2.2.2.2.2 v.1 v.2, true, (.exit 0), (fun x a => ⟨[(5, .int .i64 a)], [(0, .var [.fn 36 []]), (1, .var [.ptr 4 0]), (2, blkS x 2), (3, blkS x 3), (4, blkS x 4), (5, blkS x 5), (6, blkS x 6), (7, blkS x 7), (8, blkS x 8), (9, blkS x 9)], 266⟩), .ret, (fun _ _ => ⟨[], [], 0⟩)⟩
noncomputable def sort_Search_v3_l2 (u2_1 u2_2 : Int) (u2_3 : Sq SPlace) (u2_4 : Sq Int) (u2_5 : Int) (u2_6 : Sq SRoad) (u2_7 : Sq SFan) (u2_8 : Sq SDoor) (u2_9 u2_10 : Sq Int) (u2_0 u2_11 : Int) : Option ((Int) ⊕ (Unit)) := sort_Search_v3_l2_m.val ((u2_1, u2_2, u2_3, u2_4, u2_5, u2_6, u2_7, u2_8, u2_9, u2_10), (u2_0, u2_11))
theorem sort_Search_v3_l2_eq (u2_1 u2_2 : Int) (u2_3 : Sq SPlace) (u2_4 : Sq Int) (u2_5 : Int) (u2_6 : Sq SRoad) (u2_7 : Sq SFan) (u2_8 : Sq SDoor) (u2_9 u2_10 : Sq Int) (u2_0 u2_11 : Int) : sort_Search_v3_l2 u2_1 u2_2 u2_3 u2_4 u2_5 u2_6 u2_7 u2_8 u2_9 u2_10 u2_0 u2_11 = fixO (fun v : Int × Int => sort_Search_v3_l2_step u2_1 u2_2 u2_3 u2_4 u2_5 u2_6 u2_7 u2_8 u2_9 u2_10 v.1 v.2) (u2_0, u2_11) := sort_Search_v3_l2_m.val_eq (fun x => ((intA (cellS x 2 0), intA (cellS x 3 0), sqD SPlace.dec (cellS x 4 0), sqD dI (cellS x 4 6), intA (cellS x 4 7), sqB SRoad.dec (blkS x 5), sqB SFan.dec (blkS x 6), sqB SDoor.dec (blkS x 7), sqB dI (blkS x 8), sqB dI (blkS x 9)), (intA (aget x.tm 6), intA (aget x.tm 5)))) (fun p => by kernel_rfl) ((u2_1, u2_2, u2_3, u2_4, u2_5, u2_6, u2_7, u2_8, u2_9, u2_10), (u2_0, u2_11))
noncomputable def sort_Search_v3_t (n y0 y1 : Int) (y2 : Sjunction) : DT (Int) :=
 .sum (sort_Search_v3_l2 y0 y1 y2.air_.Mine.Places y2.pressures_ y2.place_ y2.air_.Mine.Roads y2.air_.Fans y2.air_.Doors y2.setting_.Fans y2.setting_.Doors n (0 : Int)) (fun y3 =>
 .leaf y3) (fun _ => .fail)
noncomputable def sort_Search_v3_m : FnM := nfM (Int × Int × Int × Sjunction) (Int) (fun p => ([.int .i64 p.1, .fn 53 [.ptr 0 0, .ptr 1 0, .ptr 2 0, .ptr 3 0]], [.var [.fn 36 []], .var [.ptr 4 0], .var [.int .i64 p.2.1], .var [.int .i64 p.2.2.1], .var [sqA 2 SPlace.enc p.2.2.2.air_.Mine.Places, .own 5 0, .own 6 0, .own 7 0, .own 8 0, .own 9 0, sqA 1 (eI .i64) p.2.2.2.pressures_, .int .i64 p.2.2.2.place_], rowA 0 10 60 SRoad.enc p.2.2.2.air_.Mine.Roads, rowA 0 4 83 SFan.enc p.2.2.2.air_.Fans, rowA 0 3 72 SDoor.enc p.2.2.2.air_.Doors, rowA 0 1 3 (eI .i64) p.2.2.2.setting_.Fans, rowA 0 1 3 (eI .i64) p.2.2.2.setting_.Doors])) (fun p => sort_Search_v3_t p.1 p.2.1 p.2.2.1 p.2.2.2) (fun r => .int .i64 r) (fun ins _ => [dB ins 0, dB ins 1, dB ins 2, dB ins 3, dB ins 4, dB ins 5, dB ins 6, dB ins 7, dB ins 8, dB ins 9])
noncomputable def sort_Search_v3_env : Env := envM [(53, balance_nearest_1_m.c)] [(2, [1, 5, 6], [5])] [(2, sort_Search_v3_l2_m.c)] [] [(2, [0, 1, 2, 3, 4, 5, 6, 7, 8, 9])] 10
noncomputable def sort_Search_v3_e : Env := { sort_Search_v3_env with nt := 26 }
theorem sort_Search_v3_l2_tells : LoopTells sort_Search_v3_e (loopOf 2 Try.f52) sort_Search_v3_l2_m.c := sort_Search_v3_l2_m.tells 266 (fun _ => by kernel_rfl) (fun _ _ _ _ => by kernel_rfl) (fun _ _ _ _ => by kernel_rfl) fun R f v N K => by kernel_rfl
theorem sort_Search_v3_tells : Tells Try.prog 52 sort_Search_v3_m.c := sort_Search_v3_m.tells Try.func52 (show ∀ p, arun sort_Search_v3_env Try.f52 (sort_Search_v3_m.enc p).1 (sort_Search_v3_m.enc p).2 = _ from fun p => by kernel_rfl) (loopsL [loopOf 2 Try.f52] (by kernel_rfl) ⟨lpT (by kernel_rfl) sort_Search_v3_l2_tells, trivial⟩) (.cons balance_nearest_1_tells .nil)
noncomputable def sort_Search_v3 (n y0 y1 : Int) (y2 : Sjunction) : Option (Int) := sort_Search_v3_m.val (n, y0, y1, y2)
theorem sort_Search_v3_eq (n y0 y1 : Int) (y2 : Sjunction) : sort_Search_v3 n y0 y1 y2 = (sort_Search_v3_t n y0 y1 y2).get := sort_Search_v3_m.val_eq (fun x => (intA (gd x.1 0), intA (gd (varL (dB x.2 2)) 0), intA (gd (varL (dB x.2 3)) 0), ⟨⟨⟨sqD SPlace.dec (gd (varL (dB x.2 4)) 0), sqB SRoad.dec (dB x.2 5)⟩, sqB SFan.dec (dB x.2 6), sqB SDoor.dec (dB x.2 7)⟩, ⟨sqB dI (dB x.2 8), sqB dI (dB x.2 9)⟩, sqD dI (gd (varL (dB x.2 4)) 6), intA (gd (varL (dB x.2 4)) 7)⟩)) (fun p => by kernel_rfl) (n, y0, y1, y2)

/-! minecontrol/balance.nearest -/
noncomputable def balance_nearest_t (a : SAir) (pressures : Sq Int) (place step : Int) : DT (Int × Bool) :=
 .bind (balance_proper_v2 a pressures place) fun z0 =>
 .ite (!z0) (
 .leaf ((0 : Int), false)) (
 .bind (balance_junctionOf_v2 a pressures place) fun z1 =>
 .ite (decide ((0 : Int) ≤ place ∧ place < ((pressures.n : Nat) : Int))) (
 .bind (sort_Search_v3 (wr ((wr ((70368744177664 : Int) - (wr (step * (pressures.f (Int.toNat place)))))) + (1 : Int))) (pressures.f (Int.toNat place)) step (Sjunction.mk (SAir.mk (SMine.mk z1.1 z1.2.1) (Sq.mk 0 (fun _ => (SFan.mk (0 : Int) false false (Sq.mk 0 (fun _ => (SPoint.mk (0 : Int) (0 : Int))))))) (Sq.mk 0 (fun _ => (SDoor.mk (0 : Int) (0 : Int) (Sq.mk 0 (fun _ => (0 : Int))))))) (SSetting.mk (Sq.mk 0 (fun _ => (0 : Int))) (Sq.mk 0 (fun _ => (0 : Int)))) z1.2.2.1 z1.2.2.2)) fun z2 =>
 .ite (decide (z2 > (wr ((70368744177664 : Int) - (wr (step * (pressures.f (Int.toNat place)))))))) (.leaf ((0 : Int), false)) (.leaf ((wr ((pressures.f (Int.toNat place)) + (wr (z2 * step)))), true))) (
 .fail))
noncomputable def balance_nearest_m : FnM := flM (SAir × (Sq Int) × Int × Int) (Int × Bool) (fun p => ([.agg (SAir.enc p.1), .agg [.slc 0 0 (fun _ => []), .slc 0 0 (fun _ => [])], sqA 1 (eI .i64) p.2.1, .int .i64 p.2.2.1, .int .i64 p.2.2.2, .fn 36 []], [])) (fun p => balance_nearest_t p.1 p.2.1 p.2.2.1 p.2.2.2) (fun r => .tup [.int .i64 r.1, .bool r.2]) (fun _ => rfl)
noncomputable def balance_nearest_env : Env := envM [(29, balance_proper_v2_m.c), (30, balance_junctionOf_v2_m.c), (52, sort_Search_v3_m.c)] [] [] [(5, [.asrow 1154 83 4 (fun _ => SFan.enc (SFan.mk (0 : Int) false false (Sq.mk 0 (fun _ => (SPoint.mk (0 : Int) (0 : Int)))))), .asrow 1155 72 3 (fun _ => SDoor.enc (SDoor.mk (0 : Int) (0 : Int) (Sq.mk 0 (fun _ => (0 : Int))))), .asrow 1156 3 1 (fun _ => (eI .i64) (0 : Int)), .asrow 1157 3 1 (fun _ => (eI .i64) (0 : Int))])] [] 0
theorem balance_nearest_tells : Tells Try.prog 35 balance_nearest_m.c := balance_nearest_m.tells Try.func35 (show ∀ p, arun balance_nearest_env Try.f35 (balance_nearest_m.enc p).1 (balance_nearest_m.enc p).2 = _ from fun p => by kernel_rfl) noLoops (.cons balance_proper_v2_tells (.cons balance_junctionOf_v2_tells (.cons sort_Search_v3_tells .nil)))
noncomputable def balance_nearest (a : SAir) (pressures : Sq Int) (place step : Int) : Option (Int × Bool) := balance_nearest_m.val (a, pressures, place, step)
theorem balance_nearest_eq (a : SAir) (pressures : Sq Int) (place step : Int) : balance_nearest a pressures place step = (balance_nearest_t a pressures place step).get := balance_nearest_m.val_eq (fun x => (SAir.dec (aggL (gd x.1 0)), sqD dI (gd x.1 2), intA (gd x.1 3), intA (gd x.1 4))) (fun p => by kernel_rfl) (a, pressures, place, step)

/-! minecontrol/balance.Least -/
noncomputable def balance_Least_t (a : SAir) (pressures : Sq Int) (place : Int) : DT (Int × Bool) :=
 .bind (balance_nearest a pressures place (1 : Int)) fun z0 =>
 .leaf (z0.1, z0.2)
noncomputable def balance_Least_m : FnM := flM (SAir × (Sq Int) × Int) (Int × Bool) (fun p => ([.agg (SAir.enc p.1), .agg [.slc 0 0 (fun _ => []), .slc 0 0 (fun _ => [])], sqA 1 (eI .i64) p.2.1, .int .i64 p.2.2], [])) (fun p => balance_Least_t p.1 p.2.1 p.2.2) (fun r => .tup [.int .i64 r.1, .bool r.2]) (fun _ => rfl)
noncomputable def balance_Least_env : Env := envM [(35, balance_nearest_m.c)] [] [] [] [] 0
theorem balance_Least_tells : Tells Try.prog 17 balance_Least_m.c := balance_Least_m.tells Try.func17 (show ∀ p, arun balance_Least_env Try.f17 (balance_Least_m.enc p).1 (balance_Least_m.enc p).2 = _ from fun p => by kernel_rfl) noLoops (.cons balance_nearest_tells .nil)
noncomputable def balance_Least (a : SAir) (pressures : Sq Int) (place : Int) : Option (Int × Bool) := balance_Least_m.val (a, pressures, place)
theorem balance_Least_eq (a : SAir) (pressures : Sq Int) (place : Int) : balance_Least a pressures place = (balance_Least_t a pressures place).get := balance_Least_m.val_eq (fun x => (SAir.dec (aggL (gd x.1 0)), sqD dI (gd x.1 2), intA (gd x.1 3))) (fun p => by kernel_rfl) (a, pressures, place)

/-! (*minecontrol/balance.junction).net -/
noncomputable def balance_junction_net_v2_l3_step (u3_0 : Int) (u3_2 : Sq SPlace) (u3_3 : Sq Int) (u3_4 : Int) (u3_5 : Sq SRoad) (u3_6 : Sq SFan) (u3_7 : Sq SDoor) (u3_8 : Sq Int) (u3_9 u3_10 u3_11 : Int) : DT (LR (Int × Int × Int) (Int × Int) (Unit)) :=
 .ite (decide (u3_9 < ((u3_5.n : Nat) : Int))) (
 .bind (balance_junction_leaving (Sjunction.mk (SAir.mk (SMine.mk u3_2 u3_5) u3_6 u3_7) (SSetting.mk u3_8 u3_8) u3_3 u3_4) u3_9 u3_0) fun z0 =>
 .leaf (.next ((wr (u3_9 + (1 : Int))), (wr (u3_10 + z0.Low)), (wr (u3_11 + z0.High))))) (
 .leaf (.l (u3_10, u3_11)))
noncomputable def balance_junction_net_v2_l3_m : LpM := ⟨Int × (Sq SPlace) × (Sq Int) × Int × (Sq SRoad) × (Sq SFan) × (Sq SDoor) × (Sq Int), Int × Int × Int, Int × Int, Unit, fun p => ⟨[(0, .ptr 0 0), (1, .int .i64 p.1.1), (4, .ptr 6 0), (5, .ptr 70 0), (14, .int .i64 ((p.1.2.2.2.2.1.n : Nat) : Int)), (15, .int .i64 p.2.1)], [(0, .var [sqA 2 SPlace.enc p.1.2.1, .own 1 0, .own 2 0, .own 3 0, .own 4 0, .own 5 0, sqA 1 (eI .i64) p.1.2.2.1, .int .i64 p.1.2.2.2.1]), (1, rowA 0 10 60 SRoad.enc p.1.2.2.2.2.1), (2, rowA 0 4 83 SFan.enc p.1.2.2.2.2.2.1), (3, rowA 0 3 72 SDoor.enc p.1.2.2.2.2.2.2.1), (4, rowA 0 1 3 (eI .i64) p.1.2.2.2.2.2.2.2), (5, rowA 0 1 3 (eI .i64) p.1.2.2.2.2.2.2.2), (6, .var [.int .i64 (0 : Int), .int .i64 (0 : Int)]), (70, .var [.int .i64 p.2.2.1, .int .i64 p.2.2.2])], 646⟩, fun f v => balance_junction_net_v2_l3_step f.1 f.2.1 f.2.2.1 f.2.2.2.1 f.2.2.2.2.1 f.2.2.2.2.2.1 f.2.2.2.2.2.2.1 f.2.2.2.2.2.2.2 v.1 v.2.1 v.2.2, true, (.exit 0), (fun x a => ⟨[(4, .ptr 6 0), (5, .ptr 70 0)], [(0, blkS x 0), (1, blkS x 1), (2, blkS x 2), (3, blkS x 3), (4, blkS x 4), (5, blkS x 5), (6, .var [.int .i64 (0 : Int), .int .i64 (0 : Int)]), (70, .var [.int .i64 a.1, .int .i64 a.2])], 646⟩), .ret, (fun _ _ => ⟨[], [], 0⟩)⟩
noncomputable def balance_junction_net_v2_l3 (u3_0 : Int) (u3_2 : Sq SPlace) (u3_3 : Sq Int) (u3_4 : Int) (u3_5 : Sq SRoad) (u3_6 : Sq SFan) (u3_7 : Sq SDoor) (u3_8 : Sq Int) (u3_9 u3_10 u3_11 : Int) : Option ((Int × Int) ⊕ (Unit)) := balance_junction_net_v2_l3_m.val ((u3_0, u3_2, u3_3, u3_4, u3_5, u3_6, u3_7, u3_8), (u3_9, u3_10, u3_11))
theorem balance_junction_net_v2_l3_eq (u3_0 : Int) (u3_2 : Sq SPlace) (u3_3 : Sq Int) (u3_4 : Int) (u3_5 : Sq SRoad) (u3_6 : Sq SFan) (u3_7 : Sq SDoor) (u3_8 : Sq Int) (u3_9 u3_10 u3_11 : Int) : balance_junction_net_v2_l3 u3_0 u3_2 u3_3 u3_4 u3_5 u3_6 u3_7 u3_8 u3_9 u3_10 u3_11 = fixO (fun v : Int × Int × Int => balance_junction_net_v2_l3_step u3_0 u3_2 u3_3 u3_4 u3_5 u3_6 u3_7 u3_8 v.1 v.2.1 v.2.2) (u3_9, u3_10, u3_11) := balance_junction_net_v2_l3_m.val_eq (fun x => ((intA (aget x.tm 1), sqD SPlace.dec (cellS x 0 0), sqD dI (cellS x 0 6), intA (cellS x 0 7), sqB SRoad.dec (blkS x 1), sqB SFan.dec (blkS x 2), sqB SDoor.dec (blkS x 3), sqB dI (blkS x 4)), (intA (aget x.tm 15), intA (cellS x 70 0), intA (cellS x 70 1)))) (fun p => by kernel_rfl) ((u3_0, u3_2, u3_3, u3_4, u3_5, u3_6, u3_7, u3_8), (u3_9, u3_10, u3_11))
noncomputable def balance_junction_net_v2_t (j : Sq SPlace) (j2 : Sq SRoad) (j3 : Sq Int) (j4 pressure : Int) : DT (SSpan × (Sq SFan) × (Sq SDoor) × (Sq Int) × (Sq Int)) :=
 .sum (balance_junction_net_v2_l3 pressure j j3 j4 j2 (Sq.mk 0 (fun _ => (SFan.mk (0 : Int) false false (Sq.mk 0 (fun _ => (SPoint.mk (0 : Int) (0 : Int))))))) (Sq.mk 0 (fun _ => (SDoor.mk (0 : Int) (0 : Int) (Sq.mk 0 (fun _ => (0 : Int)))))) (Sq.mk 0 (fun _ => (0 : Int))) (0 : Int) (0 : Int) (0 : Int)) (fun y0 =>
 .leaf ((SSpan.mk y0.1 y0.2), (Sq.mk 0 (fun _ => (SFan.mk (0 : Int) false false (Sq.mk 0 (fun _ => (SPoint.mk (0 : Int) (0 : Int))))))), (Sq.mk 0 (fun _ => (SDoor.mk (0 : Int) (0 : Int) (Sq.mk 0 (fun _ => (0 : Int)))))), (Sq.mk 0 (fun _ => (0 : Int))), (Sq.mk 0 (fun _ => (0 : Int))))) (fun _ => .fail)
noncomputable def balance_junction_net_v2_m : FnM := nfM ((Sq SPlace) × (Sq SRoad) × (Sq Int) × Int × Int) (SSpan × (Sq SFan) × (Sq SDoor) × (Sq Int) × (Sq Int)) (fun p => ([.ptr 0 0, .int .i64 p.2.2.2.2], [.var [sqA 2 SPlace.enc p.1, .own 1 0, .own 2 0, .own 3 0, .own 4 0, .own 5 0, sqA 1 (eI .i64) p.2.2.1, .int .i64 p.2.2.2.1], rowA 0 10 60 SRoad.enc p.2.1, .nilrow 0, .nilrow 0, .nilrow 0, .nilrow 0])) (fun p => balance_junction_net_v2_t p.1 p.2.1 p.2.2.1 p.2.2.2.1 p.2.2.2.2) (fun r => .agg (SSpan.enc r.1)) (fun ins r => [dB ins 0, dB ins 1, rowA 0 4 83 SFan.enc r.2.1, rowA 0 3 72 SDoor.enc r.2.2.1, rowA 0 1 3 (eI .i64) r.2.2.2.1, rowA 0 1 3 (eI .i64) r.2.2.2.2])
noncomputable def balance_junction_net_v2_env : Env := envM [(48, balance_junction_leaving_m.c)] [(3, [0, 1, 4, 5, 14, 15], [4, 5])] [(3, balance_junction_net_v2_l3_m.c)] [(5, [.asrow 2 83 4 (fun _ => SFan.enc (SFan.mk (0 : Int) false false (Sq.mk 0 (fun _ => (SPoint.mk (0 : Int) (0 : Int)))))), .asrow 3 72 3 (fun _ => SDoor.enc (SDoor.mk (0 : Int) (0 : Int) (Sq.mk 0 (fun _ => (0 : Int))))), .asrow 4 3 1 (fun _ => (eI .i64) (0 : Int)), .asrow 5 3 1 (fun _ => (eI .i64) (0 : Int))]), (1000003, [.asrow 2 83 4 (fun _ => SFan.enc (SFan.mk (0 : Int) false false (Sq.mk 0 (fun _ => (SPoint.mk (0 : Int) (0 : Int)))))), .asrow 3 72 3 (fun _ => SDoor.enc (SDoor.mk (0 : Int) (0 : Int) (Sq.mk 0 (fun _ => (0 : Int))))), .asrow 4 3 1 (fun _ => (eI .i64) (0 : Int)), .asrow 5 3 1 (fun _ => (eI .i64) (0 : Int))])] [(3, [0, 1, 2, 3, 4, 5, 6, 70])] 6
noncomputable def balance_junction_net_v2_e : Env := { balance_junction_net_v2_env with nt := 36 }
theorem balance_junction_net_v2_l3_tells : LoopTells balance_junction_net_v2_e (loopOf 3 Try.f31) balance_junction_net_v2_l3_m.c := balance_junction_net_v2_l3_m.tells 646 (fun _ => by kernel_rfl) (fun _ _ _ _ => by kernel_rfl) (fun _ _ _ _ => by kernel_rfl) fun R f v N K => by kernel_rfl
theorem balance_junction_net_v2_tells : Tells Try.prog 31 balance_junction_net_v2_m.c := balance_junction_net_v2_m.tells Try.func31 (show ∀ p, arun balance_junction_net_v2_env Try.f31 (balance_junction_net_v2_m.enc p).1 (balance_junction_net_v2_m.enc p).2 = _ from fun p => by kernel_rfl) (loopsL [loopOf 3 Try.f31] (by kernel_rfl) ⟨lpT (by kernel_rfl) balance_junction_net_v2_l3_tells, trivial⟩) (.cons balance_junction_leaving_tells .nil)
noncomputable def balance_junction_net_v2 (j : Sq SPlace) (j2 : Sq SRoad) (j3 : Sq Int) (j4 pressure : Int) : Option (SSpan × (Sq SFan) × (Sq SDoor) × (Sq Int) × (Sq Int)) := balance_junction_net_v2_m.val (j, j2, j3, j4, pressure)
theorem balance_junction_net_v2_eq (j : Sq SPlace) (j2 : Sq SRoad) (j3 : Sq Int) (j4 pressure : Int) : balance_junction_net_v2 j j2 j3 j4 pressure = (balance_junction_net_v2_t j j2 j3 j4 pressure).get := balance_junction_net_v2_m.val_eq (fun x => (sqD SPlace.dec (gd (varL (dB x.2 0)) 0), sqB SRoad.dec (dB x.2 1), sqD dI (gd (varL (dB x.2 0)) 6), intA (gd (varL (dB x.2 0)) 7), intA (gd x.1 1))) (fun p => by kernel_rfl) (j, j2, j3, j4, pressure)

/-! minecontrol/balance.Net -/
noncomputable def balance_Net_v2_t (a : SAir) (pressures : Sq Int) (place : Int) : DT (SSpan) :=
 .bind (balance_proper_v2 a pressures place) fun z0 =>
 .ite (!z0) (
 .leaf (SSpan.mk (0 : Int) (0 : Int))) (
 .bind (balance_junctionOf_v2 a pressures place) fun z1 =>
 .ite (decide ((0 : Int) ≤ place ∧ place < ((pressures.n : Nat) : Int))) (
 .bind (balance_junction_net_v2 z1.1 z1.2.1 z1.2.2.1 z1.2.2.2 (pressures.f (Int.toNat place))) fun z2 =>
 .leaf z2.1) (
 .fail))
noncomputable def balance_Net_v2_m : FnM := flM (SAir × (Sq Int) × Int) (SSpan) (fun p => ([.agg (SAir.enc p.1), .agg [.slc 0 0 (fun _ => []), .slc 0 0 (fun _ => [])], sqA 1 (eI .i64) p.2.1, .int .i64 p.2.2], [])) (fun p => balance_Net_v2_t p.1 p.2.1 p.2.2) (fun r => .agg (SSpan.enc r)) (fun _ => rfl)
noncomputable def balance_Net_v2_env : Env := envM [(29, balance_proper_v2_m.c), (30, balance_junctionOf_v2_m.c), (31, balance_junction_net_v2_m.c)] [] [] [] [] 0
theorem balance_Net_v2_tells : Tells Try.prog 14 balance_Net_v2_m.c := balance_Net_v2_m.tells Try.func14 (show ∀ p, arun balance_Net_v2_env Try.f14 (balance_Net_v2_m.enc p).1 (balance_Net_v2_m.enc p).2 = _ from fun p => by kernel_rfl) noLoops (.cons balance_proper_v2_tells (.cons balance_junctionOf_v2_tells (.cons balance_junction_net_v2_tells .nil)))
noncomputable def balance_Net_v2 (a : SAir) (pressures : Sq Int) (place : Int) : Option (SSpan) := balance_Net_v2_m.val (a, pressures, place)
theorem balance_Net_v2_eq (a : SAir) (pressures : Sq Int) (place : Int) : balance_Net_v2 a pressures place = (balance_Net_v2_t a pressures place).get := balance_Net_v2_m.val_eq (fun x => (SAir.dec (aggL (gd x.1 0)), sqD dI (gd x.1 2), intA (gd x.1 3))) (fun p => by kernel_rfl) (a, pressures, place)

/-! minecontrol/balance.nearest -/
noncomputable def balance_nearest_v2_t (a : SAir) (s : SSetting) (pressures : Sq Int) (place step : Int) : DT (Int × Bool) :=
 .bind (balance_proper a s pressures place) fun z0 =>
 .ite (!z0) (
 .leaf ((0 : Int), false)) (
 .bind (balance_junctionOf a s pressures place) fun z1 =>
 .ite (decide ((0 : Int) ≤ place ∧ place < ((pressures.n : Nat) : Int))) (
 .bind (sort_Search_v3 (wr ((wr ((70368744177664 : Int) - (wr (step * (pressures.f (Int.toNat place)))))) + (1 : Int))) (pressures.f (Int.toNat place)) step z1) fun z2 =>
 .ite (decide (z2 > (wr ((70368744177664 : Int) - (wr (step * (pressures.f (Int.toNat place)))))))) (.leaf ((0 : Int), false)) (.leaf ((wr ((pressures.f (Int.toNat place)) + (wr (z2 * step)))), true))) (
 .fail))
noncomputable def balance_nearest_v2_m : FnM := flM (SAir × SSetting × (Sq Int) × Int × Int) (Int × Bool) (fun p => ([.agg (SAir.enc p.1), .agg (SSetting.enc p.2.1), sqA 1 (eI .i64) p.2.2.1, .int .i64 p.2.2.2.1, .int .i64 p.2.2.2.2, .fn 36 []], [])) (fun p => balance_nearest_v2_t p.1 p.2.1 p.2.2.1 p.2.2.2.1 p.2.2.2.2) (fun r => .tup [.int .i64 r.1, .bool r.2]) (fun _ => rfl)
noncomputable def balance_nearest_v2_env : Env := envM [(29, balance_proper_m.c), (30, balance_junctionOf_m.c), (52, sort_Search_v3_m.c)] [] [] [] [] 0
theorem balance_nearest_v2_tells : Tells Try.prog 35 balance_nearest_v2_m.c := balance_nearest_v2_m.tells Try.func35 (show ∀ p, arun balance_nearest_v2_env Try.f35 (balance_nearest_v2_m.enc p).1 (balance_nearest_v2_m.enc p).2 = _ from fun p => by kernel_rfl) noLoops (.cons balance_proper_tells (.cons balance_junctionOf_tells (.cons sort_Search_v3_tells .nil)))
noncomputable def balance_nearest_v2 (a : SAir) (s : SSetting) (pressures : Sq Int) (place step : Int) : Option (Int × Bool) := balance_nearest_v2_m.val (a, s, pressures, place, step)
theorem balance_nearest_v2_eq (a : SAir) (s : SSetting) (pressures : Sq Int) (place step : Int) : balance_nearest_v2 a s pressures place step = (balance_nearest_v2_t a s pressures place step).get := balance_nearest_v2_m.val_eq (fun x => (SAir.dec (aggL (gd x.1 0)), SSetting.dec (aggL (gd x.1 1)), sqD dI (gd x.1 2), intA (gd x.1 3), intA (gd x.1 4))) (fun p => by kernel_rfl) (a, s, pressures, place, step)

/-! minecontrol/balance.Least -/
noncomputable def balance_Least_v2_t (a : SAir) (s : SSetting) (pressures : Sq Int) (place : Int) : DT (Int × Bool) :=
 .bind (balance_nearest_v2 a s pressures place (1 : Int)) fun z0 =>
 .leaf (z0.1, z0.2)
noncomputable def balance_Least_v2_m : FnM := flM (SAir × SSetting × (Sq Int) × Int) (Int × Bool) (fun p => ([.agg (SAir.enc p.1), .agg (SSetting.enc p.2.1), sqA 1 (eI .i64) p.2.2.1, .int .i64 p.2.2.2], [])) (fun p => balance_Least_v2_t p.1 p.2.1 p.2.2.1 p.2.2.2) (fun r => .tup [.int .i64 r.1, .bool r.2]) (fun _ => rfl)
noncomputable def balance_Least_v2_env : Env := envM [(35, balance_nearest_v2_m.c)] [] [] [] [] 0
theorem balance_Least_v2_tells : Tells Try.prog 17 balance_Least_v2_m.c := balance_Least_v2_m.tells Try.func17 (show ∀ p, arun balance_Least_v2_env Try.f17 (balance_Least_v2_m.enc p).1 (balance_Least_v2_m.enc p).2 = _ from fun p => by kernel_rfl) noLoops (.cons balance_nearest_v2_tells .nil)
noncomputable def balance_Least_v2 (a : SAir) (s : SSetting) (pressures : Sq Int) (place : Int) : Option (Int × Bool) := balance_Least_v2_m.val (a, s, pressures, place)
theorem balance_Least_v2_eq (a : SAir) (s : SSetting) (pressures : Sq Int) (place : Int) : balance_Least_v2 a s pressures place = (balance_Least_v2_t a s pressures place).get := balance_Least_v2_m.val_eq (fun x => (SAir.dec (aggL (gd x.1 0)), SSetting.dec (aggL (gd x.1 1)), sqD dI (gd x.1 2), intA (gd x.1 3))) (fun p => by kernel_rfl) (a, s, pressures, place)

/-! minecontrol/minecontrolref10.Up -/
noncomputable def ref10_Up_l5_step (u5_0 : Int) (u5_2 : Sq SPlace) (u5_3 : Sq SRoad) (u5_4 : Sq SFan) (u5_5 : Sq SDoor) (u5_6 u5_7 : Sq Int) (u5_1 : Int) (u5_8 : Sq Int) (u5_9 : Int) : DT (LR (Int × (Sq Int) × Int) (Int × (Sq Int)) (Int × (Sq Int))) :=
 .ite (decide ((0 : Int) ≤ u5_0 ∧ u5_0 < ((u5_8.n : Nat) : Int))) (
 .bind (ref10_Lowest (SAir.mk (SMine.mk u5_2 u5_3) u5_4 u5_5) (SSetting.mk u5_6 u5_7) (Sq.mk u5_8.n (fun k0 => (cond (Nat.beq k0 (Int.toNat u5_0)) (if (70368744177664 : Int) < (wr (u5_1 + u5_9)) then (70368744177664 : Int) else (wr (u5_1 + u5_9))) (u5_8.f k0)))) u5_0) fun z0 =>
 .ite (decide (z0 ≥ (0 : Int))) (
 .leaf (.l (u5_1, (Sq.mk u5_8.n (fun k1 => (cond (Nat.beq k1 (Int.toNat u5_0)) (if (70368744177664 : Int) < (wr (u5_1 + u5_9)) then (70368744177664 : Int) else (wr (u5_1 + u5_9))) (u5_8.f k1))))))) (
 .ite (decide ((0 : Int) ≤ u5_0 ∧ u5_0 < ((u5_8.n : Nat) : Int))) (
 .ite ((cond (Nat.beq (Int.toNat u5_0) (Int.toNat u5_0)) (if (70368744177664 : Int) < (wr (u5_1 + u5_9)) then (70368744177664 : Int) else (wr (u5_1 + u5_9))) (u5_8.f (Int.toNat u5_0))) == (70368744177664 : Int)) (
 .leaf (.r (u5_1, (Sq.mk u5_8.n (fun k2 => (cond (Nat.beq k2 (Int.toNat u5_0)) (if (70368744177664 : Int) < (wr (u5_1 + u5_9)) then (70368744177664 : Int) else (wr (u5_1 + u5_9))) (u5_8.f k2))))))) (
 .ite (decide ((0 : Int) ≤ u5_0 ∧ u5_0 < ((u5_8.n : Nat) : Int))) (
 .leaf (.next ((cond (Nat.beq (Int.toNat u5_0) (Int.toNat u5_0)) (if (70368744177664 : Int) < (wr (u5_1 + u5_9)) then (70368744177664 : Int) else (wr (u5_1 + u5_9))) (u5_8.f (Int.toNat u5_0))), (Sq.mk u5_8.n (fun k3 => (cond (Nat.beq k3 (Int.toNat u5_0)) (if (70368744177664 : Int) < (wr (u5_1 + u5_9)) then (70368744177664 : Int) else (wr (u5_1 + u5_9))) (u5_8.f k3)))), (wr (u5_9 * (2 : Int)))))) (
 .fail))) (
 .fail))) (
 .fail)
noncomputable def ref10_Up_l5_m : LpM := ⟨Int × (Sq SPlace) × (Sq SRoad) × (Sq SFan) × (Sq SDoor) × (Sq Int) × (Sq Int), Int × (Sq Int) × Int, Int × (Sq Int), Int × (Sq Int), fun p => ⟨[(3, .int .i64 p.1.1), (4, .ptr 0 0), (5, .ptr 64 0), (10, .own 320 0), (11, .int .i64 p.2.1), (12, .int .i64 p.2.2.2)], [(0, .var [sqA 2 SPlace.enc p.1.2.1, sqA 10 SRoad.enc p.1.2.2.1, sqA 4 SFan.enc p.1.2.2.2.1, sqA 3 SDoor.enc p.1.2.2.2.2.1]), (64, .var [sqA 1 (eI .i64) p.1.2.2.2.2.2.1, sqA 1 (eI .i64) p.1.2.2.2.2.2.2]), (320, rowA 0 1 3 (eI .i64) p.2.2.1)], 1600⟩, fun f v => ref10_Up_l5_step f.1 f.2.1 f.2.2.1 f.2.2.2.1 f.2.2.2.2.1 f.2.2.2.2.2.1 f.2.2.2.2.2.2 v.1 v.2.1 v.2.2, false, (.exit 0), (fun x a => ⟨[(3, aget x.tm 3), (4, .ptr 0 0), (5, .ptr 64 0), (8, .undef), (9, .undef), (10, .own 320 0), (11, .int .i64 a.1)], [(0, blkS x 0), (64, blkS x 64), (320, rowA 0 1 3 (eI .i64) a.2)], 1600⟩), .ret, (fun x a => ⟨[(3, aget x.tm 3), (4, .ptr 0 0), (5, .ptr 64 0), (8, .int .i64 (0 : Int)), (9, .bool false), (10, .own 320 0), (11, .int .i64 a.1)], [(0, blkS x 0), (64, blkS x 64), (320, rowA 0 1 3 (eI .i64) a.2)], 1600⟩)⟩
noncomputable def ref10_Up_l5 (u5_0 : Int) (u5_2 : Sq SPlace) (u5_3 : Sq SRoad) (u5_4 : Sq SFan) (u5_5 : Sq SDoor) (u5_6 u5_7 : Sq Int) (u5_1 : Int) (u5_8 : Sq Int) (u5_9 : Int) : Option ((Int × (Sq Int)) ⊕ (Int × (Sq Int))) := ref10_Up_l5_m.val ((u5_0, u5_2, u5_3, u5_4, u5_5, u5_6, u5_7), (u5_1, u5_8, u5_9))
theorem ref10_Up_l5_eq (u5_0 : Int) (u5_2 : Sq SPlace) (u5_3 : Sq SRoad) (u5_4 : Sq SFan) (u5_5 : Sq SDoor) (u5_6 u5_7 : Sq Int) (u5_1 : Int) (u5_8 : Sq Int) (u5_9 : Int) : ref10_Up_l5 u5_0 u5_2 u5_3 u5_4 u5_5 u5_6 u5_7 u5_1 u5_8 u5_9 = fixO (fun v : Int × (Sq Int) × Int => ref10_Up_l5_step u5_0 u5_2 u5_3 u5_4 u5_5 u5_6 u5_7 v.1 v.2.1 v.2.2) (u5_1, u5_8, u5_9) := ref10_Up_l5_m.val_eq (fun x => ((intA (aget x.tm 3), sqD SPlace.dec (cellS x 0 0), sqD SRoad.dec (cellS x 0 1), sqD SFan.dec (cellS x 0 2), sqD SDoor.dec (cellS x 0 3), sqD dI (cellS x 64 0), sqD dI (cellS x 64 1)), (intA (aget x.tm 11), sqB dI (blkS x 320), intA (aget x.tm 12)))) (fun p => by kernel_rfl) ((u5_0, u5_2, u5_3, u5_4, u5_5, u5_6, u5_7), (u5_1, u5_8, u5_9))
noncomputable def ref10_Up_l12_step (u12_0 : Int) (u12_3 : Sq SPlace) (u12_4 : Sq SRoad) (u12_5 : Sq SFan) (u12_6 : Sq SDoor) (u12_7 u12_8 : Sq Int) (u12_1 u12_2 : Int) (u12_9 : Sq Int) : DT (LR (Int × Int × (Sq Int)) (Int × (Sq Int)) (Unit)) :=
 .ite (decide ((wr (u12_1 + (1 : Int))) < u12_2)) (
 .ite (decide ((0 : Int) ≤ u12_0 ∧ u12_0 < ((u12_9.n : Nat) : Int))) (
 .bind (ref10_Lowest (SAir.mk (SMine.mk u12_3 u12_4) u12_5 u12_6) (SSetting.mk u12_7 u12_8) (Sq.mk u12_9.n (fun k4 => (cond (Nat.beq k4 (Int.toNat u12_0)) (wr (u12_1 + (wr (Int.tdiv (wr (u12_2 - u12_1)) (2 : Int))))) (u12_9.f k4)))) u12_0) fun z1 =>
 .ite (decide (z1 ≥ (0 : Int))) (
 .ite (decide ((0 : Int) ≤ u12_0 ∧ u12_0 < ((u12_9.n : Nat) : Int))) (
 .leaf (.next (u12_1, (cond (Nat.beq (Int.toNat u12_0) (Int.toNat u12_0)) (wr (u12_1 + (wr (Int.tdiv (wr (u12_2 - u12_1)) (2 : Int))))) (u12_9.f (Int.toNat u12_0))), (Sq.mk u12_9.n (fun k5 => (cond (Nat.beq k5 (Int.toNat u12_0)) (wr (u12_1 + (wr (Int.tdiv (wr (u12_2 - u12_1)) (2 : Int))))) (u12_9.f k5))))))) (
 .fail)) (
 .ite (decide ((0 : Int) ≤ u12_0 ∧ u12_0 < ((u12_9.n : Nat) : Int))) (
 .leaf (.next ((cond (Nat.beq (Int.toNat u12_0) (Int.toNat u12_0)) (wr (u12_1 + (wr (Int.tdiv (wr (u12_2 - u12_1)) (2 : Int))))) (u12_9.f (Int.toNat u12_0))), u12_2, (Sq.mk u12_9.n (fun k6 => (cond (Nat.beq k6 (Int.toNat u12_0)) (wr (u12_1 + (wr (Int.tdiv (wr (u12_2 - u12_1)) (2 : Int))))) (u12_9.f k6))))))) (
 .fail))) (
 .fail)) (
 .leaf (.l (u12_2, u12_9)))
noncomputable def ref10_Up_l12_m : LpM := ⟨Int × (Sq SPlace) × (Sq SRoad) × (Sq SFan) × (Sq SDoor) × (Sq Int) × (Sq Int), Int × Int × (Sq Int), Int × (Sq Int), Unit, fun p => ⟨[(3, .int .i64 p.1.1), (4, .ptr 0 0), (5, .ptr 64 0), (10, .own 320 0), (11, .int .i64 p.2.1), (13, .int .i64 p.2.2.1)], [(0, .var [sqA 2 SPlace.enc p.1.2.1, sqA 10 SRoad.enc p.1.2.2.1, sqA 4 SFan.enc p.1.2.2.2.1, sqA 3 SDoor.enc p.1.2.2.2.2.1]), (64, .var [sqA 1 (eI .i64) p.1.2.2.2.2.2.1, sqA 1 (eI .i64) p.1.2.2.2.2.2.2]), (320, rowA 0 1 3 (eI .i64) p.2.2.2)], 1920⟩, fun f v => ref10_Up_l12_step f.1 f.2.1 f.2.2.1 f.2.2.2.1 f.2.2.2.2.1 f.2.2.2.2.2.1 f.2.2.2.2.2.2 v.1 v.2.1 v.2.2, true, (.exit 2), (fun x a => ⟨[(13, .int .i64 a.1)], [(0, blkS x 0), (64, blkS x 64), (320, rowA 0 1 3 (eI .i64) a.2)], 1920⟩), .ret, (fun _ _ => ⟨[], [], 0⟩)⟩
noncomputable def ref10_Up_l12 (u12_0 : Int) (u12_3 : Sq SPlace) (u12_4 : Sq SRoad) (u12_5 : Sq SFan) (u12_6 : Sq SDoor) (u12_7 u12_8 : Sq Int) (u12_1 u12_2 : Int) (u12_9 : Sq Int) : Option ((Int × (Sq Int)) ⊕ (Unit)) := ref10_Up_l12_m.val ((u12_0, u12_3, u12_4, u12_5, u12_6, u12_7, u12_8), (u12_1, u12_2, u12_9))
theorem ref10_Up_l12_eq (u12_0 : Int) (u12_3 : Sq SPlace) (u12_4 : Sq SRoad) (u12_5 : Sq SFan) (u12_6 : Sq SDoor) (u12_7 u12_8 : Sq Int) (u12_1 u12_2 : Int) (u12_9 : Sq Int) : ref10_Up_l12 u12_0 u12_3 u12_4 u12_5 u12_6 u12_7 u12_8 u12_1 u12_2 u12_9 = fixO (fun v : Int × Int × (Sq Int) => ref10_Up_l12_step u12_0 u12_3 u12_4 u12_5 u12_6 u12_7 u12_8 v.1 v.2.1 v.2.2) (u12_1, u12_2, u12_9) := ref10_Up_l12_m.val_eq (fun x => ((intA (aget x.tm 3), sqD SPlace.dec (cellS x 0 0), sqD SRoad.dec (cellS x 0 1), sqD SFan.dec (cellS x 0 2), sqD SDoor.dec (cellS x 0 3), sqD dI (cellS x 64 0), sqD dI (cellS x 64 1)), (intA (aget x.tm 11), intA (aget x.tm 13), sqB dI (blkS x 320)))) (fun p => by kernel_rfl) ((u12_0, u12_3, u12_4, u12_5, u12_6, u12_7, u12_8), (u12_1, u12_2, u12_9))
noncomputable def ref10_Up_t (a : SAir) (s : SSetting) (pressures : Sq Int) (place : Int) : DT (Int × Bool) :=
 .ite (decide (pressures.n * 8 ≤ 140737488355328 ∧ pressures.n ≤ 1099511627776)) (
 .bind (ref10_Lowest a s pressures place) fun z2 =>
 .ite (decide (z2 ≥ (0 : Int))) (
 .ite (decide ((0 : Int) ≤ place ∧ place < ((pressures.n : Nat) : Int))) (.leaf ((pressures.f (Int.toNat place)), true)) (.fail)) (
 .ite (decide ((0 : Int) ≤ place ∧ place < ((pressures.n : Nat) : Int))) (
 .sum (ref10_Up_l5 place a.Mine.Places a.Mine.Roads a.Fans a.Doors s.Fans s.Doors (pressures.f (Int.toNat place)) pressures (1 : Int)) (fun y0 =>
 .ite (decide ((0 : Int) ≤ place ∧ place < ((y0.2.n : Nat) : Int))) (
 .sum (ref10_Up_l12 place a.Mine.Places a.Mine.Roads a.Fans a.Doors s.Fans s.Doors y0.1 (y0.2.f (Int.toNat place)) y0.2) (fun y1 =>
 .leaf (y1.1, true)) (fun _ => .fail)) (
 .fail)) (fun _ => .leaf ((0 : Int), false))) (
 .fail))) (
 .fail)
noncomputable def ref10_Up_m : FnM := flM (SAir × SSetting × (Sq Int) × Int) (Int × Bool) (fun p => ([.agg (SAir.enc p.1), .agg (SSetting.enc p.2.1), sqA 1 (eI .i64) p.2.2.1, .int .i64 p.2.2.2], [])) (fun p => ref10_Up_t p.1 p.2.1 p.2.2.1 p.2.2.2) (fun r => .tup [.int .i64 r.1, .bool r.2]) (fun _ => rfl)
noncomputable def ref10_Up_env : Env := envM [(33, ref10_Lowest_m.c)] [(5, [3, 4, 5, 10, 11, 12], [3, 4, 5, 8, 9, 10, 11]), (12, [3, 4, 5, 10, 11, 13], [13])] [(5, ref10_Up_l5_m.c), (12, ref10_Up_l12_m.c)] [] [(5, [0, 64, 320]), (12, [0, 64, 320])] 0
noncomputable def ref10_Up_e : Env := { ref10_Up_env with nt := 86 }
theorem ref10_Up_l5_tells : LoopTells ref10_Up_e (loopOf 5 Try.f37) ref10_Up_l5_m.c := ref10_Up_l5_m.tells 1600 (fun _ => by kernel_rfl) (fun _ _ _ _ => by kernel_rfl) (fun _ _ _ _ => by kernel_rfl) fun R f v N K => by kernel_rfl
theorem ref10_Up_l12_tells : LoopTells ref10_Up_e (loopOf 12 Try.f37) ref10_Up_l12_m.c := ref10_Up_l12_m.tells 1920 (fun _ => by kernel_rfl) (fun _ _ _ _ => by kernel_rfl) (fun _ _ _ _ => by kernel_rfl) fun R f v N K => by kernel_rfl
theorem ref10_Up_tells : Tells Try.prog 37 ref10_Up_m.c := ref10_Up_m.tells Try.func37 (show ∀ p, arun ref10_Up_env Try.f37 (ref10_Up_m.enc p).1 (ref10_Up_m.enc p).2 = _ from fun p => by kernel_rfl) (loopsL [loopOf 5 Try.f37, loopOf 12 Try.f37] (by kernel_rfl) ⟨lpT (by kernel_rfl) ref10_Up_l5_tells, ⟨lpT (by kernel_rfl) ref10_Up_l12_tells, trivial⟩⟩) (.cons ref10_Lowest_tells .nil)
noncomputable def ref10_Up (a : SAir) (s : SSetting) (pressures : Sq Int) (place : Int) : Option (Int × Bool) := ref10_Up_m.val (a, s, pressures, place)
theorem ref10_Up_eq (a : SAir) (s : SSetting) (pressures : Sq Int) (place : Int) : ref10_Up a s pressures place = (ref10_Up_t a s pressures place).get := ref10_Up_m.val_eq (fun x => (SAir.dec (aggL (gd x.1 0)), SSetting.dec (aggL (gd x.1 1)), sqD dI (gd x.1 2), intA (gd x.1 3))) (fun p => by kernel_rfl) (a, s, pressures, place)

/-! minecontrol/minecontrolref10.Least -/
noncomputable def ref10_Least_t (a : SAir) (s : SSetting) (pressures : Sq Int) (place : Int) : DT (Int × Bool) :=
 .bind (ref10_right a s pressures place) fun z0 =>
 .ite (!z0) (
 .leaf ((0 : Int), false)) (
 .bind (ref10_Up a s pressures place) fun z1 =>
 .leaf (z1.1, z1.2))
noncomputable def ref10_Least_m : FnM := flM (SAir × SSetting × (Sq Int) × Int) (Int × Bool) (fun p => ([.agg (SAir.enc p.1), .agg (SSetting.enc p.2.1), sqA 1 (eI .i64) p.2.2.1, .int .i64 p.2.2.2], [])) (fun p => ref10_Least_t p.1 p.2.1 p.2.2.1 p.2.2.2) (fun r => .tup [.int .i64 r.1, .bool r.2]) (fun _ => rfl)
noncomputable def ref10_Least_env : Env := envM [(32, ref10_right_m.c), (37, ref10_Up_m.c)] [] [] [] [] 0
theorem ref10_Least_tells : Tells Try.prog 18 ref10_Least_m.c := ref10_Least_m.tells Try.func18 (show ∀ p, arun ref10_Least_env Try.f18 (ref10_Least_m.enc p).1 (ref10_Least_m.enc p).2 = _ from fun p => by kernel_rfl) noLoops (.cons ref10_right_tells (.cons ref10_Up_tells .nil))
noncomputable def ref10_Least (a : SAir) (s : SSetting) (pressures : Sq Int) (place : Int) : Option (Int × Bool) := ref10_Least_m.val (a, s, pressures, place)
theorem ref10_Least_eq (a : SAir) (s : SSetting) (pressures : Sq Int) (place : Int) : ref10_Least a s pressures place = (ref10_Least_t a s pressures place).get := ref10_Least_m.val_eq (fun x => (SAir.dec (aggL (gd x.1 0)), SSetting.dec (aggL (gd x.1 1)), sqD dI (gd x.1 2), intA (gd x.1 3))) (fun p => by kernel_rfl) (a, s, pressures, place)

/-! minecontrol/balance.Greatest$1 -/
noncomputable def balance_Greatest_1_t (net : SSpan) : DT (Bool) :=
 .leaf (decide (net.High ≤ (0 : Int)))
noncomputable def balance_Greatest_1_m : FnM := flM (SSpan) (Bool) (fun p => ([.agg (SSpan.enc p)], [])) (fun p => balance_Greatest_1_t p) (fun r => .bool r) (fun _ => rfl)
noncomputable def balance_Greatest_1_env : Env := envM [] [] [] [] [] 0
theorem balance_Greatest_1_tells : Tells Try.prog 38 balance_Greatest_1_m.c := balance_Greatest_1_m.tells Try.func38 (show ∀ p, arun balance_Greatest_1_env Try.f38 (balance_Greatest_1_m.enc p).1 (balance_Greatest_1_m.enc p).2 = _ from fun p => by kernel_rfl) noLoops .nil
noncomputable def balance_Greatest_1 (net : SSpan) : Option (Bool) := balance_Greatest_1_m.val net
theorem balance_Greatest_1_eq (net : SSpan) : balance_Greatest_1 net = (balance_Greatest_1_t net).get := balance_Greatest_1_m.val_eq (fun x => SSpan.dec (aggL (gd x.1 0))) (fun p => by kernel_rfl) net

/-! minecontrol/balance.nearest$1 -/
noncomputable def balance_nearest_1_v2_t (n x x2 : Int) (y0 : Sjunction) : DT (Bool) :=
 .bind (balance_junction_net y0 (wr (x + (wr (n * x2))))) fun z0 =>
 .bind (balance_Greatest_1 z0) fun z1 =>
 .leaf z1
noncomputable def balance_nearest_1_v2_m : FnM := nfM (Int × Int × Int × Sjunction) (Bool) (fun p => ([.int .i64 p.1, .ptr 0 0, .ptr 1 0, .ptr 2 0, .ptr 3 0], [.var [.fn 38 []], .var [.ptr 4 0], .var [.int .i64 p.2.1], .var [.int .i64 p.2.2.1], .var [sqA 2 SPlace.enc p.2.2.2.air_.Mine.Places, .own 5 0, .own 6 0, .own 7 0, .own 8 0, .own 9 0, sqA 1 (eI .i64) p.2.2.2.pressures_, .int .i64 p.2.2.2.place_], rowA 0 10 60 SRoad.enc p.2.2.2.air_.Mine.Roads, rowA 0 4 83 SFan.enc p.2.2.2.air_.Fans, rowA 0 3 72 SDoor.enc p.2.2.2.air_.Doors, rowA 0 1 3 (eI .i64) p.2.2.2.setting_.Fans, rowA 0 1 3 (eI .i64) p.2.2.2.setting_.Doors])) (fun p => balance_nearest_1_v2_t p.1 p.2.1 p.2.2.1 p.2.2.2) (fun r => .bool r) (fun ins _ => [dB ins 0, dB ins 1, dB ins 2, dB ins 3, dB ins 4, dB ins 5, dB ins 6, dB ins 7, dB ins 8, dB ins 9])
noncomputable def balance_nearest_1_v2_env : Env := envM [(31, balance_junction_net_m.c), (38, balance_Greatest_1_m.c)] [] [] [] [] 10
theorem balance_nearest_1_v2_tells : Tells Try.prog 53 balance_nearest_1_v2_m.c := balance_nearest_1_v2_m.tells Try.func53 (show ∀ p, arun balance_nearest_1_v2_env Try.f53 (balance_nearest_1_v2_m.enc p).1 (balance_nearest_1_v2_m.enc p).2 = _ from fun p => by kernel_rfl) noLoops (.cons balance_junction_net_tells (.cons balance_Greatest_1_tells .nil))
noncomputable def balance_nearest_1_v2 (n x x2 : Int) (y0 : Sjunction) : Option (Bool) := balance_nearest_1_v2_m.val (n, x, x2, y0)
theorem balance_nearest_1_v2_eq (n x x2 : Int) (y0 : Sjunction) : balance_nearest_1_v2 n x x2 y0 = (balance_nearest_1_v2_t n x x2 y0).get := balance_nearest_1_v2_m.val_eq (fun x => (intA (gd x.1 0), intA (gd (varL (dB x.2 2)) 0), intA (gd (varL (dB x.2 3)) 0), ⟨⟨⟨sqD SPlace.dec (gd (varL (dB x.2 4)) 0), sqB SRoad.dec (dB x.2 5)⟩, sqB SFan.dec (dB x.2 6), sqB SDoor.dec (dB x.2 7)⟩, ⟨sqB dI (dB x.2 8), sqB dI (dB x.2 9)⟩, sqD dI (gd (varL (dB x.2 4)) 6), intA (gd (varL (dB x.2 4)) 7)⟩)) (fun p => by kernel_rfl) (n, x, x2, y0)

/-! sort.Search -/
noncomputable def sort_Search_v4_l2_step (u2_1 u2_2 : Int) (u2_3 : Sq SPlace) (u2_4 : Sq Int) (u2_5 : Int) (u2_6 : Sq SRoad) (u2_7 : Sq SFan) (u2_8 : Sq SDoor) (u2_9 u2_10 : Sq Int) (u2_0 u2_11 : Int) : DT (LR (Int × Int) (Int) (Unit)) :=
 .ite (decide (u2_11 < u2_0)) (
 .bind (balance_nearest_1_v2 (wr ((IntKind.u64.wrap (wr (u2_11 + u2_0))) / 2 ^ (Int.toNat (1 : Int)))) u2_1 u2_2 (Sjunction.mk (SAir.mk (SMine.mk u2_3 u2_6) u2_7 u2_8) (SSetting.mk u2_9 u2_10) u2_4 u2_5)) fun z0 =>
 .ite (!z0) (
 .leaf (.next (u2_0, (wr ((wr ((IntKind.u64.wrap (wr (u2_11 + u2_0))) / 2 ^ (Int.toNat (1 : Int)))) + (1 : Int)))))) (
 .leaf (.next ((wr ((IntKind.u64.wrap (wr (u2_11 + u2_0))) / 2 ^ (Int.toNat (1 : Int)))), u2_11)))) (
 .leaf (.l u2_11))
noncomputable def sort_Search_v4_l2_m : LpM := ⟨Int × Int × (Sq SPlace) × (Sq Int) × Int × (Sq SRoad) × (Sq SFan) × (Sq SDoor) × (Sq Int) × (Sq Int), Int × Int, Int, Unit, fun p => ⟨[(1, .fn 53 [.ptr 0 0, .ptr 1 0, .ptr 2 0, .ptr 3 0]), (5, .int .i64 p.2.2), (6, .int .i64 p.2.1)], [(0, .var [.fn 38 []]), (1, .var [.ptr 4 0]), (2, .var [.int .i64 p.1.1]), (3, .var [.int .i64 p.1.2.1]), (4, .var [sqA 2 SPlace.enc p.1.2.2.1, .own 5 0, .own 6 0, .own 7 0, .own 8 0, .own 9 0, sqA 1 (eI .i64) p.1.2.2.2.1, .int .i64 p.1.2.2.2.2.1]), (5, rowA 0 10 60 SRoad.enc p.1.2.2.2.2.2.1), (6, rowA 0 4 83 SFan.enc p.1.2.2.2.2.2.2.1), (7, rowA 0 3 72 SDoor.enc p.1.2.2.2.2.2.2.2.1), (8, rowA 0 1 3 (eI .i64) p.1.2.2.2.2.2.2.2.2.1), (9, rowA 0 1 3 (eI .i64) p.1.2.2.2.2.2.2.2.2.2)], 266⟩, fun f v => sort_Search_v4_l2_step f.1 f.2.1 f.2.2.1 f.2.2.2.1 f.2.2.2.2.1 f.2.2.2.2.2.1 f.2.2.2.2.2.2.1 f.2.2.2.2.2.2.2.1 f.2.2.2.2.2.2.2.2.1 f.2.2.2.2.2.2.2.2.2 v.1 v.2, true, (.exit 0), (fun x a => ⟨[(5, .int .i64 a)], [(0, .var [.fn 38 []]), (1, .var [.ptr 4 0]), (2, blkS x 2), (3, blkS x 3), (4, blkS x 4), (5, blkS x 5), (6, blkS x 6), (7, blkS x 7), (8, blkS x 8), (9, blkS x 9)], 266⟩), .ret, (fun _ _ => ⟨[], [], 0⟩)⟩
noncomputable def sort_Search_v4_l2 (u2_1 u2_2 : Int) (u2_3 : Sq SPlace) (u2_4 : Sq Int) (u2_5 : Int) (u2_6 : Sq SRoad) (u2_7 : Sq SFan) (u2_8 : Sq SDoor) (u2_9 u2_10 : Sq Int) (u2_0 u2_11 : Int) : Option ((Int) ⊕ (Unit)) := sort_Search_v4_l2_m.val ((u2_1, u2_2, u2_3, u2_4, u2_5, u2_6, u2_7, u2_8, u2_9, u2_10), (u2_0, u2_11))
theorem sort_Search_v4_l2_eq (u2_1 u2_2 : Int) (u2_3 : Sq SPlace) (u2_4 : Sq Int) (u2_5 : Int) (u2_6 : Sq SRoad) (u2_7 : Sq SFan) (u2_8 : Sq SDoor) (u2_9 u2_10 : Sq Int) (u2_0 u2_11 : Int) : sort_Search_v4_l2 u2_1 u2_2 u2_3 u2_4 u2_5 u2_6 u2_7 u2_8 u2_9 u2_10 u2_0 u2_11 = fixO (fun v : Int × Int => sort_Search_v4_l2_step u2_1 u2_2 u2_3 u2_4 u2_5 u2_6 u2_7 u2_8 u2_9 u2_10 v.1 v.2) (u2_0, u2_11) := sort_Search_v4_l2_m.val_eq (fun x => ((intA (cellS x 2 0), intA (cellS x 3 0), sqD SPlace.dec (cellS x 4 0), sqD dI (cellS x 4 6), intA (cellS x 4 7), sqB SRoad.dec (blkS x 5), sqB SFan.dec (blkS x 6), sqB SDoor.dec (blkS x 7), sqB dI (blkS x 8), sqB dI (blkS x 9)), (intA (aget x.tm 6), intA (aget x.tm 5)))) (fun p => by kernel_rfl) ((u2_1, u2_2, u2_3, u2_4, u2_5, u2_6, u2_7, u2_8, u2_9, u2_10), (u2_0, u2_11))
noncomputable def sort_Search_v4_t (n y0 y1 : Int) (y2 : Sjunction) : DT (Int) :=
 .sum (sort_Search_v4_l2 y0 y1 y2.air_.Mine.Places y2.pressures_ y2.place_ y2.air_.Mine.Roads y2.air_.Fans y2.air_.Doors y2.setting_.Fans y2.setting_.Doors n (0 : Int)) (fun y3 =>
 .leaf y3) (fun _ => .fail)
noncomputable def sort_Search_v4_m : FnM := nfM (Int × Int × Int × Sjunction) (Int) (fun p => ([.int .i64 p.1, .fn 53 [.ptr 0 0, .ptr 1 0, .ptr 2 0, .ptr 3 0]], [.var [.fn 38 []], .var [.ptr 4 0], .var [.int .i64 p.2.1], .var [.int .i64 p.2.2.1], .var [sqA 2 SPlace.enc p.2.2.2.air_.Mine.Places, .own 5 0, .own 6 0, .own 7 0, .own 8 0, .own 9 0, sqA 1 (eI .i64) p.2.2.2.pressures_, .int .i64 p.2.2.2.place_], rowA 0 10 60 SRoad.enc p.2.2.2.air_.Mine.Roads, rowA 0 4 83 SFan.enc p.2.2.2.air_.Fans, rowA 0 3 72 SDoor.enc p.2.2.2.air_.Doors, rowA 0 1 3 (eI .i64) p.2.2.2.setting_.Fans, rowA 0 1 3 (eI .i64) p.2.2.2.setting_.Doors])) (fun p => sort_Search_v4_t p.1 p.2.1 p.2.2.1 p.2.2.2) (fun r => .int .i64 r) (fun ins _ => [dB ins 0, dB ins 1, dB ins 2, dB ins 3, dB ins 4, dB ins 5, dB ins 6, dB ins 7, dB ins 8, dB ins 9])
noncomputable def sort_Search_v4_env : Env := envM [(53, balance_nearest_1_v2_m.c)] [(2, [1, 5, 6], [5])] [(2, sort_Search_v4_l2_m.c)] [] [(2, [0, 1, 2, 3, 4, 5, 6, 7, 8, 9])] 10
noncomputable def sort_Search_v4_e : Env := { sort_Search_v4_env with nt := 26 }
theorem sort_Search_v4_l2_tells : LoopTells sort_Search_v4_e (loopOf 2 Try.f52) sort_Search_v4_l2_m.c := sort_Search_v4_l2_m.tells 266 (fun _ => by kernel_rfl) (fun _ _ _ _ => by kernel_rfl) (fun _ _ _ _ => by kernel_rfl) fun R f v N K => by kernel_rfl
theorem sort_Search_v4_tells : Tells Try.prog 52 sort_Search_v4_m.c := sort_Search_v4_m.tells Try.func52 (show ∀ p, arun sort_Search_v4_env Try.f52 (sort_Search_v4_m.enc p).1 (sort_Search_v4_m.enc p).2 = _ from fun p => by kernel_rfl) (loopsL [loopOf 2 Try.f52] (by kernel_rfl) ⟨lpT (by kernel_rfl) sort_Search_v4_l2_tells, trivial⟩) (.cons balance_nearest_1_v2_tells .nil)
noncomputable def sort_Search_v4 (n y0 y1 : Int) (y2 : Sjunction) : Option (Int) := sort_Search_v4_m.val (n, y0, y1, y2)
theorem sort_Search_v4_eq (n y0 y1 : Int) (y2 : Sjunction) : sort_Search_v4 n y0 y1 y2 = (sort_Search_v4_t n y0 y1 y2).get := sort_Search_v4_m.val_eq (fun x => (intA (gd x.1 0), intA (gd (varL (dB x.2 2)) 0), intA (gd (varL (dB x.2 3)) 0), ⟨⟨⟨sqD SPlace.dec (gd (varL (dB x.2 4)) 0), sqB SRoad.dec (dB x.2 5)⟩, sqB SFan.dec (dB x.2 6), sqB SDoor.dec (dB x.2 7)⟩, ⟨sqB dI (dB x.2 8), sqB dI (dB x.2 9)⟩, sqD dI (gd (varL (dB x.2 4)) 6), intA (gd (varL (dB x.2 4)) 7)⟩)) (fun p => by kernel_rfl) (n, y0, y1, y2)

/-! minecontrol/balance.nearest -/
noncomputable def balance_nearest_v3_t (a : SAir) (s : SSetting) (pressures : Sq Int) (place step : Int) : DT (Int × Bool) :=
 .bind (balance_proper a s pressures place) fun z0 =>
 .ite (!z0) (
 .leaf ((0 : Int), false)) (
 .bind (balance_junctionOf a s pressures place) fun z1 =>
 .ite (decide ((0 : Int) ≤ place ∧ place < ((pressures.n : Nat) : Int))) (
 .bind (sort_Search_v4 (wr ((wr ((70368744177664 : Int) - (wr (step * (pressures.f (Int.toNat place)))))) + (1 : Int))) (pressures.f (Int.toNat place)) step z1) fun z2 =>
 .ite (decide (z2 > (wr ((70368744177664 : Int) - (wr (step * (pressures.f (Int.toNat place)))))))) (.leaf ((0 : Int), false)) (.leaf ((wr ((pressures.f (Int.toNat place)) + (wr (z2 * step)))), true))) (
 .fail))
noncomputable def balance_nearest_v3_m : FnM := flM (SAir × SSetting × (Sq Int) × Int × Int) (Int × Bool) (fun p => ([.agg (SAir.enc p.1), .agg (SSetting.enc p.2.1), sqA 1 (eI .i64) p.2.2.1, .int .i64 p.2.2.2.1, .int .i64 p.2.2.2.2, .fn 38 []], [])) (fun p => balance_nearest_v3_t p.1 p.2.1 p.2.2.1 p.2.2.2.1 p.2.2.2.2) (fun r => .tup [.int .i64 r.1, .bool r.2]) (fun _ => rfl)
noncomputable def balance_nearest_v3_env : Env := envM [(29, balance_proper_m.c), (30, balance_junctionOf_m.c), (52, sort_Search_v4_m.c)] [] [] [] [] 0
theorem balance_nearest_v3_tells : Tells Try.prog 35 balance_nearest_v3_m.c := balance_nearest_v3_m.tells Try.func35 (show ∀ p, arun balance_nearest_v3_env Try.f35 (balance_nearest_v3_m.enc p).1 (balance_nearest_v3_m.enc p).2 = _ from fun p => by kernel_rfl) noLoops (.cons balance_proper_tells (.cons balance_junctionOf_tells (.cons sort_Search_v4_tells .nil)))
noncomputable def balance_nearest_v3 (a : SAir) (s : SSetting) (pressures : Sq Int) (place step : Int) : Option (Int × Bool) := balance_nearest_v3_m.val (a, s, pressures, place, step)
theorem balance_nearest_v3_eq (a : SAir) (s : SSetting) (pressures : Sq Int) (place step : Int) : balance_nearest_v3 a s pressures place step = (balance_nearest_v3_t a s pressures place step).get := balance_nearest_v3_m.val_eq (fun x => (SAir.dec (aggL (gd x.1 0)), SSetting.dec (aggL (gd x.1 1)), sqD dI (gd x.1 2), intA (gd x.1 3), intA (gd x.1 4))) (fun p => by kernel_rfl) (a, s, pressures, place, step)

/-! minecontrol/balance.Greatest -/
noncomputable def balance_Greatest_t (a : SAir) (s : SSetting) (pressures : Sq Int) (place : Int) : DT (Int × Bool) :=
 .bind (balance_nearest_v3 a s pressures place (-1 : Int)) fun z0 =>
 .leaf (z0.1, z0.2)
noncomputable def balance_Greatest_m : FnM := flM (SAir × SSetting × (Sq Int) × Int) (Int × Bool) (fun p => ([.agg (SAir.enc p.1), .agg (SSetting.enc p.2.1), sqA 1 (eI .i64) p.2.2.1, .int .i64 p.2.2.2], [])) (fun p => balance_Greatest_t p.1 p.2.1 p.2.2.1 p.2.2.2) (fun r => .tup [.int .i64 r.1, .bool r.2]) (fun _ => rfl)
noncomputable def balance_Greatest_env : Env := envM [(35, balance_nearest_v3_m.c)] [] [] [] [] 0
theorem balance_Greatest_tells : Tells Try.prog 19 balance_Greatest_m.c := balance_Greatest_m.tells Try.func19 (show ∀ p, arun balance_Greatest_env Try.f19 (balance_Greatest_m.enc p).1 (balance_Greatest_m.enc p).2 = _ from fun p => by kernel_rfl) noLoops (.cons balance_nearest_v3_tells .nil)
noncomputable def balance_Greatest (a : SAir) (s : SSetting) (pressures : Sq Int) (place : Int) : Option (Int × Bool) := balance_Greatest_m.val (a, s, pressures, place)
theorem balance_Greatest_eq (a : SAir) (s : SSetting) (pressures : Sq Int) (place : Int) : balance_Greatest a s pressures place = (balance_Greatest_t a s pressures place).get := balance_Greatest_m.val_eq (fun x => (SAir.dec (aggL (gd x.1 0)), SSetting.dec (aggL (gd x.1 1)), sqD dI (gd x.1 2), intA (gd x.1 3))) (fun p => by kernel_rfl) (a, s, pressures, place)

/-! minecontrol/minecontrolref10.Down -/
noncomputable def ref10_Down_l5_step (u5_0 : Int) (u5_2 : Sq SPlace) (u5_3 : Sq SRoad) (u5_4 : Sq SFan) (u5_5 : Sq SDoor) (u5_6 u5_7 : Sq Int) (u5_1 : Int) (u5_8 : Sq Int) (u5_9 : Int) : DT (LR (Int × (Sq Int) × Int) (Int × (Sq Int)) (Int × (Sq Int))) :=
 .ite (decide ((0 : Int) ≤ u5_0 ∧ u5_0 < ((u5_8.n : Nat) : Int))) (
 .bind (ref10_Highest (SAir.mk (SMine.mk u5_2 u5_3) u5_4 u5_5) (SSetting.mk u5_6 u5_7) (Sq.mk u5_8.n (fun k0 => (cond (Nat.beq k0 (Int.toNat u5_0)) (if (wr (u5_1 - u5_9)) < (-70368744177664 : Int) then (-70368744177664 : Int) else (wr (u5_1 - u5_9))) (u5_8.f k0)))) u5_0) fun z0 =>
 .ite (decide (z0 ≤ (0 : Int))) (
 .leaf (.l (u5_1, (Sq.mk u5_8.n (fun k1 => (cond (Nat.beq k1 (Int.toNat u5_0)) (if (wr (u5_1 - u5_9)) < (-70368744177664 : Int) then (-70368744177664 : Int) else (wr (u5_1 - u5_9))) (u5_8.f k1))))))) (
 .ite (decide ((0 : Int) ≤ u5_0 ∧ u5_0 < ((u5_8.n : Nat) : Int))) (
 .ite ((cond (Nat.beq (Int.toNat u5_0) (Int.toNat u5_0)) (if (wr (u5_1 - u5_9)) < (-70368744177664 : Int) then (-70368744177664 : Int) else (wr (u5_1 - u5_9))) (u5_8.f (Int.toNat u5_0))) == (-70368744177664 : Int)) (
 .leaf (.r (u5_1, (Sq.mk u5_8.n (fun k2 => (cond (Nat.beq k2 (Int.toNat u5_0)) (if (wr (u5_1 - u5_9)) < (-70368744177664 : Int) then (-70368744177664 : Int) else (wr (u5_1 - u5_9))) (u5_8.f k2))))))) (
 .ite (decide ((0 : Int) ≤ u5_0 ∧ u5_0 < ((u5_8.n : Nat) : Int))) (
 .leaf (.next ((cond (Nat.beq (Int.toNat u5_0) (Int.toNat u5_0)) (if (wr (u5_1 - u5_9)) < (-70368744177664 : Int) then (-70368744177664 : Int) else (wr (u5_1 - u5_9))) (u5_8.f (Int.toNat u5_0))), (Sq.mk u5_8.n (fun k3 => (cond (Nat.beq k3 (Int.toNat u5_0)) (if (wr (u5_1 - u5_9)) < (-70368744177664 : Int) then (-70368744177664 : Int) else (wr (u5_1 - u5_9))) (u5_8.f k3)))), (wr (u5_9 * (2 : Int)))))) (
 .fail))) (
 .fail))) (
 .fail)
noncomputable def ref10_Down_l5_m : LpM := ⟨Int × (Sq SPlace) × (Sq SRoad) × (Sq SFan) × (Sq SDoor) × (Sq Int) × (Sq Int), Int × (Sq Int) × Int, Int × (Sq Int), Int × (Sq Int), fun p => ⟨[(3, .int .i64 p.1.1), (4, .ptr 0 0), (5, .ptr 64 0), (10, .own 320 0), (11, .int .i64 p.2.1), (12, .int .i64 p.2.2.2)], [(0, .var [sqA 2 SPlace.enc p.1.2.1, sqA 10 SRoad.enc p.1.2.2.1, sqA 4 SFan.enc p.1.2.2.2.1, sqA 3 SDoor.enc p.1.2.2.2.2.1]), (64, .var [sqA 1 (eI .i64) p.1.2.2.2.2.2.1, sqA 1 (eI .i64) p.1.2.2.2.2.2.2]), (320, rowA 0 1 3 (eI .i64) p.2.2.1)], 1600⟩, fun f v => ref10_Down_l5_step f.1 f.2.1 f.2.2.1 f.2.2.2.1 f.2.2.2.2.1 f.2.2.2.2.2.1 f.2.2.2.2.2.2 v.1 v.2.1 v.2.2, false, (.exit 0), (fun x a => ⟨[(3, aget x.tm 3), (4, .ptr 0 0), (5, .ptr 64 0), (8, .undef), (9, .undef), (10, .own 320 0), (11, .int .i64 a.1)], [(0, blkS x 0), (64, blkS x 64), (320, rowA 0 1 3 (eI .i64) a.2)], 1600⟩), .ret, (fun x a => ⟨[(3, aget x.tm 3), (4, .ptr 0 0), (5, .ptr 64 0), (8, .int .i64 (0 : Int)), (9, .bool false), (10, .own 320 0), (11, .int .i64 a.1)], [(0, blkS x 0), (64, blkS x 64), (320, rowA 0 1 3 (eI .i64) a.2)], 1600⟩)⟩
noncomputable def ref10_Down_l5 (u5_0 : Int) (u5_2 : Sq SPlace) (u5_3 : Sq SRoad) (u5_4 : Sq SFan) (u5_5 : Sq SDoor) (u5_6 u5_7 : Sq Int) (u5_1 : Int) (u5_8 : Sq Int) (u5_9 : Int) : Option ((Int × (Sq Int)) ⊕ (Int × (Sq Int))) := ref10_Down_l5_m.val ((u5_0, u5_2, u5_3, u5_4, u5_5, u5_6, u5_7), (u5_1, u5_8, u5_9))
theorem ref10_Down_l5_eq (u5_0 : Int) (u5_2 : Sq SPlace) (u5_3 : Sq SRoad) (u5_4 : Sq SFan) (u5_5 : Sq SDoor) (u5_6 u5_7 : Sq Int) (u5_1 : Int) (u5_8 : Sq Int) (u5_9 : Int) : ref10_Down_l5 u5_0 u5_2 u5_3 u5_4 u5_5 u5_6 u5_7 u5_1 u5_8 u5_9 = fixO (fun v : Int × (Sq Int) × Int => ref10_Down_l5_step u5_0 u5_2 u5_3 u5_4 u5_5 u5_6 u5_7 v.1 v.2.1 v.2.2) (u5_1, u5_8, u5_9) := ref10_Down_l5_m.val_eq (fun x => ((intA (aget x.tm 3), sqD SPlace.dec (cellS x 0 0), sqD SRoad.dec (cellS x 0 1), sqD SFan.dec (cellS x 0 2), sqD SDoor.dec (cellS x 0 3), sqD dI (cellS x 64 0), sqD dI (cellS x 64 1)), (intA (aget x.tm 11), sqB dI (blkS x 320), intA (aget x.tm 12)))) (fun p => by kernel_rfl) ((u5_0, u5_2, u5_3, u5_4, u5_5, u5_6, u5_7), (u5_1, u5_8, u5_9))
noncomputable def ref10_Down_l12_step (u12_0 : Int) (u12_3 : Sq SPlace) (u12_4 : Sq SRoad) (u12_5 : Sq SFan) (u12_6 : Sq SDoor) (u12_7 u12_8 : Sq Int) (u12_1 u12_2 : Int) (u12_9 : Sq Int) : DT (LR (Int × Int × (Sq Int)) (Int × (Sq Int)) (Unit)) :=
 .ite (decide ((wr (u12_2 + (1 : Int))) < u12_1)) (
 .ite (decide ((0 : Int) ≤ u12_0 ∧ u12_0 < ((u12_9.n : Nat) : Int))) (
 .bind (ref10_Highest (SAir.mk (SMine.mk u12_3 u12_4) u12_5 u12_6) (SSetting.mk u12_7 u12_8) (Sq.mk u12_9.n (fun k4 => (cond (Nat.beq k4 (Int.toNat u12_0)) (wr (u12_2 + (wr (Int.tdiv (wr (u12_1 - u12_2)) (2 : Int))))) (u12_9.f k4)))) u12_0) fun z1 =>
 .ite (decide (z1 ≤ (0 : Int))) (
 .ite (decide ((0 : Int) ≤ u12_0 ∧ u12_0 < ((u12_9.n : Nat) : Int))) (
 .leaf (.next (u12_1, (cond (Nat.beq (Int.toNat u12_0) (Int.toNat u12_0)) (wr (u12_2 + (wr (Int.tdiv (wr (u12_1 - u12_2)) (2 : Int))))) (u12_9.f (Int.toNat u12_0))), (Sq.mk u12_9.n (fun k5 => (cond (Nat.beq k5 (Int.toNat u12_0)) (wr (u12_2 + (wr (Int.tdiv (wr (u12_1 - u12_2)) (2 : Int))))) (u12_9.f k5))))))) (
 .fail)) (
 .ite (decide ((0 : Int) ≤ u12_0 ∧ u12_0 < ((u12_9.n : Nat) : Int))) (
 .leaf (.next ((cond (Nat.beq (Int.toNat u12_0) (Int.toNat u12_0)) (wr (u12_2 + (wr (Int.tdiv (wr (u12_1 - u12_2)) (2 : Int))))) (u12_9.f (Int.toNat u12_0))), u12_2, (Sq.mk u12_9.n (fun k6 => (cond (Nat.beq k6 (Int.toNat u12_0)) (wr (u12_2 + (wr (Int.tdiv (wr (u12_1 - u12_2)) (2 : Int))))) (u12_9.f k6))))))) (
 .fail))) (
 .fail)) (
 .leaf (.l (u12_2, u12_9)))
noncomputable def ref10_Down_l12_m : LpM := ⟨Int × (Sq SPlace) × (Sq SRoad) × (Sq SFan) × (Sq SDoor) × (Sq Int) × (Sq Int), Int × Int × (Sq Int), Int × (Sq Int), Unit, fun p => ⟨[(3, .int .i64 p.1.1), (4, .ptr 0 0), (5, .ptr 64 0), (10, .own 320 0), (11, .int .i64 p.2.1), (13, .int .i64 p.2.2.1)], [(0, .var [sqA 2 SPlace.enc p.1.2.1, sqA 10 SRoad.enc p.1.2.2.1, sqA 4 SFan.enc p.1.2.2.2.1, sqA 3 SDoor.enc p.1.2.2.2.2.1]), (64, .var [sqA 1 (eI .i64) p.1.2.2.2.2.2.1, sqA 1 (eI .i64) p.1.2.2.2.2.2.2]), (320, rowA 0 1 3 (eI .i64) p.2.2.2)], 1920⟩, fun f v => ref10_Down_l12_step f.1 f.2.1 f.2.2.1 f.2.2.2.1 f.2.2.2.2.1 f.2.2.2.2.2.1 f.2.2.2.2.2.2 v.1 v.2.1 v.2.2, true, (.exit 2), (fun x a => ⟨[(13, .int .i64 a.1)], [(0, blkS x 0), (64, blkS x 64), (320, rowA 0 1 3 (eI .i64) a.2)], 1920⟩), .ret, (fun _ _ => ⟨[], [], 0⟩)⟩
noncomputable def ref10_Down_l12 (u12_0 : Int) (u12_3 : Sq SPlace) (u12_4 : Sq SRoad) (u12_5 : Sq SFan) (u12_6 : Sq SDoor) (u12_7 u12_8 : Sq Int) (u12_1 u12_2 : Int) (u12_9 : Sq Int) : Option ((Int × (Sq Int)) ⊕ (Unit)) := ref10_Down_l12_m.val ((u12_0, u12_3, u12_4, u12_5, u12_6, u12_7, u12_8), (u12_1, u12_2, u12_9))
theorem ref10_Down_l12_eq (u12_0 : Int) (u12_3 : Sq SPlace) (u12_4 : Sq SRoad) (u12_5 : Sq SFan) (u12_6 : Sq SDoor) (u12_7 u12_8 : Sq Int) (u12_1 u12_2 : Int) (u12_9 : Sq Int) : ref10_Down_l12 u12_0 u12_3 u12_4 u12_5 u12_6 u12_7 u12_8 u12_1 u12_2 u12_9 = fixO (fun v : Int × Int × (Sq Int) => ref10_Down_l12_step u12_0 u12_3 u12_4 u12_5 u12_6 u12_7 u12_8 v.1 v.2.1 v.2.2) (u12_1, u12_2, u12_9) := ref10_Down_l12_m.val_eq (fun x => ((intA (aget x.tm 3), sqD SPlace.dec (cellS x 0 0), sqD SRoad.dec (cellS x 0 1), sqD SFan.dec (cellS x 0 2), sqD SDoor.dec (cellS x 0 3), sqD dI (cellS x 64 0), sqD dI (cellS x 64 1)), (intA (aget x.tm 11), intA (aget x.tm 13), sqB dI (blkS x 320)))) (fun p => by kernel_rfl) ((u12_0, u12_3, u12_4, u12_5, u12_6, u12_7, u12_8), (u12_1, u12_2, u12_9))
noncomputable def ref10_Down_t (a : SAir) (s : SSetting) (pressures : Sq Int) (place : Int) : DT (Int × Bool) :=
 .ite (decide (pressures.n * 8 ≤ 140737488355328 ∧ pressures.n ≤ 1099511627776)) (
 .bind (ref10_Highest a s pressures place) fun z2 =>
 .ite (decide (z2 ≤ (0 : Int))) (
 .ite (decide ((0 : Int) ≤ place ∧ place < ((pressures.n : Nat) : Int))) (.leaf ((pressures.f (Int.toNat place)), true)) (.fail)) (
 .ite (decide ((0 : Int) ≤ place ∧ place < ((pressures.n : Nat) : Int))) (
 .sum (ref10_Down_l5 place a.Mine.Places a.Mine.Roads a.Fans a.Doors s.Fans s.Doors (pressures.f (Int.toNat place)) pressures (1 : Int)) (fun y0 =>
 .ite (decide ((0 : Int) ≤ place ∧ place < ((y0.2.n : Nat) : Int))) (
 .sum (ref10_Down_l12 place a.Mine.Places a.Mine.Roads a.Fans a.Doors s.Fans s.Doors y0.1 (y0.2.f (Int.toNat place)) y0.2) (fun y1 =>
 .leaf (y1.1, true)) (fun _ => .fail)) (
 .fail)) (fun _ => .leaf ((0 : Int), false))) (
 .fail))) (
 .fail)
noncomputable def ref10_Down_m : FnM := flM (SAir × SSetting × (Sq Int) × Int) (Int × Bool) (fun p => ([.agg (SAir.enc p.1), .agg (SSetting.enc p.2.1), sqA 1 (eI .i64) p.2.2.1, .int .i64 p.2.2.2], [])) (fun p => ref10_Down_t p.1 p.2.1 p.2.2.1 p.2.2.2) (fun r => .tup [.int .i64 r.1, .bool r.2]) (fun _ => rfl)
noncomputable def ref10_Down_env : Env := envM [(34, ref10_Highest_m.c)] [(5, [3, 4, 5, 10, 11, 12], [3, 4, 5, 8, 9, 10, 11]), (12, [3, 4, 5, 10, 11, 13], [13])] [(5, ref10_Down_l5_m.c), (12, ref10_Down_l12_m.c)] [] [(5, [0, 64, 320]), (12, [0, 64, 320])] 0
noncomputable def ref10_Down_e : Env := { ref10_Down_env with nt := 86 }
theorem ref10_Down_l5_tells : LoopTells ref10_Down_e (loopOf 5 Try.f39) ref10_Down_l5_m.c := ref10_Down_l5_m.tells 1600 (fun _ => by kernel_rfl) (fun _ _ _ _ => by kernel_rfl) (fun _ _ _ _ => by kernel_rfl) fun R f v N K => by kernel_rfl
theorem ref10_Down_l12_tells : LoopTells ref10_Down_e (loopOf 12 Try.f39) ref10_Down_l12_m.c := ref10_Down_l12_m.tells 1920 (fun _ => by kernel_rfl) (fun _ _ _ _ => by kernel_rfl) (fun _ _ _ _ => by kernel_rfl) fun R f v N K => by kernel_rfl
theorem ref10_Down_tells : Tells Try.prog 39 ref10_Down_m.c := ref10_Down_m.tells Try.func39 (show ∀ p, arun ref10_Down_env Try.f39 (ref10_Down_m.enc p).1 (ref10_Down_m.enc p).2 = _ from fun p => by kernel_rfl) (loopsL [loopOf 5 Try.f39, loopOf 12 Try.f39] (by kernel_rfl) ⟨lpT (by kernel_rfl) ref10_Down_l5_tells, ⟨lpT (by kernel_rfl) ref10_Down_l12_tells, trivial⟩⟩) (.cons ref10_Highest_tells .nil)
noncomputable def ref10_Down (a : SAir) (s : SSetting) (pressures : Sq Int) (place : Int) : Option (Int × Bool) := ref10_Down_m.val (a, s, pressures, place)
theorem ref10_Down_eq (a : SAir) (s : SSetting) (pressures : Sq Int) (place : Int) : ref10_Down a s pressures place = (ref10_Down_t a s pressures place).get := ref10_Down_m.val_eq (fun x => (SAir.dec (aggL (gd x.1 0)), SSetting.dec (aggL (gd x.1 1)), sqD dI (gd x.1 2), intA (gd x.1 3))) (fun p => by kernel_rfl) (a, s, pressures, place)

/-! minecontrol/minecontrolref10.Greatest -/
noncomputable def ref10_Greatest_t (a : SAir) (s : SSetting) (pressures : Sq Int) (place : Int) : DT (Int × Bool) :=
 .bind (ref10_right a s pressures place) fun z0 =>
 .ite (!z0) (
 .leaf ((0 : Int), false)) (
 .bind (ref10_Down a s pressures place) fun z1 =>
 .leaf (z1.1, z1.2))
noncomputable def ref10_Greatest_m : FnM := flM (SAir × SSetting × (Sq Int) × Int) (Int × Bool) (fun p => ([.agg (SAir.enc p.1), .agg (SSetting.enc p.2.1), sqA 1 (eI .i64) p.2.2.1, .int .i64 p.2.2.2], [])) (fun p => ref10_Greatest_t p.1 p.2.1 p.2.2.1 p.2.2.2) (fun r => .tup [.int .i64 r.1, .bool r.2]) (fun _ => rfl)
noncomputable def ref10_Greatest_env : Env := envM [(32, ref10_right_m.c), (39, ref10_Down_m.c)] [] [] [] [] 0
theorem ref10_Greatest_tells : Tells Try.prog 20 ref10_Greatest_m.c := ref10_Greatest_m.tells Try.func20 (show ∀ p, arun ref10_Greatest_env Try.f20 (ref10_Greatest_m.enc p).1 (ref10_Greatest_m.enc p).2 = _ from fun p => by kernel_rfl) noLoops (.cons ref10_right_tells (.cons ref10_Down_tells .nil))
noncomputable def ref10_Greatest (a : SAir) (s : SSetting) (pressures : Sq Int) (place : Int) : Option (Int × Bool) := ref10_Greatest_m.val (a, s, pressures, place)
theorem ref10_Greatest_eq (a : SAir) (s : SSetting) (pressures : Sq Int) (place : Int) : ref10_Greatest a s pressures place = (ref10_Greatest_t a s pressures place).get := ref10_Greatest_m.val_eq (fun x => (SAir.dec (aggL (gd x.1 0)), SSetting.dec (aggL (gd x.1 1)), sqD dI (gd x.1 2), intA (gd x.1 3))) (fun p => by kernel_rfl) (a, s, pressures, place)
end Go.Proofs.Ytandmllkfeghbaa.Ab
