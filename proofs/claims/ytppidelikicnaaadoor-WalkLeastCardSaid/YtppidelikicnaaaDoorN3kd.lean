/- Mirrors of code, stage 3. -/
import Derived.Test.YtppidelikicnaaaDoorN3a
namespace Go.Proofs.YtppidelikicnaaaDoor.Ab
open Go
attribute [local irreducible] arun



/-! minecontrol/minecontrollaw03.times -/
noncomputable def law03_times_l3_step (u3_0 : Sq Int) (u3_2 : Sq SPlace) (_u3_3 : Sq SRoad) (u3_1 : Int) (u3_4 : Sq Int) (u3_5 : Int) : DT (LR (Int × (Sq Int) × Int) (Int × (Sq Int)) (Unit)) :=
 .ite (decide (u3_5 < ((u3_2.n : Nat) : Int))) (
 .bind (Codes_Next (SCodes.mk u3_0 u3_1) (3 : Int)) fun z0 =>
 .ite (z0.1 == (0 : Int)) (
 .bind (Codes_Next (SCodes.mk u3_0 z0.2) (300 : Int)) fun z1 =>
 .ite (decide ((u3_4.n + 1) * 8 ≤ 140737488355328 ∧ (u3_4.n + 1) ≤ 1099511627776)) (
 .leaf (.next (z1.2, (Sq.mk (u3_4.n + 1) (fun k0 => (cond (Nat.blt k0 u3_4.n) (u3_4.f k0) z1.1))), (wr (u3_5 + (1 : Int)))))) (
 .fail)) (
 .ite (decide ((u3_4.n + 1) * 8 ≤ 140737488355328 ∧ (u3_4.n + 1) ≤ 1099511627776)) (
 .leaf (.next (z0.2, (Sq.mk (u3_4.n + 1) (fun k1 => (cond (Nat.blt k1 u3_4.n) (u3_4.f k1) (1099511627776 : Int)))), (wr (u3_5 + (1 : Int)))))) (
 .fail))) (
 .leaf (.l (u3_1, u3_4)))
noncomputable def law03_times_l3_m : LpM := ⟨(Sq Int) × (Sq SPlace) × (Sq SRoad), Int × (Sq Int) × Int, Int × (Sq Int), Unit, fun p => ⟨[(0, .ptr 0 0), (3, .ptr 1 0), (5, .own 129 0), (6, .int .i64 p.2.2.2)], [(0, .var [sqA 1 (eI .u8) p.1.1, .int .i64 p.2.1]), (1, .var [sqA 2 SPlace.enc p.1.2.1, sqA 10 SRoad.enc p.1.2.2]), (129, rowA 0 1 3 (eI .i64) p.2.2.1)], 257⟩, fun f v => law03_times_l3_step f.1 f.2.1 f.2.2 v.1 v.2.1 v.2.2, true, (.exit 0), (fun x a => ⟨[(5, .own 129 0)], [(0, .var [cellS x 0 0, .int .i64 a.1]), (1, blkS x 1), (129, rowA 0 1 3 (eI .i64) a.2)], 257⟩), .ret, (fun _ _ => ⟨[], [], 0⟩), c1, c1k⟩
noncomputable def law03_times_l3 (u3_0 : Sq Int) (u3_2 : Sq SPlace) (u3_3 : Sq SRoad) (u3_1 : Int) (u3_4 : Sq Int) (u3_5 : Int) : Option ((Int × (Sq Int)) ⊕ (Unit)) := law03_times_l3_m.val ((u3_0, u3_2, u3_3), (u3_1, u3_4, u3_5))
theorem law03_times_l3_eq (u3_0 : Sq Int) (u3_2 : Sq SPlace) (u3_3 : Sq SRoad) (u3_1 : Int) (u3_4 : Sq Int) (u3_5 : Int) : law03_times_l3 u3_0 u3_2 u3_3 u3_1 u3_4 u3_5 = fixO (fun v : Int × (Sq Int) × Int => law03_times_l3_step u3_0 u3_2 u3_3 v.1 v.2.1 v.2.2) (u3_1, u3_4, u3_5) := law03_times_l3_m.val_eq (fun x => ((sqD dI (cellS x 0 0), sqD SPlace.dec (cellS x 1 0), sqD SRoad.dec (cellS x 1 1)), (intA (cellS x 0 1), sqB dI (blkS x 129), intA (aget x.tm 6)))) (fun p => by kernel_rfl) ((u3_0, u3_2, u3_3), (u3_1, u3_4, u3_5))
noncomputable def law03_times_t (c : SCodes) (m : SMine) : DT ((Sq Int) × Int) :=
 .sum (law03_times_l3 c.l_ m.Places m.Roads c.at_ (Sq.mk 0 (fun _ => (0 : Int))) (0 : Int)) (fun y0 =>
 .leaf (y0.2, y0.1)) (fun _ => .fail)
noncomputable def law03_times_m : FnM := nfM (SCodes × SMine) ((Sq Int) × Int) (fun p => ([.ptr 0 0, .agg (SMine.enc p.2)], [.var (SCodes.enc p.1)])) (fun p => law03_times_t p.1 p.2) (fun _ => .own 1 0) (fun ins r => [.var [cellB ins 0 0, .int .i64 r.2], rowA 0 1 3 (eI .i64) r.1])
noncomputable def law03_times_env : Env := envM [(26, Codes_Next_m.c)] [(3, [0, 3, 5, 6], [5])] [(3, law03_times_l3_m.c)] [(1000003, [.asrow 129 3 1 (fun _ => (eI .i64) (0 : Int))])] [(3, [0, 1, 129])] 1
noncomputable def law03_times_e : Env := { law03_times_env with nt := 25 }
theorem law03_times_l3_tells : LoopTells law03_times_e (loopOf 3 Tryd.f17) law03_times_l3_m.c := law03_times_l3_m.tells 257 (fun _ => by kernel_rfl) (fun _ _ _ _ => by kernel_rfl) (fun _ _ _ _ => by kernel_rfl) fun R f v N K => by kernel_rfl
theorem law03_times_tells : Tells Tryd.prog 17 law03_times_m.c := law03_times_m.tells Tryd.func17 (show ∀ p, arun law03_times_env Tryd.f17 (law03_times_m.enc p).1 (law03_times_m.enc p).2 = _ from fun p => by kernel_rfl) (loopsL [loopOf 3 Tryd.f17] (by kernel_rfl) ⟨lpT (by kernel_rfl) law03_times_l3_tells, trivial⟩) (.cons Codes_Next_tells .nil)
noncomputable def law03_times (c : SCodes) (m : SMine) : Option ((Sq Int) × Int) := law03_times_m.val (c, m)
theorem law03_times_eq (c : SCodes) (m : SMine) : law03_times c m = (law03_times_t c m).get := law03_times_m.val_eq (fun x => (SCodes.dec (varL (dB x.2 0)), SMine.dec (aggL (gd x.1 1)))) (fun p => by kernel_rfl) (c, m)
theorem law03_times_inj : ∀ a b, law03_times_m.enc a = law03_times_m.enc b → a = b := linj (fun x => (SCodes.dec (varL (dB x.2 0)), SMine.dec (aggL (gd x.1 1)))) (fun p => by kernel_rfl)

/-! minecontrol/minecontrolref03.Least -/
noncomputable def ref03_Least_l4_step (u4_0 : Sq Int) (_u4_1 : Sq SPlace) (_u4_2 : Sq SRoad) (u4_3 : Int) : DT (LR (Int) (Unit) (Unit)) :=
 .ite (decide (u4_3 < ((u4_0.n : Nat) : Int))) (
 .ite (decide ((0 : Int) ≤ u4_3 ∧ u4_3 < ((u4_0.n : Nat) : Int))) (
 .ite (decide ((u4_0.f (Int.toNat u4_3)) < (0 : Int))) (
 .leaf (.r ())) (
 .ite (decide ((0 : Int) ≤ u4_3 ∧ u4_3 < ((u4_0.n : Nat) : Int))) (
 .ite (decide ((u4_0.f (Int.toNat u4_3)) > (1099511627776 : Int))) (
 .leaf (.r ())) (
 .leaf (.next (wr (u4_3 + (1 : Int)))))) (
 .fail))) (
 .fail)) (
 .leaf (.l ()))
noncomputable def ref03_Least_l4_m : LpM := ⟨(Sq Int) × (Sq SPlace) × (Sq SRoad), Int, Unit, Unit, fun p => ⟨[(1, sqA 1 (eI .i64) p.1.1), (2, .ptr 0 0), (5, .int .i64 p.2)], [(0, .var [sqA 2 SPlace.enc p.1.2.1, sqA 10 SRoad.enc p.1.2.2]), (64, .nilrow 0)], 960⟩, fun f v => ref03_Least_l4_step f.1 f.2.1 f.2.2 v, false, (.exit 0), (fun x _ => ⟨[(1, aget x.tm 1), (2, .ptr 0 0), (4, .undef)], [(0, blkS x 0), (64, .nilrow 0)], 960⟩), .ret, (fun x _ => ⟨[(1, aget x.tm 1), (2, .ptr 0 0), (4, .own 64 0)], [(0, blkS x 0), (64, .nilrow 0)], 960⟩), c1, c1k⟩
noncomputable def ref03_Least_l4 (u4_0 : Sq Int) (u4_1 : Sq SPlace) (u4_2 : Sq SRoad) (u4_3 : Int) : Option ((Unit) ⊕ (Unit)) := ref03_Least_l4_m.val ((u4_0, u4_1, u4_2), u4_3)
theorem ref03_Least_l4_eq (u4_0 : Sq Int) (u4_1 : Sq SPlace) (u4_2 : Sq SRoad) (u4_3 : Int) : ref03_Least_l4 u4_0 u4_1 u4_2 u4_3 = fixO (fun v : Int => ref03_Least_l4_step u4_0 u4_1 u4_2 v) u4_3 := ref03_Least_l4_m.val_eq (fun x => ((sqD dI (aget x.tm 1), sqD SPlace.dec (cellS x 0 0), sqD SRoad.dec (cellS x 0 1)), intA (aget x.tm 5))) (fun p => by kernel_rfl) ((u4_0, u4_1, u4_2), u4_3)
noncomputable def ref03_Least_l16_step (u16_0 : Sq SPlace) (u16_1 : Sq SRoad) (u16_5 : Int) (u16_2 : Sq Int) (u16_3 : Bool) (u16_4 : Int) : DT (LR ((Sq Int) × Bool × Int) (Bool × (Sq Int)) (Unit)) :=
 .ite (decide (u16_4 < (2 : Int))) (
 .ite (decide ((0 : Int) ≤ u16_5 ∧ u16_5 < ((u16_1.n : Nat) : Int))) (
 .bind (ref03_ends (u16_1.f (Int.toNat u16_5)) (u16_4 == (1 : Int))) fun z0 =>
 .bind (ref03_Time (SMine.mk u16_0 u16_1) u16_5 (u16_4 == (1 : Int))) fun z1 =>
 .ite (decide (z1 ≥ (0 : Int))) (
 .ite (decide ((0 : Int) ≤ z0.1 ∧ z0.1 < ((u16_2.n : Nat) : Int))) (
 .ite (decide ((u16_2.f (Int.toNat z0.1)) < (1099511627776 : Int))) (
 .ite (decide ((0 : Int) ≤ z0.1 ∧ z0.1 < ((u16_2.n : Nat) : Int))) (
 .ite (decide ((0 : Int) ≤ z0.2 ∧ z0.2 < ((u16_2.n : Nat) : Int))) (
 .ite (decide ((wr ((u16_2.f (Int.toNat z0.1)) + z1)) < (u16_2.f (Int.toNat z0.2)))) (
 .ite (decide ((0 : Int) ≤ z0.1 ∧ z0.1 < ((u16_2.n : Nat) : Int))) (
 .ite (decide ((0 : Int) ≤ z0.2 ∧ z0.2 < ((u16_2.n : Nat) : Int))) (
 .leaf (.next ((Sq.mk u16_2.n (fun k0 => (cond (Nat.beq k0 (Int.toNat z0.2)) (wr ((u16_2.f (Int.toNat z0.1)) + z1)) (u16_2.f k0)))), true, (wr (u16_4 + (1 : Int)))))) (
 .fail)) (
 .fail)) (
 .leaf (.next (u16_2, u16_3, (wr (u16_4 + (1 : Int))))))) (
 .fail)) (
 .fail)) (
 .leaf (.next (u16_2, u16_3, (wr (u16_4 + (1 : Int))))))) (
 .fail)) (
 .leaf (.next (u16_2, u16_3, (wr (u16_4 + (1 : Int))))))) (
 .fail)) (
 .leaf (.l (u16_3, u16_2)))
noncomputable def ref03_Least_l16_m : LpM := ⟨(Sq SPlace) × (Sq SRoad) × Int, (Sq Int) × Bool × Int, Bool × (Sq Int), Unit, fun p => ⟨[(2, .ptr 0 0), (6, .own 1024 0), (7, .bool p.2.2.1), (8, .int .i64 p.1.2.2), (9, .int .i64 p.2.2.2)], [(0, .var [sqA 2 SPlace.enc p.1.1, sqA 10 SRoad.enc p.1.2.1]), (64, .nilrow 0), (1024, rowA 0 1 3 (eI .i64) p.2.1)], 1792⟩, fun f v => ref03_Least_l16_step f.1 f.2.1 f.2.2 v.1 v.2.1 v.2.2, true, (.exit 6), (fun x a => ⟨[(2, .ptr 0 0), (6, .own 1024 0), (7, .bool a.1), (8, aget x.tm 8)], [(0, blkS x 0), (64, .nilrow 0), (1024, rowA 0 1 3 (eI .i64) a.2)], 1792⟩), .ret, (fun _ _ => ⟨[], [], 0⟩), c1, c1k⟩
noncomputable def ref03_Least_l16 (u16_0 : Sq SPlace) (u16_1 : Sq SRoad) (u16_5 : Int) (u16_2 : Sq Int) (u16_3 : Bool) (u16_4 : Int) : Option ((Bool × (Sq Int)) ⊕ (Unit)) := ref03_Least_l16_m.val ((u16_0, u16_1, u16_5), (u16_2, u16_3, u16_4))
theorem ref03_Least_l16_eq (u16_0 : Sq SPlace) (u16_1 : Sq SRoad) (u16_5 : Int) (u16_2 : Sq Int) (u16_3 : Bool) (u16_4 : Int) : ref03_Least_l16 u16_0 u16_1 u16_5 u16_2 u16_3 u16_4 = fixO (fun v : (Sq Int) × Bool × Int => ref03_Least_l16_step u16_0 u16_1 u16_5 v.1 v.2.1 v.2.2) (u16_2, u16_3, u16_4) := ref03_Least_l16_m.val_eq (fun x => ((sqD SPlace.dec (cellS x 0 0), sqD SRoad.dec (cellS x 0 1), intA (aget x.tm 8)), (sqB dI (blkS x 1024), boolA (aget x.tm 7), intA (aget x.tm 9)))) (fun p => by kernel_rfl) ((u16_0, u16_1, u16_5), (u16_2, u16_3, u16_4))
noncomputable def ref03_Least_l13_step (u13_0 : Sq SPlace) (u13_1 : Sq SRoad) (u13_2 : Sq Int) (u13_3 : Bool) (u13_4 : Int) : DT (LR ((Sq Int) × Bool × Int) (Bool × (Sq Int)) (Unit)) :=
 .ite (decide (u13_4 < ((u13_1.n : Nat) : Int))) (
 .sum (ref03_Least_l16 u13_0 u13_1 u13_4 u13_2 u13_3 (0 : Int)) (fun y0 =>
 .leaf (.next (y0.2, y0.1, (wr (u13_4 + (1 : Int)))))) (fun _ => .fail)) (
 .leaf (.l (u13_3, u13_2)))
noncomputable def ref03_Least_l13_m : LpM := ⟨(Sq SPlace) × (Sq SRoad), (Sq Int) × Bool × Int, Bool × (Sq Int), Unit, fun p => ⟨[(2, .ptr 0 0), (6, .own 1024 0), (7, .bool p.2.2.1), (8, .int .i64 p.2.2.2)], [(0, .var [sqA 2 SPlace.enc p.1.1, sqA 10 SRoad.enc p.1.2]), (64, .nilrow 0), (1024, rowA 0 1 3 (eI .i64) p.2.1)], 1408⟩, fun f v => ref03_Least_l13_step f.1 f.2 v.1 v.2.1 v.2.2, true, (.exit 4), (fun x a => ⟨[(2, .ptr 0 0), (6, .own 1024 0), (7, .bool a.1)], [(0, blkS x 0), (64, .nilrow 0), (1024, rowA 0 1 3 (eI .i64) a.2)], 1408⟩), .ret, (fun _ _ => ⟨[], [], 0⟩), c1, c1k⟩
noncomputable def ref03_Least_l13 (u13_0 : Sq SPlace) (u13_1 : Sq SRoad) (u13_2 : Sq Int) (u13_3 : Bool) (u13_4 : Int) : Option ((Bool × (Sq Int)) ⊕ (Unit)) := ref03_Least_l13_m.val ((u13_0, u13_1), (u13_2, u13_3, u13_4))
theorem ref03_Least_l13_eq (u13_0 : Sq SPlace) (u13_1 : Sq SRoad) (u13_2 : Sq Int) (u13_3 : Bool) (u13_4 : Int) : ref03_Least_l13 u13_0 u13_1 u13_2 u13_3 u13_4 = fixO (fun v : (Sq Int) × Bool × Int => ref03_Least_l13_step u13_0 u13_1 v.1 v.2.1 v.2.2) (u13_2, u13_3, u13_4) := ref03_Least_l13_m.val_eq (fun x => ((sqD SPlace.dec (cellS x 0 0), sqD SRoad.dec (cellS x 0 1)), (sqB dI (blkS x 1024), boolA (aget x.tm 7), intA (aget x.tm 8)))) (fun p => by kernel_rfl) ((u13_0, u13_1), (u13_2, u13_3, u13_4))
noncomputable def ref03_Least_l10_step (u10_0 : Sq SPlace) (u10_1 : Sq SRoad) (u10_2 : Sq Int) (u10_3 : Bool) : DT (LR ((Sq Int) × Bool) ((Sq Int)) (Unit)) :=
 .ite u10_3 (
 .sum (ref03_Least_l13 u10_0 u10_1 u10_2 false (0 : Int)) (fun y1 =>
 .leaf (.next (y1.2, y1.1))) (fun _ => .fail)) (
 .leaf (.l u10_2))
noncomputable def ref03_Least_l10_m : LpM := ⟨(Sq SPlace) × (Sq SRoad), (Sq Int) × Bool, (Sq Int), Unit, fun p => ⟨[(2, .ptr 0 0), (6, .own 1024 0), (7, .bool p.2.2)], [(0, .var [sqA 2 SPlace.enc p.1.1, sqA 10 SRoad.enc p.1.2]), (64, .nilrow 0), (1024, rowA 0 1 3 (eI .i64) p.2.1)], 1216⟩, fun f v => ref03_Least_l10_step f.1 f.2 v.1 v.2, true, (.exit 2), (fun x a => ⟨[(6, .own 1024 0)], [(0, blkS x 0), (64, .nilrow 0), (1024, rowA 0 1 3 (eI .i64) a)], 1216⟩), .ret, (fun _ _ => ⟨[], [], 0⟩), c1, c1k⟩
noncomputable def ref03_Least_l10 (u10_0 : Sq SPlace) (u10_1 : Sq SRoad) (u10_2 : Sq Int) (u10_3 : Bool) : Option (((Sq Int)) ⊕ (Unit)) := ref03_Least_l10_m.val ((u10_0, u10_1), (u10_2, u10_3))
theorem ref03_Least_l10_eq (u10_0 : Sq SPlace) (u10_1 : Sq SRoad) (u10_2 : Sq Int) (u10_3 : Bool) : ref03_Least_l10 u10_0 u10_1 u10_2 u10_3 = fixO (fun v : (Sq Int) × Bool => ref03_Least_l10_step u10_0 u10_1 v.1 v.2) (u10_2, u10_3) := ref03_Least_l10_m.val_eq (fun x => ((sqD SPlace.dec (cellS x 0 0), sqD SRoad.dec (cellS x 0 1)), (sqB dI (blkS x 1024), boolA (aget x.tm 7)))) (fun p => by kernel_rfl) ((u10_0, u10_1), (u10_2, u10_3))
noncomputable def ref03_Least_t (m : SMine) (from_ : Sq Int) : DT ((Sq Int)) :=
 .bind (ref01_Check m) fun z2 =>
 .ite (z2 != (0 : Int)) (
 .leaf (Sq.mk 0 (fun _ => (0 : Int)))) (
 .ite (((from_.n : Nat) : Int) != ((m.Places.n : Nat) : Int)) (
 .leaf (Sq.mk 0 (fun _ => (0 : Int)))) (
 .sum (ref03_Least_l4 from_ m.Places m.Roads (0 : Int)) (fun _ =>
 .ite (decide (from_.n * 8 ≤ 140737488355328 ∧ from_.n ≤ 1099511627776)) (
 .sum (ref03_Least_l10 m.Places m.Roads from_ true) (fun y2 =>
 .leaf y2) (fun _ => .fail)) (
 .fail)) (fun _ => .leaf (Sq.mk 0 (fun _ => (0 : Int))))))
noncomputable def ref03_Least_m : FnM := nfM (SMine × (Sq Int)) ((Sq Int)) (fun p => ([.agg (SMine.enc p.1), sqA 1 (eI .i64) p.2], [])) (fun p => ref03_Least_t p.1 p.2) (fun _ => .own 0 0) (fun _ r => [rowA 0 1 3 (eI .i64) r])
noncomputable def ref03_Least_env : Env := envM [(37, ref01_Check_m.c), (38, ref03_ends_m.c), (13, ref03_Time_m.c)] [(4, [1, 2, 5], [1, 2, 4]), (16, [2, 6, 7, 8, 9], [2, 6, 7, 8]), (13, [2, 6, 7, 8], [2, 6, 7]), (10, [2, 6, 7], [6])] [(4, ref03_Least_l4_m.c), (16, ref03_Least_l16_m.c), (13, ref03_Least_l13_m.c), (10, ref03_Least_l10_m.c)] [(2000000, [.asrow 64 3 1 (fun _ => (eI .i64) (0 : Int))])] [(4, [0, 64]), (16, [0, 64, 1024]), (13, [0, 64, 1024]), (10, [0, 64, 1024]), (6000004, [64])] 0
noncomputable def ref03_Least_e : Env := { ref03_Least_env with nt := 104 }
theorem ref03_Least_l4_tells : LoopTells ref03_Least_e (loopOf 4 Tryd.f20) ref03_Least_l4_m.c := ref03_Least_l4_m.tells 960 (fun _ => by kernel_rfl) (fun _ _ _ _ => by kernel_rfl) (fun _ _ _ _ => by kernel_rfl) fun R f v N K => by kernel_rfl
theorem ref03_Least_l16_tells : LoopTells ref03_Least_e (loopOf 16 Tryd.f20) ref03_Least_l16_m.c := ref03_Least_l16_m.tells 1792 (fun _ => by kernel_rfl) (fun _ _ _ _ => by kernel_rfl) (fun _ _ _ _ => by kernel_rfl) fun R f v N K => by kernel_rfl
theorem ref03_Least_l13_tells : LoopTells ref03_Least_e (loopOf 13 Tryd.f20) ref03_Least_l13_m.c := ref03_Least_l13_m.tells 1408 (fun _ => by kernel_rfl) (fun _ _ _ _ => by kernel_rfl) (fun _ _ _ _ => by kernel_rfl) fun R f v N K => by kernel_rfl
theorem ref03_Least_l10_tells : LoopTells ref03_Least_e (loopOf 10 Tryd.f20) ref03_Least_l10_m.c := ref03_Least_l10_m.tells 1216 (fun _ => by kernel_rfl) (fun _ _ _ _ => by kernel_rfl) (fun _ _ _ _ => by kernel_rfl) fun R f v N K => by kernel_rfl
theorem ref03_Least_tells : Tells Tryd.prog 20 ref03_Least_m.c := ref03_Least_m.tells Tryd.func20 (show ∀ p, arun ref03_Least_env Tryd.f20 (ref03_Least_m.enc p).1 (ref03_Least_m.enc p).2 = _ from fun p => by kernel_rfl) (loopsL [loopOf 4 Tryd.f20, loopOf 10 Tryd.f20, loopOf 13 Tryd.f20, loopOf 16 Tryd.f20] (by kernel_rfl) ⟨lpT (by kernel_rfl) ref03_Least_l4_tells, ⟨lpT (by kernel_rfl) ref03_Least_l10_tells, ⟨lpT (by kernel_rfl) ref03_Least_l13_tells, ⟨lpT (by kernel_rfl) ref03_Least_l16_tells, trivial⟩⟩⟩⟩) (.cons ref01_Check_tells (.cons ref03_ends_tells (.cons ref03_Time_tells .nil)))
noncomputable def ref03_Least (m : SMine) (from_ : Sq Int) : Option ((Sq Int)) := ref03_Least_m.val (m, from_)
theorem ref03_Least_eq (m : SMine) (from_ : Sq Int) : ref03_Least m from_ = (ref03_Least_t m from_).get := ref03_Least_m.val_eq (fun x => (SMine.dec (aggL (gd x.1 0)), sqD dI (gd x.1 1))) (fun p => by kernel_rfl) (m, from_)

/-! minecontrol/walk.Within -/
noncomputable def walk_Within_l3_step (u3_0 : Int) (u3_3 u3_2 : Sq Int) (u3_4 : Int) : DT (LR ((Sq Int) × Int) ((Sq Int)) (Unit)) :=
 .ite (decide (u3_4 < ((u3_3.n : Nat) : Int))) (
 .ite (decide ((0 : Int) ≤ u3_4 ∧ u3_4 < ((u3_3.n : Nat) : Int))) (
 .ite (decide ((u3_3.f (Int.toNat u3_4)) < (1099511627776 : Int))) (
 .ite (decide ((u3_3.f (Int.toNat u3_4)) ≤ u3_0)) (
 .ite (decide ((u3_2.n + 1) * 8 ≤ 140737488355328 ∧ (u3_2.n + 1) ≤ 1099511627776)) (
 .leaf (.next ((Sq.mk (u3_2.n + 1) (fun k0 => (cond (Nat.blt k0 u3_2.n) (u3_2.f k0) u3_4))), (wr (u3_4 + (1 : Int)))))) (
 .fail)) (
 .leaf (.next (u3_2, (wr (u3_4 + (1 : Int))))))) (
 .leaf (.next (u3_2, (wr (u3_4 + (1 : Int))))))) (
 .fail)) (
 .leaf (.l u3_2))
noncomputable def walk_Within_l3_m : LpM := ⟨Int × (Sq Int), (Sq Int) × Int, (Sq Int), Unit, fun p => ⟨[(2, .int .i64 p.1.1), (7, .own 128 0), (12, .own 320 0), (13, .int .i64 ((p.1.2.n : Nat) : Int)), (14, .int .i64 p.2.2)], [(128, rowA 0 1 3 (eI .i64) p.2.1), (320, rowA 0 1 3 (eI .i64) p.1.2)], 512⟩, fun f v => walk_Within_l3_step f.1 f.2 v.1 v.2, true, (.exit 0), (fun x a => ⟨[(7, .own 128 0)], [(128, rowA 0 1 3 (eI .i64) a), (320, blkS x 320)], 512⟩), .ret, (fun _ _ => ⟨[], [], 0⟩), c1, c1k⟩
noncomputable def walk_Within_l3 (u3_0 : Int) (u3_3 u3_2 : Sq Int) (u3_4 : Int) : Option (((Sq Int)) ⊕ (Unit)) := walk_Within_l3_m.val ((u3_0, u3_3), (u3_2, u3_4))
theorem walk_Within_l3_eq (u3_0 : Int) (u3_3 u3_2 : Sq Int) (u3_4 : Int) : walk_Within_l3 u3_0 u3_3 u3_2 u3_4 = fixO (fun v : (Sq Int) × Int => walk_Within_l3_step u3_0 u3_3 v.1 v.2) (u3_2, u3_4) := walk_Within_l3_m.val_eq (fun x => ((intA (aget x.tm 2), sqB dI (blkS x 320)), (sqB dI (blkS x 128), intA (aget x.tm 14)))) (fun p => by kernel_rfl) ((u3_0, u3_3), (u3_2, u3_4))
noncomputable def walk_Within_t (m : SMine) (from_ : Sq Int) (until_ : Int) : DT ((Sq Int)) :=
 .bind (walk_Least m from_) fun z0 =>
 .sum (walk_Within_l3 until_ z0 (Sq.mk 0 (fun _ => (0 : Int))) (0 : Int)) (fun y0 =>
 .leaf y0) (fun _ => .fail)
noncomputable def walk_Within_m : FnM := nfM (SMine × (Sq Int) × Int) ((Sq Int)) (fun p => ([.agg (SMine.enc p.1), sqA 1 (eI .i64) p.2.1, .int .i64 p.2.2], [])) (fun p => walk_Within_t p.1 p.2.1 p.2.2) (fun _ => .own 0 0) (fun _ r => [rowA 0 1 3 (eI .i64) r])
noncomputable def walk_Within_env : Env := envM [(19, walk_Least_m.c)] [(3, [2, 7, 12, 13, 14], [7])] [(3, walk_Within_l3_m.c)] [(1000003, [.asrow 128 3 1 (fun _ => (eI .i64) (0 : Int))])] [(3, [128, 320])] 0
noncomputable def walk_Within_e : Env := { walk_Within_env with nt := 32 }
theorem walk_Within_l3_tells : LoopTells walk_Within_e (loopOf 3 Tryd.f21) walk_Within_l3_m.c := walk_Within_l3_m.tells 512 (fun _ => by kernel_rfl) (fun _ _ _ _ => by kernel_rfl) (fun _ _ _ _ => by kernel_rfl) fun R f v N K => by kernel_rfl
theorem walk_Within_tells : Tells Tryd.prog 21 walk_Within_m.c := walk_Within_m.tells Tryd.func21 (show ∀ p, arun walk_Within_env Tryd.f21 (walk_Within_m.enc p).1 (walk_Within_m.enc p).2 = _ from fun p => by kernel_rfl) (loopsL [loopOf 3 Tryd.f21] (by kernel_rfl) ⟨lpT (by kernel_rfl) walk_Within_l3_tells, trivial⟩) (.cons walk_Least_tells .nil)
noncomputable def walk_Within (m : SMine) (from_ : Sq Int) (until_ : Int) : Option ((Sq Int)) := walk_Within_m.val (m, from_, until_)
theorem walk_Within_eq (m : SMine) (from_ : Sq Int) (until_ : Int) : walk_Within m from_ until_ = (walk_Within_t m from_ until_).get := walk_Within_m.val_eq (fun x => (SMine.dec (aggL (gd x.1 0)), sqD dI (gd x.1 1), intA (gd x.1 2))) (fun p => by kernel_rfl) (m, from_, until_)

/-! minecontrol/minecontrolref03.Within -/
noncomputable def ref03_Within_l4_step (u4_0 : Int) (u4_2 u4_1 : Sq Int) (u4_3 : Int) : DT (LR ((Sq Int) × Int) ((Sq Int)) (Unit)) :=
 .ite (decide (u4_3 < ((u4_2.n : Nat) : Int))) (
 .ite (decide ((0 : Int) ≤ u4_3 ∧ u4_3 < ((u4_2.n : Nat) : Int))) (
 .ite (decide ((u4_2.f (Int.toNat u4_3)) < (1099511627776 : Int))) (
 .ite (decide ((0 : Int) ≤ u4_3 ∧ u4_3 < ((u4_2.n : Nat) : Int))) (
 .ite (decide ((u4_2.f (Int.toNat u4_3)) ≤ u4_0)) (
 .ite (decide ((u4_1.n + 1) * 8 ≤ 140737488355328 ∧ (u4_1.n + 1) ≤ 1099511627776)) (
 .leaf (.next ((Sq.mk (u4_1.n + 1) (fun k0 => (cond (Nat.blt k0 u4_1.n) (u4_1.f k0) u4_3))), (wr (u4_3 + (1 : Int)))))) (
 .fail)) (
 .leaf (.next (u4_1, (wr (u4_3 + (1 : Int))))))) (
 .fail)) (
 .leaf (.next (u4_1, (wr (u4_3 + (1 : Int))))))) (
 .fail)) (
 .leaf (.l u4_1))
noncomputable def ref03_Within_l4_m : LpM := ⟨Int × (Sq Int), (Sq Int) × Int, (Sq Int), Unit, fun p => ⟨[(2, .int .i64 p.1.1), (7, .own 128 0), (8, .own 320 0), (9, .int .i64 p.2.2)], [(128, rowA 0 1 3 (eI .i64) p.2.1), (320, rowA 0 1 3 (eI .i64) p.1.2)], 512⟩, fun f v => ref03_Within_l4_step f.1 f.2 v.1 v.2, true, (.exit 0), (fun x a => ⟨[(7, .own 128 0)], [(128, rowA 0 1 3 (eI .i64) a), (320, blkS x 320)], 512⟩), .ret, (fun _ _ => ⟨[], [], 0⟩), c1, c1k⟩
noncomputable def ref03_Within_l4 (u4_0 : Int) (u4_2 u4_1 : Sq Int) (u4_3 : Int) : Option (((Sq Int)) ⊕ (Unit)) := ref03_Within_l4_m.val ((u4_0, u4_2), (u4_1, u4_3))
theorem ref03_Within_l4_eq (u4_0 : Int) (u4_2 u4_1 : Sq Int) (u4_3 : Int) : ref03_Within_l4 u4_0 u4_2 u4_1 u4_3 = fixO (fun v : (Sq Int) × Int => ref03_Within_l4_step u4_0 u4_2 v.1 v.2) (u4_1, u4_3) := ref03_Within_l4_m.val_eq (fun x => ((intA (aget x.tm 2), sqB dI (blkS x 320)), (sqB dI (blkS x 128), intA (aget x.tm 9)))) (fun p => by kernel_rfl) ((u4_0, u4_2), (u4_1, u4_3))
noncomputable def ref03_Within_t (m : SMine) (from_ : Sq Int) (until_ : Int) : DT ((Sq Int)) :=
 .bind (ref03_Least m from_) fun z0 =>
 .sum (ref03_Within_l4 until_ z0 (Sq.mk 0 (fun _ => (0 : Int))) (0 : Int)) (fun y0 =>
 .leaf y0) (fun _ => .fail)
noncomputable def ref03_Within_m : FnM := nfM (SMine × (Sq Int) × Int) ((Sq Int)) (fun p => ([.agg (SMine.enc p.1), sqA 1 (eI .i64) p.2.1, .int .i64 p.2.2], [])) (fun p => ref03_Within_t p.1 p.2.1 p.2.2) (fun _ => .own 0 0) (fun _ r => [rowA 0 1 3 (eI .i64) r])
noncomputable def ref03_Within_env : Env := envM [(20, ref03_Least_m.c)] [(4, [2, 7, 8, 9], [7])] [(4, ref03_Within_l4_m.c)] [(1000004, [.asrow 128 3 1 (fun _ => (eI .i64) (0 : Int))])] [(4, [128, 320])] 0
noncomputable def ref03_Within_e : Env := { ref03_Within_env with nt := 37 }
theorem ref03_Within_l4_tells : LoopTells ref03_Within_e (loopOf 4 Tryd.f22) ref03_Within_l4_m.c := ref03_Within_l4_m.tells 512 (fun _ => by kernel_rfl) (fun _ _ _ _ => by kernel_rfl) (fun _ _ _ _ => by kernel_rfl) fun R f v N K => by kernel_rfl
theorem ref03_Within_tells : Tells Tryd.prog 22 ref03_Within_m.c := ref03_Within_m.tells Tryd.func22 (show ∀ p, arun ref03_Within_env Tryd.f22 (ref03_Within_m.enc p).1 (ref03_Within_m.enc p).2 = _ from fun p => by kernel_rfl) (loopsL [loopOf 4 Tryd.f22] (by kernel_rfl) ⟨lpT (by kernel_rfl) ref03_Within_l4_tells, trivial⟩) (.cons ref03_Least_tells .nil)
noncomputable def ref03_Within (m : SMine) (from_ : Sq Int) (until_ : Int) : Option ((Sq Int)) := ref03_Within_m.val (m, from_, until_)
theorem ref03_Within_eq (m : SMine) (from_ : Sq Int) (until_ : Int) : ref03_Within m from_ until_ = (ref03_Within_t m from_ until_).get := ref03_Within_m.val_eq (fun x => (SMine.dec (aggL (gd x.1 0)), sqD dI (gd x.1 1), intA (gd x.1 2))) (fun p => by kernel_rfl) (m, from_, until_)

/-! minecontrol/minecontrolref01.Copy -/
noncomputable def ref01_Copy_t (m : SMine) : DT (SMine) :=
 .ite (decide (m.Places.n * 16 ≤ 140737488355328 ∧ m.Places.n ≤ 1099511627776)) (
 .ite (decide (m.Roads.n * 72 ≤ 140737488355328 ∧ m.Roads.n ≤ 1099511627776)) (.leaf m) (.fail)) (
 .fail)
noncomputable def ref01_Copy_m : FnM := nfM (SMine) (SMine) (fun p => ([.agg (SMine.enc p)], [])) (fun p => ref01_Copy_t p) (fun _ => .agg [.own 0 0, .own 1 0]) (fun _ r => [rowA 0 2 55 SPlace.enc r.Places, rowA 0 10 49 SRoad.enc r.Roads])
noncomputable def ref01_Copy_env : Env := envM [] [] [] [] [] 0
theorem ref01_Copy_tells : Tells Tryd.prog 25 ref01_Copy_m.c := ref01_Copy_m.tells Tryd.func25 (show ∀ p, arun ref01_Copy_env Tryd.f25 (ref01_Copy_m.enc p).1 (ref01_Copy_m.enc p).2 = _ from fun p => by kernel_rfl) noLoops .nil
noncomputable def ref01_Copy (m : SMine) : Option (SMine) := ref01_Copy_m.val m
theorem ref01_Copy_eq (m : SMine) : ref01_Copy m = (ref01_Copy_t m).get := ref01_Copy_m.val_eq (fun x => SMine.dec (aggL (gd x.1 0))) (fun p => by kernel_rfl) m
end Go.Proofs.YtppidelikicnaaaDoor.Ab
