/- Mirrors of code, stage 3. -/
import Derived.Test.YtppidelikicnaaaDoorN3a
namespace Go.Proofs.YtppidelikicnaaaDoor.Ab
open Go
attribute [local irreducible] arun



/-! minecontrol/minecontrollaw03.WalkSums -/
noncomputable def law03_WalkSums_l6_step (_u6_1 _u6_2 : Int) (u6_3 : Sq SPlace) (_u6_4 : Sq SRoad) (u6_5 : Sq Int) (u6_6 : Int) : DT (LR ((Sq Int) × Int) ((Sq Int)) (Unit)) :=
 .ite (decide (u6_6 < ((u6_3.n : Nat) : Int))) (
 .ite (decide ((0 : Int) ≤ u6_6 ∧ u6_6 < ((u6_5.n : Nat) : Int))) (
 .leaf (.next ((Sq.mk u6_5.n (fun k0 => (cond (Nat.beq k0 (Int.toNat u6_6)) (1099511627776 : Int) (u6_5.f k0)))), (wr (u6_6 + (1 : Int)))))) (
 .fail)) (
 .leaf (.l u6_5))
noncomputable def law03_WalkSums_l6_m : LpM := ⟨Int × Int × (Sq SPlace) × (Sq SRoad), (Sq Int) × Int, (Sq Int), Unit, fun p => ⟨[(7, .ptr 256 0), (8, .int .i64 ((p.1.2.2.1.n : Nat) : Int)), (9, .int .i64 p.1.1), (10, .int .i64 p.1.2.1), (11, .own 1216 0), (12, .int .i64 p.2.2)], [(192, rowA 0 2 55 SPlace.enc p.1.2.2.1), (193, rowA 0 10 49 SRoad.enc p.1.2.2.2), (256, .var [.own 192 0, .own 193 0]), (1216, rowA 0 1 3 (eI .i64) p.2.1)], 1408⟩, fun f v => law03_WalkSums_l6_step f.1 f.2.1 f.2.2.1 f.2.2.2 v.1 v.2, true, (.exit 0), (fun x a => ⟨[(7, .ptr 256 0), (8, aget x.tm 8), (9, aget x.tm 9), (10, aget x.tm 10), (11, .own 1216 0)], [(192, blkS x 192), (193, blkS x 193), (256, .var [.own 192 0, .own 193 0]), (1216, rowA 0 1 3 (eI .i64) a)], 1408⟩), .ret, (fun _ _ => ⟨[], [], 0⟩), c1, c1k⟩
noncomputable def law03_WalkSums_l6 (u6_1 u6_2 : Int) (u6_3 : Sq SPlace) (u6_4 : Sq SRoad) (u6_5 : Sq Int) (u6_6 : Int) : Option (((Sq Int)) ⊕ (Unit)) := law03_WalkSums_l6_m.val ((u6_1, u6_2, u6_3, u6_4), (u6_5, u6_6))
theorem law03_WalkSums_l6_eq (u6_1 u6_2 : Int) (u6_3 : Sq SPlace) (u6_4 : Sq SRoad) (u6_5 : Sq Int) (u6_6 : Int) : law03_WalkSums_l6 u6_1 u6_2 u6_3 u6_4 u6_5 u6_6 = fixO (fun v : (Sq Int) × Int => law03_WalkSums_l6_step u6_1 u6_2 u6_3 u6_4 v.1 v.2) (u6_5, u6_6) := law03_WalkSums_l6_m.val_eq (fun x => ((intA (aget x.tm 9), intA (aget x.tm 10), sqB SPlace.dec (blkS x 192), sqB SRoad.dec (blkS x 193)), (sqB dI (blkS x 1216), intA (aget x.tm 12)))) (fun p => by kernel_rfl) ((u6_1, u6_2, u6_3, u6_4), (u6_5, u6_6))
noncomputable def law03_WalkSums_l16_step (_u16_0 _u16_1 : Int) (_u16_2 : Bool) (u16_4 : Sq SPlace) (u16_5 : Sq SRoad) (u16_6 : Sq Int) (u16_3 u16_7 u16_8 : Int) : DT (LR (Int × Int × Int) (Int × Int) (Int × Int)) :=
 .ite (decide (u16_8 < ((u16_6.n : Nat) : Int))) (
 .ite (decide ((0 : Int) ≤ u16_8 ∧ u16_8 < ((u16_6.n : Nat) : Int))) (
 .ite (decide ((u16_6.f (Int.toNat u16_8)) < (0 : Int))) (
 .leaf (.r (u16_3, u16_7))) (
 .ite (decide ((0 : Int) ≤ u16_8 ∧ u16_8 < ((u16_6.n : Nat) : Int))) (
 .ite (decide ((u16_6.f (Int.toNat u16_8)) ≥ ((u16_5.n : Nat) : Int))) (
 .leaf (.r (u16_3, u16_7))) (
 .ite (decide ((0 : Int) ≤ u16_8 ∧ u16_8 < ((u16_6.n : Nat) : Int))) (
 .ite (decide ((0 : Int) ≤ (u16_6.f (Int.toNat u16_8)) ∧ (u16_6.f (Int.toNat u16_8)) < ((u16_5.n : Nat) : Int))) (
 .ite (!((u16_5.f (Int.toNat (u16_6.f (Int.toNat u16_8)))).To == u16_3)) (
 .ite ((u16_5.f (Int.toNat (u16_6.f (Int.toNat u16_8)))).From != u16_3) (
 .leaf (.r (u16_3, u16_7))) (
 .ite (decide ((0 : Int) ≤ u16_8 ∧ u16_8 < ((u16_6.n : Nat) : Int))) (
 .bind (walk_Time (SMine.mk u16_4 u16_5) (u16_6.f (Int.toNat u16_8)) ((u16_5.f (Int.toNat (u16_6.f (Int.toNat u16_8)))).To == u16_3)) fun z0 =>
 .ite (decide (z0 < (1 : Int))) (
 .leaf (.r (u16_3, u16_7))) (
 .leaf (.next ((wr ((wr ((u16_5.f (Int.toNat (u16_6.f (Int.toNat u16_8)))).From + (u16_5.f (Int.toNat (u16_6.f (Int.toNat u16_8)))).To)) - u16_3)), (wr (u16_7 + z0)), (wr (u16_8 + (1 : Int))))))) (
 .fail))) (
 .ite (decide ((0 : Int) ≤ u16_8 ∧ u16_8 < ((u16_6.n : Nat) : Int))) (
 .bind (walk_Time (SMine.mk u16_4 u16_5) (u16_6.f (Int.toNat u16_8)) ((u16_5.f (Int.toNat (u16_6.f (Int.toNat u16_8)))).To == u16_3)) fun z1 =>
 .ite (decide (z1 < (1 : Int))) (
 .leaf (.r (u16_3, u16_7))) (
 .leaf (.next ((wr ((wr ((u16_5.f (Int.toNat (u16_6.f (Int.toNat u16_8)))).From + (u16_5.f (Int.toNat (u16_6.f (Int.toNat u16_8)))).To)) - u16_3)), (wr (u16_7 + z1)), (wr (u16_8 + (1 : Int))))))) (
 .fail))) (
 .fail)) (
 .fail))) (
 .fail))) (
 .fail)) (
 .leaf (.l (u16_3, u16_7)))
noncomputable def law03_WalkSums_l16_m : LpM := ⟨Int × Int × Bool × (Sq SPlace) × (Sq SRoad) × (Sq Int), Int × Int × Int, Int × Int, Int × Int, fun p => ⟨[(7, .ptr 256 0), (10, .int .i64 p.1.1), (13, .own 1856 0), (14, .int .i64 p.1.2.1), (15, .bool p.1.2.2.1), (17, .int .i64 p.2.1), (18, .int .i64 p.2.2.1), (19, .int .i64 p.2.2.2)], [(256, .var [sqA 2 SPlace.enc p.1.2.2.2.1, sqA 10 SRoad.enc p.1.2.2.2.2.1]), (1856, rowA 0 1 3 (eI .i64) p.1.2.2.2.2.2)], 4480⟩, fun f v => law03_WalkSums_l16_step f.1 f.2.1 f.2.2.1 f.2.2.2.1 f.2.2.2.2.1 f.2.2.2.2.2 v.1 v.2.1 v.2.2, false, (.exit 2), (fun x a => ⟨[(6, .undef), (10, aget x.tm 10), (14, aget x.tm 14), (15, aget x.tm 15), (17, .int .i64 a.1), (18, .int .i64 a.2)], [(256, blkS x 256), (1856, blkS x 1856)], 4480⟩), .ret, (fun x a => ⟨[(6, .bool false), (10, aget x.tm 10), (14, aget x.tm 14), (15, aget x.tm 15), (17, .int .i64 a.1), (18, .int .i64 a.2)], [(256, blkS x 256), (1856, blkS x 1856)], 4480⟩), c1, c1k⟩
noncomputable def law03_WalkSums_l16 (u16_0 u16_1 : Int) (u16_2 : Bool) (u16_4 : Sq SPlace) (u16_5 : Sq SRoad) (u16_6 : Sq Int) (u16_3 u16_7 u16_8 : Int) : Option ((Int × Int) ⊕ (Int × Int)) := law03_WalkSums_l16_m.val ((u16_0, u16_1, u16_2, u16_4, u16_5, u16_6), (u16_3, u16_7, u16_8))
theorem law03_WalkSums_l16_eq (u16_0 u16_1 : Int) (u16_2 : Bool) (u16_4 : Sq SPlace) (u16_5 : Sq SRoad) (u16_6 : Sq Int) (u16_3 u16_7 u16_8 : Int) : law03_WalkSums_l16 u16_0 u16_1 u16_2 u16_4 u16_5 u16_6 u16_3 u16_7 u16_8 = fixO (fun v : Int × Int × Int => law03_WalkSums_l16_step u16_0 u16_1 u16_2 u16_4 u16_5 u16_6 v.1 v.2.1 v.2.2) (u16_3, u16_7, u16_8) := law03_WalkSums_l16_m.val_eq (fun x => ((intA (aget x.tm 10), intA (aget x.tm 14), boolA (aget x.tm 15), sqD SPlace.dec (cellS x 256 0), sqD SRoad.dec (cellS x 256 1), sqB dI (blkS x 1856)), (intA (aget x.tm 17), intA (aget x.tm 18), intA (aget x.tm 19)))) (fun p => by kernel_rfl) ((u16_0, u16_1, u16_2, u16_4, u16_5, u16_6), (u16_3, u16_7, u16_8))
noncomputable def law03_WalkSums_t (codes : Sq Int) (from_ to_ : Int) : DT (Bool) :=
 .bind (New codes) fun z2 =>
 .bind (Codes_Mine z2) fun z3 =>
 .bind (Mod from_ ((z3.1.Places.n : Nat) : Int)) fun z4 =>
 .bind (Mod to_ ((z3.1.Places.n : Nat) : Int)) fun z5 =>
 .ite (decide ((0 : Int) ≤ ((z3.1.Places.n : Nat) : Int) ∧ ((z3.1.Places.n : Nat) : Int) ≤ ((z3.1.Places.n : Nat) : Int) ∧ ((z3.1.Places.n : Nat) : Int) * ((8 : Nat) : Int) ≤ 140737488355328 ∧ ((z3.1.Places.n : Nat) : Int) ≤ 1099511627776)) (
 .sum (law03_WalkSums_l6 z4 z5 z3.1.Places z3.1.Roads (Sq.mk (Int.toNat ((z3.1.Places.n : Nat) : Int)) (fun _ => (0 : Int))) (0 : Int)) (fun y0 =>
 .ite (decide ((0 : Int) ≤ z4 ∧ z4 < ((y0.n : Nat) : Int))) (
 .bind (walk_Way z3.1 z4 z5) fun z6 =>
 .bind (walk_Least z3.1 (Sq.mk y0.n (fun k1 => (cond (Nat.beq k1 (Int.toNat z4)) (0 : Int) (y0.f k1))))) fun z7 =>
 .ite (((z7.n : Nat) : Int) != ((z3.1.Places.n : Nat) : Int)) (
 .leaf false) (
 .ite (decide ((0 : Int) ≤ z5 ∧ z5 < ((z7.n : Nat) : Int))) (
 .ite (!(z6.2.2 == (decide ((z7.f (Int.toNat z5)) < (1099511627776 : Int))))) (
 .leaf false) (
 .ite z6.2.2 (
 .ite (decide ((0 : Int) ≤ z5 ∧ z5 < ((z7.n : Nat) : Int))) (
 .ite ((z7.f (Int.toNat z5)) != z6.2.1) (
 .leaf false) (
 .sum (law03_WalkSums_l16 z5 z6.2.1 z6.2.2 z3.1.Places z3.1.Roads z6.1 z4 (0 : Int) (0 : Int)) (fun y1 =>
 .ite (!z6.2.2) (
 .bind (law03_awake) fun z8 =>
 .leaf z8) (
 .ite (y1.1 == z5) (
 .ite (y1.2 == z6.2.1) (
 .bind (law03_awake) fun z9 =>
 .leaf z9) (
 .leaf false)) (
 .leaf false))) (fun _ => .leaf false))) (
 .fail)) (
 .sum (law03_WalkSums_l16 z5 z6.2.1 z6.2.2 z3.1.Places z3.1.Roads z6.1 z4 (0 : Int) (0 : Int)) (fun y2 =>
 .ite (!z6.2.2) (
 .bind (law03_awake) fun z10 =>
 .leaf z10) (
 .ite (y2.1 == z5) (
 .ite (y2.2 == z6.2.1) (
 .bind (law03_awake) fun z11 =>
 .leaf z11) (
 .leaf false)) (
 .leaf false))) (fun _ => .leaf false)))) (
 .fail))) (
 .fail)) (fun _ => .fail)) (
 .fail)
noncomputable def law03_WalkSums_m : FnM := flM ((Sq Int) × Int × Int) (Bool) (fun p => ([sqA 1 (eI .u8) p.1, .int .i64 p.2.1, .int .i64 p.2.2], [])) (fun p => law03_WalkSums_t p.1 p.2.1 p.2.2) (fun r => .bool r) (fun _ => rfl)
noncomputable def law03_WalkSums_env : Env := envM [(9, New_m.c), (10, Codes_Mine_m.c), (11, Mod_m.c), (23, walk_Way_m.c), (19, walk_Least_m.c), (12, walk_Time_m.c), (16, law03_awake_m.c)] [(6, [7, 8, 9, 10, 11, 12], [7, 8, 9, 10, 11]), (16, [7, 10, 13, 14, 15, 17, 18, 19], [6, 10, 14, 15, 17, 18])] [(6, law03_WalkSums_l6_m.c), (16, law03_WalkSums_l16_m.c)] [(10, [.freeze 192, .freeze 193]), (11, [.freeze 1216])] [(6, [192, 193, 256, 1216]), (16, [256, 1856])] 0
noncomputable def law03_WalkSums_e : Env := { law03_WalkSums_env with nt := 159 }
theorem law03_WalkSums_l6_tells : LoopTells law03_WalkSums_e (loopOf 6 Tryd.f6) law03_WalkSums_l6_m.c := law03_WalkSums_l6_m.tells 1408 (fun _ => by kernel_rfl) (fun _ _ _ _ => by kernel_rfl) (fun _ _ _ _ => by kernel_rfl) fun R f v N K => by kernel_rfl
theorem law03_WalkSums_l16_tells : LoopTells law03_WalkSums_e (loopOf 16 Tryd.f6) law03_WalkSums_l16_m.c := law03_WalkSums_l16_m.tells 4480 (fun _ => by kernel_rfl) (fun _ _ _ _ => by kernel_rfl) (fun _ _ _ _ => by kernel_rfl) fun R f v N K => by kernel_rfl
theorem law03_WalkSums_tells : Tells Tryd.prog 6 law03_WalkSums_m.c := law03_WalkSums_m.tells Tryd.func6 (show ∀ p, arun law03_WalkSums_env Tryd.f6 (law03_WalkSums_m.enc p).1 (law03_WalkSums_m.enc p).2 = _ from fun p => by kernel_rfl) (loopsL [loopOf 6 Tryd.f6, loopOf 16 Tryd.f6] (by kernel_rfl) ⟨lpT (by kernel_rfl) law03_WalkSums_l6_tells, ⟨lpT (by kernel_rfl) law03_WalkSums_l16_tells, trivial⟩⟩) (.cons New_tells (.cons Codes_Mine_tells (.cons Mod_tells (.cons walk_Way_tells (.cons walk_Least_tells (.cons walk_Time_tells (.cons law03_awake_tells .nil)))))))
noncomputable def law03_WalkSums (codes : Sq Int) (from_ to_ : Int) : Option (Bool) := law03_WalkSums_m.val (codes, from_, to_)
theorem law03_WalkSums_eq (codes : Sq Int) (from_ to_ : Int) : law03_WalkSums codes from_ to_ = (law03_WalkSums_t codes from_ to_).get := law03_WalkSums_m.val_eq (fun x => (sqD dI (gd x.1 0), intA (gd x.1 1), intA (gd x.1 2))) (fun p => by kernel_rfl) (codes, from_, to_)
theorem law03_WalkSums_inj : ∀ a b, law03_WalkSums_m.enc a = law03_WalkSums_m.enc b → a = b := linj (fun x => (sqD dI (gd x.1 0), intA (gd x.1 1), intA (gd x.1 2))) (fun p => by kernel_rfl)
end Go.Proofs.YtppidelikicnaaaDoor.Ab
