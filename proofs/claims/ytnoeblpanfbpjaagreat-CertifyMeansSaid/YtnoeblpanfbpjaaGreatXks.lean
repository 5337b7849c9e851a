/- Mirrors of code, stage 11. -/
import Derived.Test.YtnoeblpanfbpjaaGreatXd
import Derived.Test.YtnoeblpanfbpjaaGreatXkr
namespace Go.Proofs.YtnoeblpanfbpjaaGreat.Ab
open Go
attribute [local irreducible] arun



/-! minecontrol/minecontrolref12.check -/
noncomputable def ref12_check_l12_step (u12_0 : Sq Int) (u12_1 : Sq Bool) (u12_2 : Int) : DT (LR (Int) (Unit) (Unit)) :=
 .ite (decide (u12_2 < ((u12_0.n : Nat) : Int))) (
 .ite (decide ((0 : Int) ≤ u12_2 ∧ u12_2 < ((u12_1.n : Nat) : Int))) (
 .ite (u12_1.f (Int.toNat u12_2)) (
 .ite (decide ((0 : Int) ≤ u12_2 ∧ u12_2 < ((u12_0.n : Nat) : Int))) (
 .ite ((u12_0.f (Int.toNat u12_2)) != (0 : Int)) (
 .leaf (.r ())) (
 .leaf (.next (wr (u12_2 + (1 : Int)))))) (
 .fail)) (
 .leaf (.next (wr (u12_2 + (1 : Int)))))) (
 .fail)) (
 .leaf (.l ()))
noncomputable def ref12_check_l12_m : LpM := ⟨(Sq Int) × (Sq Bool), Int, Unit, Unit, fun p => ⟨[(2, sqA 1 (eI .i64) p.1.1), (8, .own 1856 0), (9, .int .i64 p.2)], [(1856, rowA 0 1 4 eO p.1.2)], 2048⟩, fun f v => ref12_check_l12_step f.1 f.2 v, false, (.exit 0), (fun x _ => ⟨[(6, .undef)], [(1856, blkS x 1856)], 2048⟩), .ret, (fun x _ => ⟨[(6, .int .i64 (12 : Int))], [(1856, blkS x 1856)], 2048⟩), c1, c1k⟩
noncomputable def ref12_check_l12 (u12_0 : Sq Int) (u12_1 : Sq Bool) (u12_2 : Int) : Option ((Unit) ⊕ (Unit)) := ref12_check_l12_m.val ((u12_0, u12_1), u12_2)
theorem ref12_check_l12_eq (u12_0 : Sq Int) (u12_1 : Sq Bool) (u12_2 : Int) : ref12_check_l12 u12_0 u12_1 u12_2 = fixO (fun v : Int => ref12_check_l12_step u12_0 u12_1 v) u12_2 := ref12_check_l12_m.val_eq (fun x => ((sqD dI (aget x.tm 2), sqB dO (blkS x 1856)), intA (aget x.tm 9))) (fun p => by kernel_rfl) ((u12_0, u12_1), u12_2)
noncomputable def ref12_check_t (a : SAir) (s : SSetting) (start : Sq Int) : DT (Int) :=
 .bind (ref09_Check a) fun z0 =>
 .ite (z0 != (0 : Int)) (
 .leaf z0) (
 .bind (ref09_Right a s) fun z1 =>
 .ite (!z1) (
 .leaf (21 : Int)) (
 .ite (((start.n : Nat) : Int) != ((a.Mine.Places.n : Nat) : Int)) (
 .leaf (11 : Int)) (
 .bind (ref11_Ranged start) fun z2 =>
 .ite (!z2) (
 .leaf (1 : Int)) (
 .bind (ref11_Fixed a.Mine) fun z3 =>
 .sum (ref12_check_l12 start z3 (0 : Int)) (fun _ =>
 .leaf (0 : Int)) (fun _ => .leaf (12 : Int))))))
noncomputable def ref12_check_m : FnM := flM (SAir × SSetting × (Sq Int)) (Int) (fun p => ([.agg (SAir.enc p.1), .agg (SSetting.enc p.2.1), sqA 1 (eI .i64) p.2.2], [])) (fun p => ref12_check_t p.1 p.2.1 p.2.2) (fun r => .int .i64 r) (fun _ => rfl)
noncomputable def ref12_check_env : Env := envM [(35, ref09_Check_m.c), (36, ref09_Right_m.c), (37, ref11_Ranged_m.c), (38, ref11_Fixed_m.c)] [(12, [2, 8, 9], [6])] [(12, ref12_check_l12_m.c)] [] [(12, [1856])] 0
noncomputable def ref12_check_e : Env := { ref12_check_env with nt := 49 }
theorem ref12_check_l12_tells : LoopTells ref12_check_e (loopOf 12 Tryz.f129) ref12_check_l12_m.c := ref12_check_l12_m.tells 2048 (fun _ => by kernel_rfl) (fun _ _ _ _ => by kernel_rfl) (fun _ _ _ _ => by kernel_rfl) fun R f v N K => by kernel_rfl
theorem ref12_check_tells : Tells Tryz.prog 129 ref12_check_m.c := ref12_check_m.tells Tryz.func129 (show ∀ p, arun ref12_check_env Tryz.f129 (ref12_check_m.enc p).1 (ref12_check_m.enc p).2 = _ from fun p => by kernel_rfl) (loopsL [loopOf 12 Tryz.f129] (by kernel_rfl) ⟨lpT (by kernel_rfl) ref12_check_l12_tells, trivial⟩) (.cons ref09_Check_tells (.cons ref09_Right_tells (.cons ref11_Ranged_tells (.cons ref11_Fixed_tells .nil))))
noncomputable def ref12_check (a : SAir) (s : SSetting) (start : Sq Int) : Option (Int) := ref12_check_m.val (a, s, start)
theorem ref12_check_eq (a : SAir) (s : SSetting) (start : Sq Int) : ref12_check a s start = (ref12_check_t a s start).get := ref12_check_m.val_eq (fun x => (SAir.dec (aggL (gd x.1 0)), SSetting.dec (aggL (gd x.1 1)), sqD dI (gd x.1 2))) (fun p => by kernel_rfl) (a, s, start)

/-! minecontrol/minecontrolref12.relax -/
noncomputable def ref12_relax_l11_step (u11_0 : Bool) (_u11_1 : Sq Int) (u11_2 : Sq SPlace) (u11_3 : Sq SRoad) (u11_4 : Sq SFan) (u11_5 : Sq SDoor) (u11_6 u11_7 : Sq Int) (u11_8 : Sq Bool) (_u11_12 u11_9 : Int) (u11_10 : Bool) (u11_11 : Sq Int) : DT (LR (Int × Bool × (Sq Int)) (Bool × (Sq Int)) (Bool × (Sq Int))) :=
 .ite (decide (u11_9 < ((u11_11.n : Nat) : Int))) (
 .ite (decide ((0 : Int) ≤ u11_9 ∧ u11_9 < ((u11_8.n : Nat) : Int))) (
 .ite (u11_8.f (Int.toNat u11_9)) (
 .leaf (.next ((wr (u11_9 + (1 : Int))), u11_10, u11_11))) (
 .ite u11_0 (
 .bind (ref10_Up (SAir.mk (SMine.mk u11_2 u11_3) u11_4 u11_5) (SSetting.mk u11_6 u11_7) u11_11 u11_9) fun z0 =>
 .ite (!z0.2) (
 .leaf (.r (u11_10, u11_11))) (
 .ite u11_10 (
 .ite (decide ((0 : Int) ≤ u11_9 ∧ u11_9 < ((u11_11.n : Nat) : Int))) (
 .leaf (.next ((wr (u11_9 + (1 : Int))), true, (Sq.mk u11_11.n (fun k0 => (cond (Nat.beq k0 (Int.toNat u11_9)) z0.1 (u11_11.f k0))))))) (
 .fail)) (
 .ite (decide ((0 : Int) ≤ u11_9 ∧ u11_9 < ((u11_11.n : Nat) : Int))) (
 .ite (decide ((0 : Int) ≤ u11_9 ∧ u11_9 < ((u11_11.n : Nat) : Int))) (
 .leaf (.next ((wr (u11_9 + (1 : Int))), (z0.1 != (u11_11.f (Int.toNat u11_9))), (Sq.mk u11_11.n (fun k1 => (cond (Nat.beq k1 (Int.toNat u11_9)) z0.1 (u11_11.f k1))))))) (
 .fail)) (
 .fail)))) (
 .bind (ref10_Down (SAir.mk (SMine.mk u11_2 u11_3) u11_4 u11_5) (SSetting.mk u11_6 u11_7) u11_11 u11_9) fun z1 =>
 .ite (!z1.2) (
 .leaf (.r (u11_10, u11_11))) (
 .ite u11_10 (
 .ite (decide ((0 : Int) ≤ u11_9 ∧ u11_9 < ((u11_11.n : Nat) : Int))) (
 .leaf (.next ((wr (u11_9 + (1 : Int))), true, (Sq.mk u11_11.n (fun k2 => (cond (Nat.beq k2 (Int.toNat u11_9)) z1.1 (u11_11.f k2))))))) (
 .fail)) (
 .ite (decide ((0 : Int) ≤ u11_9 ∧ u11_9 < ((u11_11.n : Nat) : Int))) (
 .ite (decide ((0 : Int) ≤ u11_9 ∧ u11_9 < ((u11_11.n : Nat) : Int))) (
 .leaf (.next ((wr (u11_9 + (1 : Int))), (z1.1 != (u11_11.f (Int.toNat u11_9))), (Sq.mk u11_11.n (fun k3 => (cond (Nat.beq k3 (Int.toNat u11_9)) z1.1 (u11_11.f k3))))))) (
 .fail)) (
 .fail)))))) (
 .fail)) (
 .leaf (.l (u11_10, u11_11)))
noncomputable def ref12_relax_l11_m : LpM := ⟨Bool × (Sq Int) × (Sq SPlace) × (Sq SRoad) × (Sq SFan) × (Sq SDoor) × (Sq Int) × (Sq Int) × (Sq Bool) × Int, Int × Bool × (Sq Int), Bool × (Sq Int), Bool × (Sq Int), fun p => ⟨[(3, .bool p.1.1), (4, .ptr 1 0), (5, .ptr 65 0), (11, .own 961 0), (12, .own 1217 0), (13, .int .i64 p.1.2.2.2.2.2.2.2.2.2), (14, .bool p.2.2.1), (15, .int .i64 p.2.1)], [(0, rowA 0 1 3 (eI .i64) p.1.2.1), (1, .var [sqA 2 SPlace.enc p.1.2.2.1, sqA 10 SRoad.enc p.1.2.2.2.1, sqA 4 SFan.enc p.1.2.2.2.2.1, sqA 3 SDoor.enc p.1.2.2.2.2.2.1]), (65, .var [sqA 1 (eI .i64) p.1.2.2.2.2.2.2.1, sqA 1 (eI .i64) p.1.2.2.2.2.2.2.2.1]), (129, .nilrow 0), (961, rowA 0 1 3 (eI .i64) p.2.2.2), (1217, rowA 0 1 4 eO p.1.2.2.2.2.2.2.2.2.1)], 1665⟩, fun f v => ref12_relax_l11_step f.1 f.2.1 f.2.2.1 f.2.2.2.1 f.2.2.2.2.1 f.2.2.2.2.2.1 f.2.2.2.2.2.2.1 f.2.2.2.2.2.2.2.1 f.2.2.2.2.2.2.2.2.1 f.2.2.2.2.2.2.2.2.2 v.1 v.2.1 v.2.2, false, (.exit 2), (fun x a => ⟨[(3, aget x.tm 3), (4, .ptr 1 0), (5, .ptr 65 0), (8, .undef), (9, .undef), (11, .own 961 0), (12, .own 1217 0), (13, aget x.tm 13), (14, .bool a.1)], [(0, blkS x 0), (1, blkS x 1), (65, blkS x 65), (129, .nilrow 0), (961, rowA 0 1 3 (eI .i64) a.2), (1217, blkS x 1217)], 1665⟩), .ret, (fun x a => ⟨[(3, aget x.tm 3), (4, .ptr 1 0), (5, .ptr 65 0), (8, .own 129 0), (9, .int .i64 (2 : Int)), (11, .own 961 0), (12, .own 1217 0), (13, aget x.tm 13), (14, .bool a.1)], [(0, blkS x 0), (1, blkS x 1), (65, blkS x 65), (129, .nilrow 0), (961, rowA 0 1 3 (eI .i64) a.2), (1217, blkS x 1217)], 1665⟩), c1, c1k⟩
noncomputable def ref12_relax_l11 (u11_0 : Bool) (u11_1 : Sq Int) (u11_2 : Sq SPlace) (u11_3 : Sq SRoad) (u11_4 : Sq SFan) (u11_5 : Sq SDoor) (u11_6 u11_7 : Sq Int) (u11_8 : Sq Bool) (u11_12 u11_9 : Int) (u11_10 : Bool) (u11_11 : Sq Int) : Option ((Bool × (Sq Int)) ⊕ (Bool × (Sq Int))) := ref12_relax_l11_m.val ((u11_0, u11_1, u11_2, u11_3, u11_4, u11_5, u11_6, u11_7, u11_8, u11_12), (u11_9, u11_10, u11_11))
theorem ref12_relax_l11_eq (u11_0 : Bool) (u11_1 : Sq Int) (u11_2 : Sq SPlace) (u11_3 : Sq SRoad) (u11_4 : Sq SFan) (u11_5 : Sq SDoor) (u11_6 u11_7 : Sq Int) (u11_8 : Sq Bool) (u11_12 u11_9 : Int) (u11_10 : Bool) (u11_11 : Sq Int) : ref12_relax_l11 u11_0 u11_1 u11_2 u11_3 u11_4 u11_5 u11_6 u11_7 u11_8 u11_12 u11_9 u11_10 u11_11 = fixO (fun v : Int × Bool × (Sq Int) => ref12_relax_l11_step u11_0 u11_1 u11_2 u11_3 u11_4 u11_5 u11_6 u11_7 u11_8 u11_12 v.1 v.2.1 v.2.2) (u11_9, u11_10, u11_11) := ref12_relax_l11_m.val_eq (fun x => ((boolA (aget x.tm 3), sqB dI (blkS x 0), sqD SPlace.dec (cellS x 1 0), sqD SRoad.dec (cellS x 1 1), sqD SFan.dec (cellS x 1 2), sqD SDoor.dec (cellS x 1 3), sqD dI (cellS x 65 0), sqD dI (cellS x 65 1), sqB dO (blkS x 1217), intA (aget x.tm 13)), (intA (aget x.tm 15), boolA (aget x.tm 14), sqB dI (blkS x 961)))) (fun p => by kernel_rfl) ((u11_0, u11_1, u11_2, u11_3, u11_4, u11_5, u11_6, u11_7, u11_8, u11_12), (u11_9, u11_10, u11_11))
noncomputable def ref12_relax_l7_step (u7_0 : Bool) (u7_1 : Sq Int) (u7_2 : Sq SPlace) (u7_3 : Sq SRoad) (u7_4 : Sq SFan) (u7_5 : Sq SDoor) (u7_6 u7_7 : Sq Int) (u7_8 : Sq Bool) (u7_9 : Int) (u7_10 : Sq Int) : DT (LR (Int × (Sq Int)) ((Sq Int)) (((Sq Int)) ⊕ ((Sq Int)))) :=
 .ite (decide (u7_9 < (200 : Int))) (
 .sum (ref12_relax_l11 u7_0 u7_1 u7_2 u7_3 u7_4 u7_5 u7_6 u7_7 u7_8 u7_9 (0 : Int) false u7_10) (fun y0 =>
 .ite (!y0.1) (
 .leaf (.r (Sum.inl (y0.2)))) (
 .leaf (.next ((wr (u7_9 + (1 : Int))), y0.2)))) (fun y1 => .leaf (.r (Sum.inr (y1.2))))) (
 .leaf (.l u7_10))
noncomputable def ref12_relax_l7_m : LpM := ⟨Bool × (Sq Int) × (Sq SPlace) × (Sq SRoad) × (Sq SFan) × (Sq SDoor) × (Sq Int) × (Sq Int) × (Sq Bool), Int × (Sq Int), (Sq Int), ((Sq Int)) ⊕ ((Sq Int)), fun p => ⟨[(3, .bool p.1.1), (4, .ptr 1 0), (5, .ptr 65 0), (11, .own 961 0), (12, .own 1217 0), (13, .int .i64 p.2.1)], [(0, rowA 0 1 3 (eI .i64) p.1.2.1), (1, .var [sqA 2 SPlace.enc p.1.2.2.1, sqA 10 SRoad.enc p.1.2.2.2.1, sqA 4 SFan.enc p.1.2.2.2.2.1, sqA 3 SDoor.enc p.1.2.2.2.2.2.1]), (65, .var [sqA 1 (eI .i64) p.1.2.2.2.2.2.2.1, sqA 1 (eI .i64) p.1.2.2.2.2.2.2.2.1]), (129, .nilrow 0), (961, rowA 0 1 3 (eI .i64) p.2.2), (1217, rowA 0 1 4 eO p.1.2.2.2.2.2.2.2.2)], 1409⟩, fun f v => ref12_relax_l7_step f.1 f.2.1 f.2.2.1 f.2.2.2.1 f.2.2.2.2.1 f.2.2.2.2.2.1 f.2.2.2.2.2.2.1 f.2.2.2.2.2.2.2.1 f.2.2.2.2.2.2.2.2 v.1 v.2, false, (.exit 0), (fun x a => ⟨[(8, .undef), (9, .undef)], [(0, blkS x 0), (1, blkS x 1), (65, blkS x 65), (129, .nilrow 0), (961, rowA 0 1 3 (eI .i64) a), (1217, blkS x 1217)], 1409⟩), .ret, (fun x y => match y with | .inl a => ⟨[(8, .own 961 0), (9, .int .i64 (0 : Int))], [(0, blkS x 0), (1, blkS x 1), (65, blkS x 65), (129, .nilrow 0), (961, rowA 0 1 3 (eI .i64) a), (1217, blkS x 1217)], 1409⟩ | .inr a => ⟨[(8, .own 129 0), (9, .int .i64 (2 : Int))], [(0, blkS x 0), (1, blkS x 1), (65, blkS x 65), (129, .nilrow 0), (961, rowA 0 1 3 (eI .i64) a), (1217, blkS x 1217)], 1409⟩), c2, c2k⟩
noncomputable def ref12_relax_l7 (u7_0 : Bool) (u7_1 : Sq Int) (u7_2 : Sq SPlace) (u7_3 : Sq SRoad) (u7_4 : Sq SFan) (u7_5 : Sq SDoor) (u7_6 u7_7 : Sq Int) (u7_8 : Sq Bool) (u7_9 : Int) (u7_10 : Sq Int) : Option (((Sq Int)) ⊕ (((Sq Int)) ⊕ ((Sq Int)))) := ref12_relax_l7_m.val ((u7_0, u7_1, u7_2, u7_3, u7_4, u7_5, u7_6, u7_7, u7_8), (u7_9, u7_10))
theorem ref12_relax_l7_eq (u7_0 : Bool) (u7_1 : Sq Int) (u7_2 : Sq SPlace) (u7_3 : Sq SRoad) (u7_4 : Sq SFan) (u7_5 : Sq SDoor) (u7_6 u7_7 : Sq Int) (u7_8 : Sq Bool) (u7_9 : Int) (u7_10 : Sq Int) : ref12_relax_l7 u7_0 u7_1 u7_2 u7_3 u7_4 u7_5 u7_6 u7_7 u7_8 u7_9 u7_10 = fixO (fun v : Int × (Sq Int) => ref12_relax_l7_step u7_0 u7_1 u7_2 u7_3 u7_4 u7_5 u7_6 u7_7 u7_8 v.1 v.2) (u7_9, u7_10) := ref12_relax_l7_m.val_eq (fun x => ((boolA (aget x.tm 3), sqB dI (blkS x 0), sqD SPlace.dec (cellS x 1 0), sqD SRoad.dec (cellS x 1 1), sqD SFan.dec (cellS x 1 2), sqD SDoor.dec (cellS x 1 3), sqD dI (cellS x 65 0), sqD dI (cellS x 65 1), sqB dO (blkS x 1217)), (intA (aget x.tm 13), sqB dI (blkS x 961)))) (fun p => by kernel_rfl) ((u7_0, u7_1, u7_2, u7_3, u7_4, u7_5, u7_6, u7_7, u7_8), (u7_9, u7_10))
noncomputable def ref12_relax_t (a : SAir) (s : SSetting) (start : Sq Int) (up : Bool) : DT ((Sq Int) × Int) :=
 .bind (ref12_check a s start) fun z2 =>
 .ite (z2 != (0 : Int)) (
 .leaf ((Sq.mk 0 (fun _ => (0 : Int))), z2)) (
 .ite (decide (start.n * 8 ≤ 140737488355328 ∧ start.n ≤ 1099511627776)) (
 .bind (ref11_Fixed a.Mine) fun z3 =>
 .sum (ref12_relax_l7 up start a.Mine.Places a.Mine.Roads a.Fans a.Doors s.Fans s.Doors z3 (0 : Int) start) (fun _ =>
 .leaf ((Sq.mk 0 (fun _ => (0 : Int))), (2 : Int))) (fun y2 => .sum (some y2) (fun y3 =>
 .leaf (y3, (0 : Int))) (fun _ => .leaf ((Sq.mk 0 (fun _ => (0 : Int))), (2 : Int))))) (
 .fail))
noncomputable def ref12_relax_m : FnM := nfM (SAir × SSetting × (Sq Int) × Bool) ((Sq Int) × Int) (fun p => ([.agg (SAir.enc p.1), .agg (SSetting.enc p.2.1), .own 0 0, .bool p.2.2.2], [rowA 0 1 3 (eI .i64) p.2.2.1])) (fun p => ref12_relax_t p.1 p.2.1 p.2.2.1 p.2.2.2) (fun r => .tup [.own 1 0, .int .i64 r.2]) (fun ins r => [dB ins 0, rowA 0 1 3 (eI .i64) r.1])
noncomputable def ref12_relax_env : Env := envM [(129, ref12_check_m.c), (38, ref11_Fixed_m.c), (130, ref10_Up_m.c), (131, ref10_Down_m.c)] [(11, [3, 4, 5, 11, 12, 13, 14, 15], [3, 4, 5, 8, 9, 11, 12, 13, 14]), (7, [3, 4, 5, 11, 12, 13], [8, 9])] [(11, ref12_relax_l11_m.c), (7, ref12_relax_l7_m.c)] [(2000000, [.asrow 129 3 1 (fun _ => (eI .i64) (0 : Int))])] [(11, [0, 1, 65, 129, 961, 1217]), (7, [0, 1, 65, 129, 961, 1217]), (6000008, [129])] 1
noncomputable def ref12_relax_e : Env := { ref12_relax_env with nt := 79 }
theorem ref12_relax_l11_tells : LoopTells ref12_relax_e (loopOf 11 Tryz.f104) ref12_relax_l11_m.c := ref12_relax_l11_m.tells 1665 (fun _ => by kernel_rfl) (fun _ _ _ _ => by kernel_rfl) (fun _ _ _ _ => by kernel_rfl) fun R f v N K => by kernel_rfl
theorem ref12_relax_l7_tells : LoopTells ref12_relax_e (loopOf 7 Tryz.f104) ref12_relax_l7_m.c := ref12_relax_l7_m.tells 1409 (fun _ => by kernel_rfl) (fun _ _ _ _ => by kernel_rfl) (fun _ _ _ _ => by kernel_rfl) fun R f v N K => by kernel_rfl
theorem ref12_relax_tells : Tells Tryz.prog 104 ref12_relax_m.c := ref12_relax_m.tells Tryz.func104 (show ∀ p, arun ref12_relax_env Tryz.f104 (ref12_relax_m.enc p).1 (ref12_relax_m.enc p).2 = _ from fun p => by kernel_rfl) (loopsL [loopOf 7 Tryz.f104, loopOf 11 Tryz.f104] (by kernel_rfl) ⟨lpT (by kernel_rfl) ref12_relax_l7_tells, ⟨lpT (by kernel_rfl) ref12_relax_l11_tells, trivial⟩⟩) (.cons ref12_check_tells (.cons ref11_Fixed_tells (.cons ref10_Up_tells (.cons ref10_Down_tells .nil))))
noncomputable def ref12_relax (a : SAir) (s : SSetting) (start : Sq Int) (up : Bool) : Option ((Sq Int) × Int) := ref12_relax_m.val (a, s, start, up)
theorem ref12_relax_eq (a : SAir) (s : SSetting) (start : Sq Int) (up : Bool) : ref12_relax a s start up = (ref12_relax_t a s start up).get := ref12_relax_m.val_eq (fun x => (SAir.dec (aggL (gd x.1 0)), SSetting.dec (aggL (gd x.1 1)), sqB dI (dB x.2 0), boolA (gd x.1 3))) (fun p => by kernel_rfl) (a, s, start, up)

/-! minecontrol/minecontrolref12.Fall -/
noncomputable def ref12_Fall_t (a : SAir) (s : SSetting) (start : Sq Int) : DT ((Sq Int) × Int) :=
 .bind (ref12_relax a s start false) fun z0 =>
 .leaf (z0.1, z0.2)
noncomputable def ref12_Fall_m : FnM := nfM (SAir × SSetting × (Sq Int)) ((Sq Int) × Int) (fun p => ([.agg (SAir.enc p.1), .agg (SSetting.enc p.2.1), .own 0 0], [rowA 0 1 3 (eI .i64) p.2.2])) (fun p => ref12_Fall_t p.1 p.2.1 p.2.2) (fun r => .tup [.own 1 0, .int .i64 r.2]) (fun ins r => [dB ins 0, rowA 0 1 3 (eI .i64) r.1])
noncomputable def ref12_Fall_env : Env := envM [(104, ref12_relax_m.c)] [(2000104, [], [])] [] [] [] 1
theorem ref12_Fall_tells : Tells Tryz.prog 81 ref12_Fall_m.c := ref12_Fall_m.tells Tryz.func81 (show ∀ p, arun ref12_Fall_env Tryz.f81 (ref12_Fall_m.enc p).1 (ref12_Fall_m.enc p).2 = _ from fun p => by kernel_rfl) noLoops (.cons ref12_relax_tells .nil)
noncomputable def ref12_Fall (a : SAir) (s : SSetting) (start : Sq Int) : Option ((Sq Int) × Int) := ref12_Fall_m.val (a, s, start)
theorem ref12_Fall_eq (a : SAir) (s : SSetting) (start : Sq Int) : ref12_Fall a s start = (ref12_Fall_t a s start).get := ref12_Fall_m.val_eq (fun x => (SAir.dec (aggL (gd x.1 0)), SSetting.dec (aggL (gd x.1 1)), sqB dI (dB x.2 0))) (fun p => by kernel_rfl) (a, s, start)

/-! minecontrol/minecontrolref12.Rise -/
noncomputable def ref12_Rise_t (a : SAir) (s : SSetting) (start : Sq Int) : DT ((Sq Int) × Int) :=
 .bind (ref12_relax a s start true) fun z0 =>
 .leaf (z0.1, z0.2)
noncomputable def ref12_Rise_m : FnM := nfM (SAir × SSetting × (Sq Int)) ((Sq Int) × Int) (fun p => ([.agg (SAir.enc p.1), .agg (SSetting.enc p.2.1), .own 0 0], [rowA 0 1 3 (eI .i64) p.2.2])) (fun p => ref12_Rise_t p.1 p.2.1 p.2.2) (fun r => .tup [.own 1 0, .int .i64 r.2]) (fun ins r => [dB ins 0, rowA 0 1 3 (eI .i64) r.1])
noncomputable def ref12_Rise_env : Env := envM [(104, ref12_relax_m.c)] [(2000104, [], [])] [] [] [] 1
theorem ref12_Rise_tells : Tells Tryz.prog 82 ref12_Rise_m.c := ref12_Rise_m.tells Tryz.func82 (show ∀ p, arun ref12_Rise_env Tryz.f82 (ref12_Rise_m.enc p).1 (ref12_Rise_m.enc p).2 = _ from fun p => by kernel_rfl) noLoops (.cons ref12_relax_tells .nil)
noncomputable def ref12_Rise (a : SAir) (s : SSetting) (start : Sq Int) : Option ((Sq Int) × Int) := ref12_Rise_m.val (a, s, start)
theorem ref12_Rise_eq (a : SAir) (s : SSetting) (start : Sq Int) : ref12_Rise a s start = (ref12_Rise_t a s start).get := ref12_Rise_m.val_eq (fun x => (SAir.dec (aggL (gd x.1 0)), SSetting.dec (aggL (gd x.1 1)), sqB dI (dB x.2 0))) (fun p => by kernel_rfl) (a, s, start)

/-! minecontrol/minecontrolref12.Solve -/
noncomputable def ref12_Solve_t (a : SAir) (s : SSetting) : DT (SBounds × Int) :=
 .ite (decide ((0 : Int) ≤ ((a.Mine.Places.n : Nat) : Int) ∧ ((a.Mine.Places.n : Nat) : Int) ≤ ((a.Mine.Places.n : Nat) : Int) ∧ ((a.Mine.Places.n : Nat) : Int) * ((8 : Nat) : Int) ≤ 140737488355328 ∧ ((a.Mine.Places.n : Nat) : Int) ≤ 1099511627776)) (
 .bind (ref12_Fall a s (Sq.mk (Int.toNat ((a.Mine.Places.n : Nat) : Int)) (fun _ => (0 : Int)))) fun z0 =>
 .ite (z0.2 != (0 : Int)) (
 .leaf ((SBounds.mk (Sq.mk 0 (fun _ => (0 : Int))) (Sq.mk 0 (fun _ => (0 : Int)))), z0.2)) (
 .bind (ref12_Rise a s z0.1) fun z1 =>
 .ite (z1.2 != (0 : Int)) (
 .leaf ((SBounds.mk (Sq.mk 0 (fun _ => (0 : Int))) (Sq.mk 0 (fun _ => (0 : Int)))), z1.2)) (
 .bind (ref12_Fall a s z1.1) fun z2 =>
 .ite (z2.2 != (0 : Int)) (.leaf ((SBounds.mk (Sq.mk 0 (fun _ => (0 : Int))) (Sq.mk 0 (fun _ => (0 : Int)))), z2.2)) (.leaf ((SBounds.mk z2.1 z1.1), (0 : Int)))))) (
 .fail)
noncomputable def ref12_Solve_m : FnM := nfM (SAir × SSetting) (SBounds × Int) (fun p => ([.agg (SAir.enc p.1), .agg (SSetting.enc p.2)], [])) (fun p => ref12_Solve_t p.1 p.2) (fun r => .tup [.agg [.own 0 0, .own 1 0], .int .i64 r.2]) (fun _ r => [rowA 0 1 3 (eI .i64) r.1.Low, rowA 0 1 3 (eI .i64) r.1.High])
noncomputable def ref12_Solve_env : Env := envM [(81, ref12_Fall_m.c), (82, ref12_Rise_m.c)] [(2000081, [], []), (2000082, [], [])] [] [(2000000, [.asrow 1216 3 1 (fun _ => (eI .i64) (0 : Int)), .asrow 2176 3 1 (fun _ => (eI .i64) (0 : Int)), .asrow 3136 3 1 (fun _ => (eI .i64) (0 : Int)), .asrow 1217 3 1 (fun _ => (eI .i64) (0 : Int)), .asrow 2177 3 1 (fun _ => (eI .i64) (0 : Int)), .asrow 3137 3 1 (fun _ => (eI .i64) (0 : Int))])] [] 0
theorem ref12_Solve_tells : Tells Tryz.prog 60 ref12_Solve_m.c := ref12_Solve_m.tells Tryz.func60 (show ∀ p, arun ref12_Solve_env Tryz.f60 (ref12_Solve_m.enc p).1 (ref12_Solve_m.enc p).2 = _ from fun p => by kernel_rfl) noLoops (.cons ref12_Fall_tells (.cons ref12_Rise_tells .nil))
noncomputable def ref12_Solve (a : SAir) (s : SSetting) : Option (SBounds × Int) := ref12_Solve_m.val (a, s)
theorem ref12_Solve_eq (a : SAir) (s : SSetting) : ref12_Solve a s = (ref12_Solve_t a s).get := ref12_Solve_m.val_eq (fun x => (SAir.dec (aggL (gd x.1 0)), SSetting.dec (aggL (gd x.1 1)))) (fun p => by kernel_rfl) (a, s)

/-! minecontrol/minecontroldraw.Solved -/
noncomputable def Solved_t (a : SAir) (s : SSetting) : DT (SBounds × Bool) :=
 .bind (ref12_Solve a s) fun z0 =>
 .leaf (z0.1, (z0.2 == (0 : Int)))
noncomputable def Solved_m : FnM := nfM (SAir × SSetting) (SBounds × Bool) (fun p => ([.agg (SAir.enc p.1), .agg (SSetting.enc p.2)], [])) (fun p => Solved_t p.1 p.2) (fun r => .tup [.agg [.own 0 0, .own 1 0], .bool r.2]) (fun _ r => [rowA 0 1 3 (eI .i64) r.1.Low, rowA 0 1 3 (eI .i64) r.1.High])
noncomputable def Solved_env : Env := envM [(60, ref12_Solve_m.c)] [] [] [] [] 0
theorem Solved_tells : Tells Tryz.prog 29 Solved_m.c := Solved_m.tells Tryz.func29 (show ∀ p, arun Solved_env Tryz.f29 (Solved_m.enc p).1 (Solved_m.enc p).2 = _ from fun p => by kernel_rfl) noLoops (.cons ref12_Solve_tells .nil)
noncomputable def Solved (a : SAir) (s : SSetting) : Option (SBounds × Bool) := Solved_m.val (a, s)
theorem Solved_eq (a : SAir) (s : SSetting) : Solved a s = (Solved_t a s).get := Solved_m.val_eq (fun x => (SAir.dec (aggL (gd x.1 0)), SSetting.dec (aggL (gd x.1 1)))) (fun p => by kernel_rfl) (a, s)
end Go.Proofs.YtnoeblpanfbpjaaGreat.Ab
