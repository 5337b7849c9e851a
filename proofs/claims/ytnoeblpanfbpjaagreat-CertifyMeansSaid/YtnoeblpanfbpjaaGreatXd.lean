/- Mirrors of code, stage 11. -/
import Derived.Test.YtnoeblpanfbpjaaGreatXc
namespace Go.Proofs.YtnoeblpanfbpjaaGreat.Ab
open Go
attribute [local irreducible] arun



/-! minecontrol/minecontrolref11.Ranged -/
noncomputable def ref11_Ranged_l2_step (u2_0 : Sq Int) (u2_1 : Int) : DT (LR (Int) (Unit) (Unit)) :=
 .ite (decide (u2_1 < ((u2_0.n : Nat) : Int))) (
 .ite (decide ((0 : Int) ≤ u2_1 ∧ u2_1 < ((u2_0.n : Nat) : Int))) (
 .ite (decide ((u2_0.f (Int.toNat u2_1)) < (-70368744177664 : Int))) (
 .leaf (.r ())) (
 .ite (decide ((0 : Int) ≤ u2_1 ∧ u2_1 < ((u2_0.n : Nat) : Int))) (
 .ite (decide ((u2_0.f (Int.toNat u2_1)) > (70368744177664 : Int))) (
 .leaf (.r ())) (
 .leaf (.next (wr (u2_1 + (1 : Int)))))) (
 .fail))) (
 .fail)) (
 .leaf (.l ()))
noncomputable def ref11_Ranged_l2_m : LpM := ⟨(Sq Int), Int, Unit, Unit, fun p => ⟨[(0, sqA 1 (eI .i64) p.1), (3, .int .i64 p.2)], [], 128⟩, fun f v => ref11_Ranged_l2_step f v, false, (.exit 0), (fun _ _ => ⟨[(2, .undef)], [], 128⟩), .ret, (fun _ _ => ⟨[(2, .bool false)], [], 128⟩), c1, c1k⟩
noncomputable def ref11_Ranged_l2 (u2_0 : Sq Int) (u2_1 : Int) : Option ((Unit) ⊕ (Unit)) := ref11_Ranged_l2_m.val (u2_0, u2_1)
theorem ref11_Ranged_l2_eq (u2_0 : Sq Int) (u2_1 : Int) : ref11_Ranged_l2 u2_0 u2_1 = fixO (fun v : Int => ref11_Ranged_l2_step u2_0 v) u2_1 := ref11_Ranged_l2_m.val_eq (fun x => (sqD dI (aget x.tm 0), intA (aget x.tm 3))) (fun p => by kernel_rfl) (u2_0, u2_1)
noncomputable def ref11_Ranged_t (l : Sq Int) : DT (Bool) :=
 .sum (ref11_Ranged_l2 l (0 : Int)) (fun _ =>
 .leaf true) (fun _ => .leaf false)
noncomputable def ref11_Ranged_m : FnM := flM ((Sq Int)) (Bool) (fun p => ([sqA 1 (eI .i64) p], [])) (fun p => ref11_Ranged_t p) (fun r => .bool r) (fun _ => rfl)
noncomputable def ref11_Ranged_env : Env := envM [] [(2, [0, 3], [2])] [(2, ref11_Ranged_l2_m.c)] [] [(2, [])] 0
noncomputable def ref11_Ranged_e : Env := { ref11_Ranged_env with nt := 22 }
theorem ref11_Ranged_l2_tells : LoopTells ref11_Ranged_e (loopOf 2 Tryz.f37) ref11_Ranged_l2_m.c := ref11_Ranged_l2_m.tells 128 (fun _ => by kernel_rfl) (fun _ _ _ _ => by kernel_rfl) (fun _ _ _ _ => by kernel_rfl) fun R f v N K => by kernel_rfl
theorem ref11_Ranged_tells : Tells Tryz.prog 37 ref11_Ranged_m.c := ref11_Ranged_m.tells Tryz.func37 (show ∀ p, arun ref11_Ranged_env Tryz.f37 (ref11_Ranged_m.enc p).1 (ref11_Ranged_m.enc p).2 = _ from fun p => by kernel_rfl) (loopsL [loopOf 2 Tryz.f37] (by kernel_rfl) ⟨lpT (by kernel_rfl) ref11_Ranged_l2_tells, trivial⟩) .nil
noncomputable def ref11_Ranged (l : Sq Int) : Option (Bool) := ref11_Ranged_m.val l
theorem ref11_Ranged_eq (l : Sq Int) : ref11_Ranged l = (ref11_Ranged_t l).get := ref11_Ranged_m.val_eq (fun x => sqD dI (gd x.1 0)) (fun p => by kernel_rfl) l

/-! minecontrol/minecontrolref01.From -/
noncomputable def ref01_From_l6_step (_u6_0 : Sq SPlace) (u6_1 : Sq SRoad) (u6_2 : Sq Bool) (u6_3 : Bool) (u6_4 : Int) : DT (LR ((Sq Bool) × Bool × Int) (Bool × (Sq Bool)) (Unit)) :=
 .ite (decide (u6_4 < ((u6_1.n : Nat) : Int))) (
 .ite (decide ((0 : Int) ≤ u6_4 ∧ u6_4 < ((u6_1.n : Nat) : Int))) (
 .ite (!(u6_1.f (Int.toNat u6_4)).Closed) (
 .ite (decide ((0 : Int) ≤ (u6_1.f (Int.toNat u6_4)).From ∧ (u6_1.f (Int.toNat u6_4)).From < ((u6_2.n : Nat) : Int))) (
 .ite (decide ((0 : Int) ≤ (u6_1.f (Int.toNat u6_4)).To ∧ (u6_1.f (Int.toNat u6_4)).To < ((u6_2.n : Nat) : Int))) (
 .ite (!((u6_2.f (Int.toNat (u6_1.f (Int.toNat u6_4)).From)) == (u6_2.f (Int.toNat (u6_1.f (Int.toNat u6_4)).To)))) (
 .ite (decide ((0 : Int) ≤ (u6_1.f (Int.toNat u6_4)).From ∧ (u6_1.f (Int.toNat u6_4)).From < ((u6_2.n : Nat) : Int))) (
 .ite (decide ((0 : Int) ≤ (u6_1.f (Int.toNat u6_4)).To ∧ (u6_1.f (Int.toNat u6_4)).To < ((u6_2.n : Nat) : Int))) (
 .leaf (.next ((Sq.mk u6_2.n (fun k0 => (cond (Nat.beq k0 (Int.toNat (u6_1.f (Int.toNat u6_4)).To)) true (cond (Nat.beq k0 (Int.toNat (u6_1.f (Int.toNat u6_4)).From)) true (u6_2.f k0))))), true, (wr (u6_4 + (1 : Int)))))) (
 .fail)) (
 .fail)) (
 .leaf (.next (u6_2, u6_3, (wr (u6_4 + (1 : Int))))))) (
 .fail)) (
 .fail)) (
 .leaf (.next (u6_2, u6_3, (wr (u6_4 + (1 : Int))))))) (
 .fail)) (
 .leaf (.l (u6_3, u6_2)))
noncomputable def ref01_From_l6_m : LpM := ⟨(Sq SPlace) × (Sq SRoad), (Sq Bool) × Bool × Int, Bool × (Sq Bool), Unit, fun p => ⟨[(2, .ptr 0 0), (5, .own 192 0), (6, .bool p.2.2.1), (7, .int .i64 p.2.2.2)], [(0, .var [sqA 2 SPlace.enc p.1.1, sqA 10 SRoad.enc p.1.2]), (192, rowA 0 1 4 eO p.2.1)], 576⟩, fun f v => ref01_From_l6_step f.1 f.2 v.1 v.2.1 v.2.2, true, (.exit 2), (fun x a => ⟨[(2, .ptr 0 0), (5, .own 192 0), (6, .bool a.1)], [(0, blkS x 0), (192, rowA 0 1 4 eO a.2)], 576⟩), .ret, (fun _ _ => ⟨[], [], 0⟩), c1, c1k⟩
noncomputable def ref01_From_l6 (u6_0 : Sq SPlace) (u6_1 : Sq SRoad) (u6_2 : Sq Bool) (u6_3 : Bool) (u6_4 : Int) : Option ((Bool × (Sq Bool)) ⊕ (Unit)) := ref01_From_l6_m.val ((u6_0, u6_1), (u6_2, u6_3, u6_4))
theorem ref01_From_l6_eq (u6_0 : Sq SPlace) (u6_1 : Sq SRoad) (u6_2 : Sq Bool) (u6_3 : Bool) (u6_4 : Int) : ref01_From_l6 u6_0 u6_1 u6_2 u6_3 u6_4 = fixO (fun v : (Sq Bool) × Bool × Int => ref01_From_l6_step u6_0 u6_1 v.1 v.2.1 v.2.2) (u6_2, u6_3, u6_4) := ref01_From_l6_m.val_eq (fun x => ((sqD SPlace.dec (cellS x 0 0), sqD SRoad.dec (cellS x 0 1)), (sqB dO (blkS x 192), boolA (aget x.tm 6), intA (aget x.tm 7)))) (fun p => by kernel_rfl) ((u6_0, u6_1), (u6_2, u6_3, u6_4))
noncomputable def ref01_From_l3_step (u3_0 : Sq SPlace) (u3_1 : Sq SRoad) (u3_2 : Sq Bool) (u3_3 : Bool) : DT (LR ((Sq Bool) × Bool) ((Sq Bool)) (Unit)) :=
 .ite u3_3 (
 .sum (ref01_From_l6 u3_0 u3_1 u3_2 false (0 : Int)) (fun y0 =>
 .leaf (.next (y0.2, y0.1))) (fun _ => .fail)) (
 .leaf (.l u3_2))
noncomputable def ref01_From_l3_m : LpM := ⟨(Sq SPlace) × (Sq SRoad), (Sq Bool) × Bool, (Sq Bool), Unit, fun p => ⟨[(2, .ptr 0 0), (5, .own 192 0), (6, .bool p.2.2)], [(0, .var [sqA 2 SPlace.enc p.1.1, sqA 10 SRoad.enc p.1.2]), (192, rowA 0 1 4 eO p.2.1)], 384⟩, fun f v => ref01_From_l3_step f.1 f.2 v.1 v.2, true, (.exit 0), (fun x a => ⟨[(5, .own 192 0)], [(0, blkS x 0), (192, rowA 0 1 4 eO a)], 384⟩), .ret, (fun _ _ => ⟨[], [], 0⟩), c1, c1k⟩
noncomputable def ref01_From_l3 (u3_0 : Sq SPlace) (u3_1 : Sq SRoad) (u3_2 : Sq Bool) (u3_3 : Bool) : Option (((Sq Bool)) ⊕ (Unit)) := ref01_From_l3_m.val ((u3_0, u3_1), (u3_2, u3_3))
theorem ref01_From_l3_eq (u3_0 : Sq SPlace) (u3_1 : Sq SRoad) (u3_2 : Sq Bool) (u3_3 : Bool) : ref01_From_l3 u3_0 u3_1 u3_2 u3_3 = fixO (fun v : (Sq Bool) × Bool => ref01_From_l3_step u3_0 u3_1 v.1 v.2) (u3_2, u3_3) := ref01_From_l3_m.val_eq (fun x => ((sqD SPlace.dec (cellS x 0 0), sqD SRoad.dec (cellS x 0 1)), (sqB dO (blkS x 192), boolA (aget x.tm 6)))) (fun p => by kernel_rfl) ((u3_0, u3_1), (u3_2, u3_3))
noncomputable def ref01_From_t (m : SMine) (seen : Sq Bool) : DT ((Sq Bool)) :=
 .ite (decide (seen.n * 1 ≤ 140737488355328 ∧ seen.n ≤ 1099511627776)) (
 .sum (ref01_From_l3 m.Places m.Roads seen true) (fun y1 =>
 .leaf y1) (fun _ => .fail)) (
 .fail)
noncomputable def ref01_From_m : FnM := nfM (SMine × (Sq Bool)) ((Sq Bool)) (fun p => ([.agg (SMine.enc p.1), sqA 1 eO p.2], [])) (fun p => ref01_From_t p.1 p.2) (fun _ => .own 0 0) (fun _ r => [rowA 0 1 4 eO r])
noncomputable def ref01_From_env : Env := envM [] [(6, [2, 5, 6, 7], [2, 5, 6]), (3, [2, 5, 6], [5])] [(6, ref01_From_l6_m.c), (3, ref01_From_l3_m.c)] [] [(6, [0, 192]), (3, [0, 192])] 0
noncomputable def ref01_From_e : Env := { ref01_From_env with nt := 49 }
theorem ref01_From_l6_tells : LoopTells ref01_From_e (loopOf 6 Tryz.f52) ref01_From_l6_m.c := ref01_From_l6_m.tells 576 (fun _ => by kernel_rfl) (fun _ _ _ _ => by kernel_rfl) (fun _ _ _ _ => by kernel_rfl) fun R f v N K => by kernel_rfl
theorem ref01_From_l3_tells : LoopTells ref01_From_e (loopOf 3 Tryz.f52) ref01_From_l3_m.c := ref01_From_l3_m.tells 384 (fun _ => by kernel_rfl) (fun _ _ _ _ => by kernel_rfl) (fun _ _ _ _ => by kernel_rfl) fun R f v N K => by kernel_rfl
theorem ref01_From_tells : Tells Tryz.prog 52 ref01_From_m.c := ref01_From_m.tells Tryz.func52 (show ∀ p, arun ref01_From_env Tryz.f52 (ref01_From_m.enc p).1 (ref01_From_m.enc p).2 = _ from fun p => by kernel_rfl) (loopsL [loopOf 3 Tryz.f52, loopOf 6 Tryz.f52] (by kernel_rfl) ⟨lpT (by kernel_rfl) ref01_From_l3_tells, ⟨lpT (by kernel_rfl) ref01_From_l6_tells, trivial⟩⟩) .nil
noncomputable def ref01_From (m : SMine) (seen : Sq Bool) : Option ((Sq Bool)) := ref01_From_m.val (m, seen)
theorem ref01_From_eq (m : SMine) (seen : Sq Bool) : ref01_From m seen = (ref01_From_t m seen).get := ref01_From_m.val_eq (fun x => (SMine.dec (aggL (gd x.1 0)), sqD dO (gd x.1 1))) (fun p => by kernel_rfl) (m, seen)

/-! minecontrol/minecontrolref01.Airy -/
noncomputable def ref01_Airy_l3_step (u3_0 : Sq SPlace) (_u3_1 : Sq SRoad) (u3_2 : Sq Bool) (u3_3 : Int) : DT (LR ((Sq Bool) × Int) ((Sq Bool)) (Unit)) :=
 .ite (decide (u3_3 < ((u3_0.n : Nat) : Int))) (
 .ite (decide ((0 : Int) ≤ u3_3 ∧ u3_3 < ((u3_0.n : Nat) : Int))) (
 .ite (decide ((0 : Int) ≤ u3_3 ∧ u3_3 < ((u3_2.n : Nat) : Int))) (
 .leaf (.next ((Sq.mk u3_2.n (fun k0 => (cond (Nat.beq k0 (Int.toNat u3_3)) (u3_0.f (Int.toNat u3_3)).Surface (u3_2.f k0)))), (wr (u3_3 + (1 : Int)))))) (
 .fail)) (
 .fail)) (
 .leaf (.l u3_2))
noncomputable def ref01_Airy_l3_m : LpM := ⟨(Sq SPlace) × (Sq SRoad), (Sq Bool) × Int, (Sq Bool), Unit, fun p => ⟨[(1, .ptr 0 0), (3, .own 320 0), (4, .int .i64 p.2.2)], [(0, .var [sqA 2 SPlace.enc p.1.1, sqA 10 SRoad.enc p.1.2]), (320, rowA 0 1 4 eO p.2.1)], 512⟩, fun f v => ref01_Airy_l3_step f.1 f.2 v.1 v.2, true, (.exit 0), (fun x a => ⟨[(1, .ptr 0 0), (3, .own 320 0)], [(0, blkS x 0), (320, rowA 0 1 4 eO a)], 512⟩), .ret, (fun _ _ => ⟨[], [], 0⟩), c1, c1k⟩
noncomputable def ref01_Airy_l3 (u3_0 : Sq SPlace) (u3_1 : Sq SRoad) (u3_2 : Sq Bool) (u3_3 : Int) : Option (((Sq Bool)) ⊕ (Unit)) := ref01_Airy_l3_m.val ((u3_0, u3_1), (u3_2, u3_3))
theorem ref01_Airy_l3_eq (u3_0 : Sq SPlace) (u3_1 : Sq SRoad) (u3_2 : Sq Bool) (u3_3 : Int) : ref01_Airy_l3 u3_0 u3_1 u3_2 u3_3 = fixO (fun v : (Sq Bool) × Int => ref01_Airy_l3_step u3_0 u3_1 v.1 v.2) (u3_2, u3_3) := ref01_Airy_l3_m.val_eq (fun x => ((sqD SPlace.dec (cellS x 0 0), sqD SRoad.dec (cellS x 0 1)), (sqB dO (blkS x 320), intA (aget x.tm 4)))) (fun p => by kernel_rfl) ((u3_0, u3_1), (u3_2, u3_3))
noncomputable def ref01_Airy_t (m : SMine) : DT ((Sq Bool)) :=
 .ite (decide ((0 : Int) ≤ ((m.Places.n : Nat) : Int) ∧ ((m.Places.n : Nat) : Int) ≤ ((m.Places.n : Nat) : Int) ∧ ((m.Places.n : Nat) : Int) * ((1 : Nat) : Int) ≤ 140737488355328 ∧ ((m.Places.n : Nat) : Int) ≤ 1099511627776)) (
 .sum (ref01_Airy_l3 m.Places m.Roads (Sq.mk (Int.toNat ((m.Places.n : Nat) : Int)) (fun _ => false)) (0 : Int)) (fun y0 =>
 .bind (ref01_From m y0) fun z0 =>
 .leaf z0) (fun _ => .fail)) (
 .fail)
noncomputable def ref01_Airy_m : FnM := nfM (SMine) ((Sq Bool)) (fun p => ([.agg (SMine.enc p)], [])) (fun p => ref01_Airy_t p) (fun _ => .own 0 0) (fun _ r => [rowA 0 1 4 eO r])
noncomputable def ref01_Airy_env : Env := envM [(52, ref01_From_m.c)] [(3, [1, 3, 4], [1, 3])] [(3, ref01_Airy_l3_m.c)] [(6, [.freeze 320])] [(3, [0, 320])] 0
noncomputable def ref01_Airy_e : Env := { ref01_Airy_env with nt := 28 }
theorem ref01_Airy_l3_tells : LoopTells ref01_Airy_e (loopOf 3 Tryz.f19) ref01_Airy_l3_m.c := ref01_Airy_l3_m.tells 512 (fun _ => by kernel_rfl) (fun _ _ _ _ => by kernel_rfl) (fun _ _ _ _ => by kernel_rfl) fun R f v N K => by kernel_rfl
theorem ref01_Airy_tells : Tells Tryz.prog 19 ref01_Airy_m.c := ref01_Airy_m.tells Tryz.func19 (show ∀ p, arun ref01_Airy_env Tryz.f19 (ref01_Airy_m.enc p).1 (ref01_Airy_m.enc p).2 = _ from fun p => by kernel_rfl) (loopsL [loopOf 3 Tryz.f19] (by kernel_rfl) ⟨lpT (by kernel_rfl) ref01_Airy_l3_tells, trivial⟩) (.cons ref01_From_tells .nil)
noncomputable def ref01_Airy (m : SMine) : Option ((Sq Bool)) := ref01_Airy_m.val m
theorem ref01_Airy_eq (m : SMine) : ref01_Airy m = (ref01_Airy_t m).get := ref01_Airy_m.val_eq (fun x => SMine.dec (aggL (gd x.1 0))) (fun p => by kernel_rfl) m

/-! minecontrol/minecontrolref11.Fixed -/
noncomputable def ref11_Fixed_l3_step (u3_0 : Sq SPlace) (_u3_1 : Sq SRoad) (u3_2 : Sq Bool) (u3_3 : Int) : DT (LR ((Sq Bool) × Int) ((Sq Bool)) (Unit)) :=
 .ite (decide (u3_3 < ((u3_2.n : Nat) : Int))) (
 .ite (decide ((0 : Int) ≤ u3_3 ∧ u3_3 < ((u3_2.n : Nat) : Int))) (
 .ite (!(u3_2.f (Int.toNat u3_3))) (
 .ite (decide ((0 : Int) ≤ u3_3 ∧ u3_3 < ((u3_2.n : Nat) : Int))) (
 .leaf (.next ((Sq.mk u3_2.n (fun k0 => (cond (Nat.beq k0 (Int.toNat u3_3)) true (u3_2.f k0)))), (wr (u3_3 + (1 : Int)))))) (
 .fail)) (
 .ite (decide ((0 : Int) ≤ u3_3 ∧ u3_3 < ((u3_0.n : Nat) : Int))) (
 .ite (decide ((0 : Int) ≤ u3_3 ∧ u3_3 < ((u3_2.n : Nat) : Int))) (
 .leaf (.next ((Sq.mk u3_2.n (fun k1 => (cond (Nat.beq k1 (Int.toNat u3_3)) (u3_0.f (Int.toNat u3_3)).Surface (u3_2.f k1)))), (wr (u3_3 + (1 : Int)))))) (
 .fail)) (
 .fail))) (
 .fail)) (
 .leaf (.l u3_2))
noncomputable def ref11_Fixed_l3_m : LpM := ⟨(Sq SPlace) × (Sq SRoad), (Sq Bool) × Int, (Sq Bool), Unit, fun p => ⟨[(1, .ptr 0 0), (3, .own 192 0), (4, .int .i64 p.2.2)], [(0, .var [sqA 2 SPlace.enc p.1.1, sqA 10 SRoad.enc p.1.2]), (192, rowA 0 1 4 eO p.2.1)], 384⟩, fun f v => ref11_Fixed_l3_step f.1 f.2 v.1 v.2, true, (.exit 0), (fun x a => ⟨[(3, .own 192 0)], [(0, blkS x 0), (192, rowA 0 1 4 eO a)], 384⟩), .ret, (fun _ _ => ⟨[], [], 0⟩), c1, c1k⟩
noncomputable def ref11_Fixed_l3 (u3_0 : Sq SPlace) (u3_1 : Sq SRoad) (u3_2 : Sq Bool) (u3_3 : Int) : Option (((Sq Bool)) ⊕ (Unit)) := ref11_Fixed_l3_m.val ((u3_0, u3_1), (u3_2, u3_3))
theorem ref11_Fixed_l3_eq (u3_0 : Sq SPlace) (u3_1 : Sq SRoad) (u3_2 : Sq Bool) (u3_3 : Int) : ref11_Fixed_l3 u3_0 u3_1 u3_2 u3_3 = fixO (fun v : (Sq Bool) × Int => ref11_Fixed_l3_step u3_0 u3_1 v.1 v.2) (u3_2, u3_3) := ref11_Fixed_l3_m.val_eq (fun x => ((sqD SPlace.dec (cellS x 0 0), sqD SRoad.dec (cellS x 0 1)), (sqB dO (blkS x 192), intA (aget x.tm 4)))) (fun p => by kernel_rfl) ((u3_0, u3_1), (u3_2, u3_3))
noncomputable def ref11_Fixed_t (m : SMine) : DT ((Sq Bool)) :=
 .bind (ref01_Airy m) fun z0 =>
 .sum (ref11_Fixed_l3 m.Places m.Roads z0 (0 : Int)) (fun y0 =>
 .leaf y0) (fun _ => .fail)
noncomputable def ref11_Fixed_m : FnM := nfM (SMine) ((Sq Bool)) (fun p => ([.agg (SMine.enc p)], [])) (fun p => ref11_Fixed_t p) (fun _ => .own 0 0) (fun _ r => [rowA 0 1 4 eO r])
noncomputable def ref11_Fixed_env : Env := envM [(19, ref01_Airy_m.c)] [(3, [1, 3, 4], [3])] [(3, ref11_Fixed_l3_m.c)] [] [(3, [0, 192])] 0
noncomputable def ref11_Fixed_e : Env := { ref11_Fixed_env with nt := 30 }
theorem ref11_Fixed_l3_tells : LoopTells ref11_Fixed_e (loopOf 3 Tryz.f38) ref11_Fixed_l3_m.c := ref11_Fixed_l3_m.tells 384 (fun _ => by kernel_rfl) (fun _ _ _ _ => by kernel_rfl) (fun _ _ _ _ => by kernel_rfl) fun R f v N K => by kernel_rfl
theorem ref11_Fixed_tells : Tells Tryz.prog 38 ref11_Fixed_m.c := ref11_Fixed_m.tells Tryz.func38 (show ∀ p, arun ref11_Fixed_env Tryz.f38 (ref11_Fixed_m.enc p).1 (ref11_Fixed_m.enc p).2 = _ from fun p => by kernel_rfl) (loopsL [loopOf 3 Tryz.f38] (by kernel_rfl) ⟨lpT (by kernel_rfl) ref11_Fixed_l3_tells, trivial⟩) (.cons ref01_Airy_tells .nil)
noncomputable def ref11_Fixed (m : SMine) : Option ((Sq Bool)) := ref11_Fixed_m.val m
theorem ref11_Fixed_eq (m : SMine) : ref11_Fixed m = (ref11_Fixed_t m).get := ref11_Fixed_m.val_eq (fun x => SMine.dec (aggL (gd x.1 0))) (fun p => by kernel_rfl) m

/-! minecontrol/certify.tooGreat -/
noncomputable def certify_tooGreat_t (pressure : Int) : DT (Bool) :=
 .ite (decide (pressure < (-70368744177664 : Int))) (.leaf true) (.leaf (decide (pressure > (70368744177664 : Int))))
noncomputable def certify_tooGreat_m : FnM := flM (Int) (Bool) (fun p => ([.int .i64 p], [])) (fun p => certify_tooGreat_t p) (fun r => .bool r) (fun _ => rfl)
noncomputable def certify_tooGreat_env : Env := envM [] [] [] [] [] 0
theorem certify_tooGreat_tells : Tells Tryz.prog 33 certify_tooGreat_m.c := certify_tooGreat_m.tells Tryz.func33 (show ∀ p, arun certify_tooGreat_env Tryz.f33 (certify_tooGreat_m.enc p).1 (certify_tooGreat_m.enc p).2 = _ from fun p => by kernel_rfl) noLoops .nil
noncomputable def certify_tooGreat (pressure : Int) : Option (Bool) := certify_tooGreat_m.val pressure
theorem certify_tooGreat_eq (pressure : Int) : certify_tooGreat pressure = (certify_tooGreat_t pressure).get := certify_tooGreat_m.val_eq (fun x => intA (gd x.1 0)) (fun p => by kernel_rfl) pressure

/-! slices.IndexFunc[[]int,int] -/
noncomputable def slices_IndexFunc_odd_l2_step (u2_0 : Sq Int) (u2_2 : Int) : DT (LR (Int) (Unit) (Int)) :=
 .ite (decide (u2_2 < ((u2_0.n : Nat) : Int))) (
 .ite (decide ((0 : Int) ≤ u2_2 ∧ u2_2 < ((u2_0.n : Nat) : Int))) (
 .bind (certify_tooGreat (u2_0.f (Int.toNat u2_2))) fun z0 =>
 .ite z0 (
 .leaf (.r u2_2)) (
 .leaf (.next (wr (u2_2 + (1 : Int)))))) (
 .fail)) (
 .leaf (.l ()))
noncomputable def slices_IndexFunc_odd_l2_m : LpM := ⟨(Sq Int), Int, Unit, Int, fun p => ⟨[(0, sqA 1 (eI .i64) p.1), (1, .fn 33 []), (7, .int .i64 ((p.1.n : Nat) : Int)), (8, .int .i64 p.2)], [], 256⟩, fun f v => slices_IndexFunc_odd_l2_step f v, false, (.exit 0), (fun _ _ => ⟨[(4, .undef)], [], 256⟩), .ret, (fun _ a => ⟨[(4, .int .i64 a)], [], 256⟩), c1, c1k⟩
noncomputable def slices_IndexFunc_odd_l2 (u2_0 : Sq Int) (u2_2 : Int) : Option ((Unit) ⊕ (Int)) := slices_IndexFunc_odd_l2_m.val (u2_0, u2_2)
theorem slices_IndexFunc_odd_l2_eq (u2_0 : Sq Int) (u2_2 : Int) : slices_IndexFunc_odd_l2 u2_0 u2_2 = fixO (fun v : Int => slices_IndexFunc_odd_l2_step u2_0 v) u2_2 := slices_IndexFunc_odd_l2_m.val_eq (fun x => (sqD dI (aget x.tm 0), intA (aget x.tm 8))) (fun p => by kernel_rfl) (u2_0, u2_2)
noncomputable def slices_IndexFunc_odd_t (s : Sq Int) : DT (Int) :=
 .sum (slices_IndexFunc_odd_l2 s (0 : Int)) (fun _ =>
 .leaf (-1 : Int)) (fun y0 => .leaf y0)
noncomputable def slices_IndexFunc_odd_m : FnM := flM ((Sq Int)) (Int) (fun p => ([sqA 1 (eI .i64) p, .fn 33 []], [])) (fun p => slices_IndexFunc_odd_t p) (fun r => .int .i64 r) (fun _ => rfl)
noncomputable def slices_IndexFunc_odd_env : Env := envM [(33, certify_tooGreat_m.c)] [(2, [0, 1, 7, 8], [4])] [(2, slices_IndexFunc_odd_l2_m.c)] [] [(2, [])] 0
noncomputable def slices_IndexFunc_odd_e : Env := { slices_IndexFunc_odd_env with nt := 19 }
theorem slices_IndexFunc_odd_l2_tells : LoopTells slices_IndexFunc_odd_e (loopOf 2 Tryz.f64) slices_IndexFunc_odd_l2_m.c := slices_IndexFunc_odd_l2_m.tells 256 (fun _ => by kernel_rfl) (fun _ _ _ _ => by kernel_rfl) (fun _ _ _ _ => by kernel_rfl) fun R f v N K => by kernel_rfl
theorem slices_IndexFunc_odd_tells : Tells Tryz.prog 64 slices_IndexFunc_odd_m.c := slices_IndexFunc_odd_m.tells Tryz.func64 (show ∀ p, arun slices_IndexFunc_odd_env Tryz.f64 (slices_IndexFunc_odd_m.enc p).1 (slices_IndexFunc_odd_m.enc p).2 = _ from fun p => by kernel_rfl) (loopsL [loopOf 2 Tryz.f64] (by kernel_rfl) ⟨lpT (by kernel_rfl) slices_IndexFunc_odd_l2_tells, trivial⟩) (.cons certify_tooGreat_tells .nil)
noncomputable def slices_IndexFunc_odd (s : Sq Int) : Option (Int) := slices_IndexFunc_odd_m.val s
theorem slices_IndexFunc_odd_eq (s : Sq Int) : slices_IndexFunc_odd s = (slices_IndexFunc_odd_t s).get := slices_IndexFunc_odd_m.val_eq (fun x => sqD dI (gd x.1 0)) (fun p => by kernel_rfl) s

/-! slices.ContainsFunc[[]int,int] -/
noncomputable def slices_ContainsFunc_odd_t (s : Sq Int) : DT (Bool) :=
 .bind (slices_IndexFunc_odd s) fun z0 =>
 .leaf (decide (z0 ≥ (0 : Int)))
noncomputable def slices_ContainsFunc_odd_m : FnM := flM ((Sq Int)) (Bool) (fun p => ([sqA 1 (eI .i64) p, .fn 33 []], [])) (fun p => slices_ContainsFunc_odd_t p) (fun r => .bool r) (fun _ => rfl)
noncomputable def slices_ContainsFunc_odd_env : Env := envM [(64, slices_IndexFunc_odd_m.c)] [] [] [] [] 0
theorem slices_ContainsFunc_odd_tells : Tells Tryz.prog 32 slices_ContainsFunc_odd_m.c := slices_ContainsFunc_odd_m.tells Tryz.func32 (show ∀ p, arun slices_ContainsFunc_odd_env Tryz.f32 (slices_ContainsFunc_odd_m.enc p).1 (slices_ContainsFunc_odd_m.enc p).2 = _ from fun p => by kernel_rfl) noLoops (.cons slices_IndexFunc_odd_tells .nil)
noncomputable def slices_ContainsFunc_odd (s : Sq Int) : Option (Bool) := slices_ContainsFunc_odd_m.val s
theorem slices_ContainsFunc_odd_eq (s : Sq Int) : slices_ContainsFunc_odd s = (slices_ContainsFunc_odd_t s).get := slices_ContainsFunc_odd_m.val_eq (fun x => sqD dI (gd x.1 0)) (fun p => by kernel_rfl) s

/-! minecontrol/certify.proved -/
noncomputable def certify_proved_l3_step (u3_0 : Sq SPlace) (u3_2 : Sq SRoad) (u3_3 : Sq SFan) (u3_4 : Sq SDoor) (u3_5 u3_6 u3_7 u3_8 u3_9 : Sq Int) (u3_10 : Int) : DT (LR (Int) (Unit) (Unit)) :=
 .ite (decide (u3_10 < ((u3_0.n : Nat) : Int))) (
 .ite (decide ((0 : Int) ≤ u3_10 ∧ u3_10 < ((u3_0.n : Nat) : Int))) (
 .ite (u3_0.f (Int.toNat u3_10)).Surface (
 .ite (decide ((0 : Int) ≤ u3_10 ∧ u3_10 < ((u3_7.n : Nat) : Int))) (
 .ite ((u3_7.f (Int.toNat u3_10)) != (0 : Int)) (
 .leaf (.r ())) (
 .ite (decide ((0 : Int) ≤ u3_10 ∧ u3_10 < ((u3_8.n : Nat) : Int))) (
 .ite ((u3_8.f (Int.toNat u3_10)) != (0 : Int)) (
 .leaf (.r ())) (
 .leaf (.next (wr (u3_10 + (1 : Int)))))) (
 .fail))) (
 .fail)) (
 .bind (slices_Contains u3_9 u3_10) fun z0 =>
 .ite z0 (
 .ite (decide ((0 : Int) ≤ u3_10 ∧ u3_10 < ((u3_7.n : Nat) : Int))) (
 .ite ((u3_7.f (Int.toNat u3_10)) != (0 : Int)) (
 .leaf (.r ())) (
 .ite (decide ((0 : Int) ≤ u3_10 ∧ u3_10 < ((u3_8.n : Nat) : Int))) (
 .ite ((u3_8.f (Int.toNat u3_10)) != (0 : Int)) (
 .leaf (.r ())) (
 .leaf (.next (wr (u3_10 + (1 : Int)))))) (
 .fail))) (
 .fail)) (
 .bind (balance_Net (SAir.mk (SMine.mk u3_0 u3_2) u3_3 u3_4) (SSetting.mk u3_5 u3_6) u3_8 u3_10) fun z1 =>
 .ite (decide (z1.Low < (0 : Int))) (
 .leaf (.r ())) (
 .bind (balance_Net (SAir.mk (SMine.mk u3_0 u3_2) u3_3 u3_4) (SSetting.mk u3_5 u3_6) u3_7 u3_10) fun z2 =>
 .ite (decide (z2.High > (0 : Int))) (
 .leaf (.r ())) (
 .leaf (.next (wr (u3_10 + (1 : Int))))))))) (
 .fail)) (
 .leaf (.l ()))
noncomputable def certify_proved_l3_m : LpM := ⟨(Sq SPlace) × (Sq SRoad) × (Sq SFan) × (Sq SDoor) × (Sq Int) × (Sq Int) × (Sq Int) × (Sq Int) × (Sq Int), Int, Unit, Unit, fun p => ⟨[(3, .ptr 0 0), (4, .ptr 64 0), (5, .ptr 128 0), (7, .own 384 0), (15, sqA 2 SPlace.enc p.1.1), (16, .int .i64 ((p.1.1.n : Nat) : Int)), (17, .int .i64 p.2)], [(0, .var [sqA 2 SPlace.enc p.1.1, sqA 10 SRoad.enc p.1.2.1, sqA 4 SFan.enc p.1.2.2.1, sqA 3 SDoor.enc p.1.2.2.2.1]), (64, .var [sqA 1 (eI .i64) p.1.2.2.2.2.1, sqA 1 (eI .i64) p.1.2.2.2.2.2.1]), (128, .var [sqA 1 (eI .i64) p.1.2.2.2.2.2.2.1, sqA 1 (eI .i64) p.1.2.2.2.2.2.2.2.1]), (384, rowA 0 1 3 (eI .i64) p.1.2.2.2.2.2.2.2.2)], 832⟩, fun f v => certify_proved_l3_step f.1 f.2.1 f.2.2.1 f.2.2.2.1 f.2.2.2.2.1 f.2.2.2.2.2.1 f.2.2.2.2.2.2.1 f.2.2.2.2.2.2.2.1 f.2.2.2.2.2.2.2.2 v, false, (.exit 0), (fun x _ => ⟨[(6, .undef)], [(0, blkS x 0), (64, blkS x 64), (128, blkS x 128), (384, blkS x 384)], 832⟩), .ret, (fun x _ => ⟨[(6, .bool false)], [(0, blkS x 0), (64, blkS x 64), (128, blkS x 128), (384, blkS x 384)], 832⟩), c1, c1k⟩
noncomputable def certify_proved_l3 (u3_0 : Sq SPlace) (u3_2 : Sq SRoad) (u3_3 : Sq SFan) (u3_4 : Sq SDoor) (u3_5 u3_6 u3_7 u3_8 u3_9 : Sq Int) (u3_10 : Int) : Option ((Unit) ⊕ (Unit)) := certify_proved_l3_m.val ((u3_0, u3_2, u3_3, u3_4, u3_5, u3_6, u3_7, u3_8, u3_9), u3_10)
theorem certify_proved_l3_eq (u3_0 : Sq SPlace) (u3_2 : Sq SRoad) (u3_3 : Sq SFan) (u3_4 : Sq SDoor) (u3_5 u3_6 u3_7 u3_8 u3_9 : Sq Int) (u3_10 : Int) : certify_proved_l3 u3_0 u3_2 u3_3 u3_4 u3_5 u3_6 u3_7 u3_8 u3_9 u3_10 = fixO (fun v : Int => certify_proved_l3_step u3_0 u3_2 u3_3 u3_4 u3_5 u3_6 u3_7 u3_8 u3_9 v) u3_10 := certify_proved_l3_m.val_eq (fun x => ((sqD SPlace.dec (aget x.tm 15), sqD SRoad.dec (cellS x 0 1), sqD SFan.dec (cellS x 0 2), sqD SDoor.dec (cellS x 0 3), sqD dI (cellS x 64 0), sqD dI (cellS x 64 1), sqD dI (cellS x 128 0), sqD dI (cellS x 128 1), sqB dI (blkS x 384)), intA (aget x.tm 17))) (fun p => by kernel_rfl) ((u3_0, u3_2, u3_3, u3_4, u3_5, u3_6, u3_7, u3_8, u3_9), u3_10)
noncomputable def certify_proved_t (a : SAir) (s : SSetting) (b : SBounds) : DT (Bool) :=
 .bind (plan_CutOff a.Mine) fun z3 =>
 .sum (certify_proved_l3 a.Mine.Places a.Mine.Roads a.Fans a.Doors s.Fans s.Doors b.Low b.High z3 (0 : Int)) (fun _ =>
 .leaf true) (fun _ => .leaf false)
noncomputable def certify_proved_m : FnM := flM (SAir × SSetting × SBounds) (Bool) (fun p => ([.agg (SAir.enc p.1), .agg (SSetting.enc p.2.1), .agg (SBounds.enc p.2.2)], [])) (fun p => certify_proved_t p.1 p.2.1 p.2.2) (fun r => .bool r) (fun _ => rfl)
noncomputable def certify_proved_env : Env := envM [(41, plan_CutOff_m.c), (42, slices_Contains_m.c), (21, balance_Net_m.c)] [(3, [3, 4, 5, 7, 15, 16, 17], [6])] [(3, certify_proved_l3_m.c)] [] [(3, [0, 64, 128, 384])] 0
noncomputable def certify_proved_e : Env := { certify_proved_env with nt := 62 }
theorem certify_proved_l3_tells : LoopTells certify_proved_e (loopOf 3 Tryz.f34) certify_proved_l3_m.c := certify_proved_l3_m.tells 832 (fun _ => by kernel_rfl) (fun _ _ _ _ => by kernel_rfl) (fun _ _ _ _ => by kernel_rfl) fun R f v N K => by kernel_rfl
theorem certify_proved_tells : Tells Tryz.prog 34 certify_proved_m.c := certify_proved_m.tells Tryz.func34 (show ∀ p, arun certify_proved_env Tryz.f34 (certify_proved_m.enc p).1 (certify_proved_m.enc p).2 = _ from fun p => by kernel_rfl) (loopsL [loopOf 3 Tryz.f34] (by kernel_rfl) ⟨lpT (by kernel_rfl) certify_proved_l3_tells, trivial⟩) (.cons plan_CutOff_tells (.cons slices_Contains_tells (.cons balance_Net_tells .nil)))
noncomputable def certify_proved (a : SAir) (s : SSetting) (b : SBounds) : Option (Bool) := certify_proved_m.val (a, s, b)
theorem certify_proved_eq (a : SAir) (s : SSetting) (b : SBounds) : certify_proved a s b = (certify_proved_t a s b).get := certify_proved_m.val_eq (fun x => (SAir.dec (aggL (gd x.1 0)), SSetting.dec (aggL (gd x.1 1)), SBounds.dec (aggL (gd x.1 2)))) (fun p => by kernel_rfl) (a, s, b)

/-! minecontrol/certify.Check -/
noncomputable def certify_Check_t (a : SAir) (s : SSetting) (b : SBounds) : DT (Int) :=
 .bind (branch_Check a) fun z0 =>
 .ite (z0 != (0 : Int)) (
 .leaf z0) (
 .bind (branch_Right a s) fun z1 =>
 .ite (!z1) (
 .leaf (21 : Int)) (
 .ite (((b.Low.n : Nat) : Int) != ((a.Mine.Places.n : Nat) : Int)) (
 .leaf (11 : Int)) (
 .ite (((b.High.n : Nat) : Int) != ((a.Mine.Places.n : Nat) : Int)) (
 .leaf (11 : Int)) (
 .bind (slices_ContainsFunc_odd b.Low) fun z2 =>
 .ite z2 (
 .leaf (1 : Int)) (
 .bind (slices_ContainsFunc_odd b.High) fun z3 =>
 .ite z3 (
 .leaf (1 : Int)) (
 .bind (certify_proved a s b) fun z4 =>
 .ite (!z4) (.leaf (12 : Int)) (.leaf (0 : Int))))))))
noncomputable def certify_Check_m : FnM := flM (SAir × SSetting × SBounds) (Int) (fun p => ([.agg (SAir.enc p.1), .agg (SSetting.enc p.2.1), .agg (SBounds.enc p.2.2)], [])) (fun p => certify_Check_t p.1 p.2.1 p.2.2) (fun r => .int .i64 r) (fun _ => rfl)
noncomputable def certify_Check_env : Env := envM [(30, branch_Check_m.c), (31, branch_Right_m.c), (32, slices_ContainsFunc_odd_m.c), (34, certify_proved_m.c)] [] [] [] [] 0
theorem certify_Check_tells : Tells Tryz.prog 12 certify_Check_m.c := certify_Check_m.tells Tryz.func12 (show ∀ p, arun certify_Check_env Tryz.f12 (certify_Check_m.enc p).1 (certify_Check_m.enc p).2 = _ from fun p => by kernel_rfl) noLoops (.cons branch_Check_tells (.cons branch_Right_tells (.cons slices_ContainsFunc_odd_tells (.cons certify_proved_tells .nil))))
noncomputable def certify_Check (a : SAir) (s : SSetting) (b : SBounds) : Option (Int) := certify_Check_m.val (a, s, b)
theorem certify_Check_eq (a : SAir) (s : SSetting) (b : SBounds) : certify_Check a s b = (certify_Check_t a s b).get := certify_Check_m.val_eq (fun x => (SAir.dec (aggL (gd x.1 0)), SSetting.dec (aggL (gd x.1 1)), SBounds.dec (aggL (gd x.1 2)))) (fun p => by kernel_rfl) (a, s, b)

/-! minecontrol/minecontrolref11.Check -/
noncomputable def ref11_Check_l13_step (u13_1 : Sq SPlace) (u13_2 : Sq SRoad) (u13_3 : Sq SFan) (u13_4 : Sq SDoor) (u13_5 u13_6 u13_7 u13_8 : Sq Int) (u13_9 : Sq Bool) (u13_10 : Int) : DT (LR (Int) (Unit) (Unit)) :=
 .ite (decide (u13_10 < ((u13_1.n : Nat) : Int))) (
 .ite (decide ((0 : Int) ≤ u13_10 ∧ u13_10 < ((u13_9.n : Nat) : Int))) (
 .ite (u13_9.f (Int.toNat u13_10)) (
 .ite (decide ((0 : Int) ≤ u13_10 ∧ u13_10 < ((u13_7.n : Nat) : Int))) (
 .ite ((u13_7.f (Int.toNat u13_10)) != (0 : Int)) (
 .leaf (.r ())) (
 .ite (decide ((0 : Int) ≤ u13_10 ∧ u13_10 < ((u13_8.n : Nat) : Int))) (
 .ite ((u13_8.f (Int.toNat u13_10)) != (0 : Int)) (
 .leaf (.r ())) (
 .leaf (.next (wr (u13_10 + (1 : Int)))))) (
 .fail))) (
 .fail)) (
 .bind (ref10_Lowest (SAir.mk (SMine.mk u13_1 u13_2) u13_3 u13_4) (SSetting.mk u13_5 u13_6) u13_8 u13_10) fun z0 =>
 .ite (decide (z0 < (0 : Int))) (
 .leaf (.r ())) (
 .bind (ref10_Highest (SAir.mk (SMine.mk u13_1 u13_2) u13_3 u13_4) (SSetting.mk u13_5 u13_6) u13_7 u13_10) fun z1 =>
 .ite (decide (z1 > (0 : Int))) (
 .leaf (.r ())) (
 .leaf (.next (wr (u13_10 + (1 : Int)))))))) (
 .fail)) (
 .leaf (.l ()))
noncomputable def ref11_Check_l13_m : LpM := ⟨(Sq SPlace) × (Sq SRoad) × (Sq SFan) × (Sq SDoor) × (Sq Int) × (Sq Int) × (Sq Int) × (Sq Int) × (Sq Bool), Int, Unit, Unit, fun p => ⟨[(3, .ptr 0 0), (4, .ptr 64 0), (5, .ptr 128 0), (8, .int .i64 ((p.1.1.n : Nat) : Int)), (9, .own 3008 0), (10, .int .i64 p.2)], [(0, .var [sqA 2 SPlace.enc p.1.1, sqA 10 SRoad.enc p.1.2.1, sqA 4 SFan.enc p.1.2.2.1, sqA 3 SDoor.enc p.1.2.2.2.1]), (64, .var [sqA 1 (eI .i64) p.1.2.2.2.2.1, sqA 1 (eI .i64) p.1.2.2.2.2.2.1]), (128, .var [sqA 1 (eI .i64) p.1.2.2.2.2.2.2.1, sqA 1 (eI .i64) p.1.2.2.2.2.2.2.2.1]), (3008, rowA 0 1 4 eO p.1.2.2.2.2.2.2.2.2)], 3200⟩, fun f v => ref11_Check_l13_step f.1 f.2.1 f.2.2.1 f.2.2.2.1 f.2.2.2.2.1 f.2.2.2.2.2.1 f.2.2.2.2.2.2.1 f.2.2.2.2.2.2.2.1 f.2.2.2.2.2.2.2.2 v, false, (.exit 0), (fun x _ => ⟨[(6, .undef)], [(0, blkS x 0), (64, blkS x 64), (128, blkS x 128), (3008, blkS x 3008)], 3200⟩), .ret, (fun x _ => ⟨[(6, .int .i64 (12 : Int))], [(0, blkS x 0), (64, blkS x 64), (128, blkS x 128), (3008, blkS x 3008)], 3200⟩), c1, c1k⟩
noncomputable def ref11_Check_l13 (u13_1 : Sq SPlace) (u13_2 : Sq SRoad) (u13_3 : Sq SFan) (u13_4 : Sq SDoor) (u13_5 u13_6 u13_7 u13_8 : Sq Int) (u13_9 : Sq Bool) (u13_10 : Int) : Option ((Unit) ⊕ (Unit)) := ref11_Check_l13_m.val ((u13_1, u13_2, u13_3, u13_4, u13_5, u13_6, u13_7, u13_8, u13_9), u13_10)
theorem ref11_Check_l13_eq (u13_1 : Sq SPlace) (u13_2 : Sq SRoad) (u13_3 : Sq SFan) (u13_4 : Sq SDoor) (u13_5 u13_6 u13_7 u13_8 : Sq Int) (u13_9 : Sq Bool) (u13_10 : Int) : ref11_Check_l13 u13_1 u13_2 u13_3 u13_4 u13_5 u13_6 u13_7 u13_8 u13_9 u13_10 = fixO (fun v : Int => ref11_Check_l13_step u13_1 u13_2 u13_3 u13_4 u13_5 u13_6 u13_7 u13_8 u13_9 v) u13_10 := ref11_Check_l13_m.val_eq (fun x => ((sqD SPlace.dec (cellS x 0 0), sqD SRoad.dec (cellS x 0 1), sqD SFan.dec (cellS x 0 2), sqD SDoor.dec (cellS x 0 3), sqD dI (cellS x 64 0), sqD dI (cellS x 64 1), sqD dI (cellS x 128 0), sqD dI (cellS x 128 1), sqB dO (blkS x 3008)), intA (aget x.tm 10))) (fun p => by kernel_rfl) ((u13_1, u13_2, u13_3, u13_4, u13_5, u13_6, u13_7, u13_8, u13_9), u13_10)
noncomputable def ref11_Check_t (a : SAir) (s : SSetting) (b : SBounds) : DT (Int) :=
 .bind (ref09_Check a) fun z2 =>
 .ite (z2 != (0 : Int)) (
 .leaf z2) (
 .bind (ref09_Right a s) fun z3 =>
 .ite (!z3) (
 .leaf (21 : Int)) (
 .ite (((b.Low.n : Nat) : Int) != ((a.Mine.Places.n : Nat) : Int)) (
 .leaf (11 : Int)) (
 .ite (((b.High.n : Nat) : Int) != ((a.Mine.Places.n : Nat) : Int)) (
 .leaf (11 : Int)) (
 .bind (ref11_Ranged b.Low) fun z4 =>
 .ite (!z4) (
 .leaf (1 : Int)) (
 .bind (ref11_Ranged b.High) fun z5 =>
 .ite (!z5) (
 .leaf (1 : Int)) (
 .bind (ref11_Fixed a.Mine) fun z6 =>
 .sum (ref11_Check_l13 a.Mine.Places a.Mine.Roads a.Fans a.Doors s.Fans s.Doors b.Low b.High z6 (0 : Int)) (fun _ =>
 .leaf (0 : Int)) (fun _ => .leaf (12 : Int))))))))
noncomputable def ref11_Check_m : FnM := flM (SAir × SSetting × SBounds) (Int) (fun p => ([.agg (SAir.enc p.1), .agg (SSetting.enc p.2.1), .agg (SBounds.enc p.2.2)], [])) (fun p => ref11_Check_t p.1 p.2.1 p.2.2) (fun r => .int .i64 r) (fun _ => rfl)
noncomputable def ref11_Check_env : Env := envM [(35, ref09_Check_m.c), (36, ref09_Right_m.c), (37, ref11_Ranged_m.c), (38, ref11_Fixed_m.c), (39, ref10_Lowest_m.c), (40, ref10_Highest_m.c)] [(13, [3, 4, 5, 8, 9, 10], [6])] [(13, ref11_Check_l13_m.c)] [] [(13, [0, 64, 128, 3008])] 0
noncomputable def ref11_Check_e : Env := { ref11_Check_env with nt := 88 }
theorem ref11_Check_l13_tells : LoopTells ref11_Check_e (loopOf 13 Tryz.f13) ref11_Check_l13_m.c := ref11_Check_l13_m.tells 3200 (fun _ => by kernel_rfl) (fun _ _ _ _ => by kernel_rfl) (fun _ _ _ _ => by kernel_rfl) fun R f v N K => by kernel_rfl
theorem ref11_Check_tells : Tells Tryz.prog 13 ref11_Check_m.c := ref11_Check_m.tells Tryz.func13 (show ∀ p, arun ref11_Check_env Tryz.f13 (ref11_Check_m.enc p).1 (ref11_Check_m.enc p).2 = _ from fun p => by kernel_rfl) (loopsL [loopOf 13 Tryz.f13] (by kernel_rfl) ⟨lpT (by kernel_rfl) ref11_Check_l13_tells, trivial⟩) (.cons ref09_Check_tells (.cons ref09_Right_tells (.cons ref11_Ranged_tells (.cons ref11_Fixed_tells (.cons ref10_Lowest_tells (.cons ref10_Highest_tells .nil))))))
noncomputable def ref11_Check (a : SAir) (s : SSetting) (b : SBounds) : Option (Int) := ref11_Check_m.val (a, s, b)
theorem ref11_Check_eq (a : SAir) (s : SSetting) (b : SBounds) : ref11_Check a s b = (ref11_Check_t a s b).get := ref11_Check_m.val_eq (fun x => (SAir.dec (aggL (gd x.1 0)), SSetting.dec (aggL (gd x.1 1)), SBounds.dec (aggL (gd x.1 2)))) (fun p => by kernel_rfl) (a, s, b)

/-! minecontrol/certify.flow -/
noncomputable def certify_flow_t (a : SAir) (s : SSetting) (b : SBounds) (road : Int) : DT (SSpan) :=
 .ite (decide ((0 : Int) ≤ road ∧ road < ((a.Mine.Roads.n : Nat) : Int))) (
 .ite (decide ((0 : Int) ≤ (a.Mine.Roads.f (Int.toNat road)).From ∧ (a.Mine.Roads.f (Int.toNat road)).From < ((b.Low.n : Nat) : Int))) (
 .ite (decide ((0 : Int) ≤ (a.Mine.Roads.f (Int.toNat road)).To ∧ (a.Mine.Roads.f (Int.toNat road)).To < ((b.High.n : Nat) : Int))) (
 .bind (branch_Flow a s road (wr ((b.Low.f (Int.toNat (a.Mine.Roads.f (Int.toNat road)).From)) - (b.High.f (Int.toNat (a.Mine.Roads.f (Int.toNat road)).To))))) fun z0 =>
 .ite (decide ((0 : Int) ≤ (a.Mine.Roads.f (Int.toNat road)).From ∧ (a.Mine.Roads.f (Int.toNat road)).From < ((b.High.n : Nat) : Int))) (
 .ite (decide ((0 : Int) ≤ (a.Mine.Roads.f (Int.toNat road)).To ∧ (a.Mine.Roads.f (Int.toNat road)).To < ((b.Low.n : Nat) : Int))) (
 .bind (branch_Flow a s road (wr ((b.High.f (Int.toNat (a.Mine.Roads.f (Int.toNat road)).From)) - (b.Low.f (Int.toNat (a.Mine.Roads.f (Int.toNat road)).To))))) fun z1 =>
 .leaf (SSpan.mk z0.Low z1.High)) (
 .fail)) (
 .fail)) (
 .fail)) (
 .fail)) (
 .fail)
noncomputable def certify_flow_m : FnM := flM (SAir × SSetting × SBounds × Int) (SSpan) (fun p => ([.agg (SAir.enc p.1), .agg (SSetting.enc p.2.1), .agg (SBounds.enc p.2.2.1), .int .i64 p.2.2.2], [])) (fun p => certify_flow_t p.1 p.2.1 p.2.2.1 p.2.2.2) (fun r => .agg (SSpan.enc r)) (fun _ => rfl)
noncomputable def certify_flow_env : Env := envM [(72, branch_Flow_m.c)] [] [] [] [] 0
theorem certify_flow_tells : Tells Tryz.prog 43 certify_flow_m.c := certify_flow_m.tells Tryz.func43 (show ∀ p, arun certify_flow_env Tryz.f43 (certify_flow_m.enc p).1 (certify_flow_m.enc p).2 = _ from fun p => by kernel_rfl) noLoops (.cons branch_Flow_tells .nil)
noncomputable def certify_flow (a : SAir) (s : SSetting) (b : SBounds) (road : Int) : Option (SSpan) := certify_flow_m.val (a, s, b, road)
theorem certify_flow_eq (a : SAir) (s : SSetting) (b : SBounds) (road : Int) : certify_flow a s b road = (certify_flow_t a s b road).get := certify_flow_m.val_eq (fun x => (SAir.dec (aggL (gd x.1 0)), SSetting.dec (aggL (gd x.1 1)), SBounds.dec (aggL (gd x.1 2)), intA (gd x.1 3))) (fun p => by kernel_rfl) (a, s, b, road)

/-! minecontrol/certify.Flows -/
noncomputable def certify_Flows_l6_step (u6_0 : Sq SRoad) (u6_2 : Sq SPlace) (u6_3 : Sq SFan) (u6_4 : Sq SDoor) (u6_5 u6_6 u6_7 u6_8 u6_9 : Sq Int) (u6_10 : Sq SSpan) (u6_11 : Int) : DT (LR ((Sq SSpan) × Int) ((Sq SSpan)) (Unit)) :=
 .ite (decide (u6_11 < ((u6_0.n : Nat) : Int))) (
 .ite (decide ((0 : Int) ≤ u6_11 ∧ u6_11 < ((u6_0.n : Nat) : Int))) (
 .ite (u6_0.f (Int.toNat u6_11)).Closed (
 .ite (decide ((0 : Int) ≤ u6_11 ∧ u6_11 < ((u6_10.n : Nat) : Int))) (
 .leaf (.next ((Sq.mk u6_10.n (fun k0 => (SSpan.mk (cond (Nat.beq k0 (Int.toNat u6_11)) (0 : Int) (u6_10.f k0).Low) (cond (Nat.beq k0 (Int.toNat u6_11)) (0 : Int) (u6_10.f k0).High)))), (wr (u6_11 + (1 : Int)))))) (
 .fail)) (
 .bind (slices_Contains u6_9 (u6_0.f (Int.toNat u6_11)).From) fun z0 =>
 .ite z0 (
 .ite (decide ((0 : Int) ≤ u6_11 ∧ u6_11 < ((u6_10.n : Nat) : Int))) (
 .leaf (.next ((Sq.mk u6_10.n (fun k1 => (SSpan.mk (cond (Nat.beq k1 (Int.toNat u6_11)) (-1125899906842624 : Int) (u6_10.f k1).Low) (cond (Nat.beq k1 (Int.toNat u6_11)) (1125899906842624 : Int) (u6_10.f k1).High)))), (wr (u6_11 + (1 : Int)))))) (
 .fail)) (
 .bind (certify_flow (SAir.mk (SMine.mk u6_2 u6_0) u6_3 u6_4) (SSetting.mk u6_5 u6_6) (SBounds.mk u6_7 u6_8) u6_11) fun z1 =>
 .ite (decide ((0 : Int) ≤ u6_11 ∧ u6_11 < ((u6_10.n : Nat) : Int))) (
 .leaf (.next ((Sq.mk u6_10.n (fun k2 => (SSpan.mk (cond (Nat.beq k2 (Int.toNat u6_11)) z1.Low (u6_10.f k2).Low) (cond (Nat.beq k2 (Int.toNat u6_11)) z1.High (u6_10.f k2).High)))), (wr (u6_11 + (1 : Int)))))) (
 .fail)))) (
 .fail)) (
 .leaf (.l u6_10))
noncomputable def certify_Flows_l6_m : LpM := ⟨(Sq SRoad) × (Sq SPlace) × (Sq SFan) × (Sq SDoor) × (Sq Int) × (Sq Int) × (Sq Int) × (Sq Int) × (Sq Int), (Sq SSpan) × Int, (Sq SSpan), Unit, fun p => ⟨[(3, .ptr 0 0), (4, .ptr 64 0), (5, .ptr 128 0), (7, .own 768 0), (8, .own 1152 0), (26, sqA 10 SRoad.enc p.1.1), (27, .int .i64 ((p.1.1.n : Nat) : Int)), (28, .int .i64 p.2.2)], [(0, .var [sqA 2 SPlace.enc p.1.2.1, sqA 10 SRoad.enc p.1.1, sqA 4 SFan.enc p.1.2.2.1, sqA 3 SDoor.enc p.1.2.2.2.1]), (64, .var [sqA 1 (eI .i64) p.1.2.2.2.2.1, sqA 1 (eI .i64) p.1.2.2.2.2.2.1]), (128, .var [sqA 1 (eI .i64) p.1.2.2.2.2.2.2.1, sqA 1 (eI .i64) p.1.2.2.2.2.2.2.2.1]), (768, rowA 0 1 3 (eI .i64) p.1.2.2.2.2.2.2.2.2), (1152, rowA 0 2 57 SSpan.enc p.2.1)], 1600⟩, fun f v => certify_Flows_l6_step f.1 f.2.1 f.2.2.1 f.2.2.2.1 f.2.2.2.2.1 f.2.2.2.2.2.1 f.2.2.2.2.2.2.1 f.2.2.2.2.2.2.2.1 f.2.2.2.2.2.2.2.2 v.1 v.2, true, (.exit 0), (fun x a => ⟨[(8, .own 1152 0)], [(0, blkS x 0), (64, blkS x 64), (128, blkS x 128), (768, blkS x 768), (1152, rowA 0 2 57 SSpan.enc a)], 1600⟩), .ret, (fun _ _ => ⟨[], [], 0⟩), c1, c1k⟩
noncomputable def certify_Flows_l6 (u6_0 : Sq SRoad) (u6_2 : Sq SPlace) (u6_3 : Sq SFan) (u6_4 : Sq SDoor) (u6_5 u6_6 u6_7 u6_8 u6_9 : Sq Int) (u6_10 : Sq SSpan) (u6_11 : Int) : Option (((Sq SSpan)) ⊕ (Unit)) := certify_Flows_l6_m.val ((u6_0, u6_2, u6_3, u6_4, u6_5, u6_6, u6_7, u6_8, u6_9), (u6_10, u6_11))
theorem certify_Flows_l6_eq (u6_0 : Sq SRoad) (u6_2 : Sq SPlace) (u6_3 : Sq SFan) (u6_4 : Sq SDoor) (u6_5 u6_6 u6_7 u6_8 u6_9 : Sq Int) (u6_10 : Sq SSpan) (u6_11 : Int) : certify_Flows_l6 u6_0 u6_2 u6_3 u6_4 u6_5 u6_6 u6_7 u6_8 u6_9 u6_10 u6_11 = fixO (fun v : (Sq SSpan) × Int => certify_Flows_l6_step u6_0 u6_2 u6_3 u6_4 u6_5 u6_6 u6_7 u6_8 u6_9 v.1 v.2) (u6_10, u6_11) := certify_Flows_l6_m.val_eq (fun x => ((sqD SRoad.dec (aget x.tm 26), sqD SPlace.dec (cellS x 0 0), sqD SFan.dec (cellS x 0 2), sqD SDoor.dec (cellS x 0 3), sqD dI (cellS x 64 0), sqD dI (cellS x 64 1), sqD dI (cellS x 128 0), sqD dI (cellS x 128 1), sqB dI (blkS x 768)), (sqB SSpan.dec (blkS x 1152), intA (aget x.tm 28)))) (fun p => by kernel_rfl) ((u6_0, u6_2, u6_3, u6_4, u6_5, u6_6, u6_7, u6_8, u6_9), (u6_10, u6_11))
noncomputable def certify_Flows_t (a : SAir) (s : SSetting) (b : SBounds) : DT ((Sq SSpan)) :=
 .bind (certify_Check a s b) fun z2 =>
 .ite (z2 != (0 : Int)) (
 .leaf (Sq.mk 0 (fun _ => (SSpan.mk (0 : Int) (0 : Int))))) (
 .bind (plan_CutOff a.Mine) fun z3 =>
 .ite (decide ((0 : Int) ≤ ((a.Mine.Roads.n : Nat) : Int) ∧ ((a.Mine.Roads.n : Nat) : Int) ≤ ((a.Mine.Roads.n : Nat) : Int) ∧ ((a.Mine.Roads.n : Nat) : Int) * ((16 : Nat) : Int) ≤ 140737488355328 ∧ ((a.Mine.Roads.n : Nat) : Int) ≤ 1099511627776)) (
 .sum (certify_Flows_l6 a.Mine.Roads a.Mine.Places a.Fans a.Doors s.Fans s.Doors b.Low b.High z3 (Sq.mk (Int.toNat ((a.Mine.Roads.n : Nat) : Int)) (fun _ => (SSpan.mk (0 : Int) (0 : Int)))) (0 : Int)) (fun y0 =>
 .leaf y0) (fun _ => .fail)) (
 .fail))
noncomputable def certify_Flows_m : FnM := nfM (SAir × SSetting × SBounds) ((Sq SSpan)) (fun p => ([.agg (SAir.enc p.1), .agg (SSetting.enc p.2.1), .agg (SBounds.enc p.2.2)], [])) (fun p => certify_Flows_t p.1 p.2.1 p.2.2) (fun _ => .own 0 0) (fun _ r => [rowA 0 2 57 SSpan.enc r])
noncomputable def certify_Flows_env : Env := envM [(12, certify_Check_m.c), (41, plan_CutOff_m.c), (42, slices_Contains_m.c), (43, certify_flow_m.c)] [(6, [3, 4, 5, 7, 8, 26, 27, 28], [8])] [(6, certify_Flows_l6_m.c)] [(2000000, [.asrow 576 57 2 (fun _ => SSpan.enc (SSpan.mk (0 : Int) (0 : Int)))])] [(6, [0, 64, 128, 768, 1152])] 0
noncomputable def certify_Flows_e : Env := { certify_Flows_env with nt := 59 }
theorem certify_Flows_l6_tells : LoopTells certify_Flows_e (loopOf 6 Tryz.f15) certify_Flows_l6_m.c := certify_Flows_l6_m.tells 1600 (fun _ => by kernel_rfl) (fun _ _ _ _ => by kernel_rfl) (fun _ _ _ _ => by kernel_rfl) fun R f v N K => by kernel_rfl
theorem certify_Flows_tells : Tells Tryz.prog 15 certify_Flows_m.c := certify_Flows_m.tells Tryz.func15 (show ∀ p, arun certify_Flows_env Tryz.f15 (certify_Flows_m.enc p).1 (certify_Flows_m.enc p).2 = _ from fun p => by kernel_rfl) (loopsL [loopOf 6 Tryz.f15] (by kernel_rfl) ⟨lpT (by kernel_rfl) certify_Flows_l6_tells, trivial⟩) (.cons certify_Check_tells (.cons plan_CutOff_tells (.cons slices_Contains_tells (.cons certify_flow_tells .nil))))
noncomputable def certify_Flows (a : SAir) (s : SSetting) (b : SBounds) : Option ((Sq SSpan)) := certify_Flows_m.val (a, s, b)
theorem certify_Flows_eq (a : SAir) (s : SSetting) (b : SBounds) : certify_Flows a s b = (certify_Flows_t a s b).get := certify_Flows_m.val_eq (fun x => (SAir.dec (aggL (gd x.1 0)), SSetting.dec (aggL (gd x.1 1)), SBounds.dec (aggL (gd x.1 2)))) (fun p => by kernel_rfl) (a, s, b)

/-! minecontrol/minecontrolref11.Flows -/
noncomputable def ref11_Flows_l6_step (u6_0 : Sq SPlace) (u6_1 : Sq SRoad) (u6_2 : Sq SFan) (u6_3 : Sq SDoor) (u6_4 u6_5 u6_6 u6_7 : Sq Int) (u6_8 : Sq Bool) (u6_9 : Sq SSpan) (u6_10 : Int) : DT (LR ((Sq SSpan) × Int) ((Sq SSpan)) (Unit)) :=
 .ite (decide (u6_10 < ((u6_1.n : Nat) : Int))) (
 .ite (decide ((0 : Int) ≤ u6_10 ∧ u6_10 < ((u6_1.n : Nat) : Int))) (
 .ite (!(u6_1.f (Int.toNat u6_10)).Closed) (
 .bind (ref05_Nothing) fun z0 =>
 .ite (decide ((0 : Int) ≤ (u6_1.f (Int.toNat u6_10)).From ∧ (u6_1.f (Int.toNat u6_10)).From < ((u6_8.n : Nat) : Int))) (
 .ite (u6_8.f (Int.toNat (u6_1.f (Int.toNat u6_10)).From)) (
 .ite (decide ((0 : Int) ≤ (u6_1.f (Int.toNat u6_10)).From ∧ (u6_1.f (Int.toNat u6_10)).From < ((u6_6.n : Nat) : Int))) (
 .ite (decide ((0 : Int) ≤ (u6_1.f (Int.toNat u6_10)).To ∧ (u6_1.f (Int.toNat u6_10)).To < ((u6_7.n : Nat) : Int))) (
 .bind (ref09_Lowest (SAir.mk (SMine.mk u6_0 u6_1) u6_2 u6_3) (SSetting.mk u6_4 u6_5) u6_10 (wr ((u6_6.f (Int.toNat (u6_1.f (Int.toNat u6_10)).From)) - (u6_7.f (Int.toNat (u6_1.f (Int.toNat u6_10)).To))))) fun z1 =>
 .ite (decide ((0 : Int) ≤ (u6_1.f (Int.toNat u6_10)).From ∧ (u6_1.f (Int.toNat u6_10)).From < ((u6_7.n : Nat) : Int))) (
 .ite (decide ((0 : Int) ≤ (u6_1.f (Int.toNat u6_10)).To ∧ (u6_1.f (Int.toNat u6_10)).To < ((u6_6.n : Nat) : Int))) (
 .bind (ref09_Highest (SAir.mk (SMine.mk u6_0 u6_1) u6_2 u6_3) (SSetting.mk u6_4 u6_5) u6_10 (wr ((u6_7.f (Int.toNat (u6_1.f (Int.toNat u6_10)).From)) - (u6_6.f (Int.toNat (u6_1.f (Int.toNat u6_10)).To))))) fun z2 =>
 .ite (decide ((u6_9.n + 1) * 16 ≤ 140737488355328 ∧ (u6_9.n + 1) ≤ 1099511627776)) (
 .leaf (.next ((Sq.mk (u6_9.n + 1) (fun k0 => (SSpan.mk (cond (Nat.blt k0 u6_9.n) (u6_9.f k0).Low z1) (cond (Nat.blt k0 u6_9.n) (u6_9.f k0).High z2)))), (wr (u6_10 + (1 : Int)))))) (
 .fail)) (
 .fail)) (
 .fail)) (
 .fail)) (
 .fail)) (
 .ite (decide ((u6_9.n + 1) * 16 ≤ 140737488355328 ∧ (u6_9.n + 1) ≤ 1099511627776)) (
 .leaf (.next ((Sq.mk (u6_9.n + 1) (fun k1 => (SSpan.mk (cond (Nat.blt k1 u6_9.n) (u6_9.f k1).Low z0.Low) (cond (Nat.blt k1 u6_9.n) (u6_9.f k1).High z0.High)))), (wr (u6_10 + (1 : Int)))))) (
 .fail))) (
 .fail)) (
 .ite (decide ((u6_9.n + 1) * 16 ≤ 140737488355328 ∧ (u6_9.n + 1) ≤ 1099511627776)) (
 .leaf (.next ((Sq.mk (u6_9.n + 1) (fun k2 => (SSpan.mk (cond (Nat.blt k2 u6_9.n) (u6_9.f k2).Low (0 : Int)) (cond (Nat.blt k2 u6_9.n) (u6_9.f k2).High (0 : Int))))), (wr (u6_10 + (1 : Int)))))) (
 .fail))) (
 .fail)) (
 .leaf (.l u6_9))
noncomputable def ref11_Flows_l6_m : LpM := ⟨(Sq SPlace) × (Sq SRoad) × (Sq SFan) × (Sq SDoor) × (Sq Int) × (Sq Int) × (Sq Int) × (Sq Int) × (Sq Bool), (Sq SSpan) × Int, (Sq SSpan), Unit, fun p => ⟨[(3, .ptr 0 0), (4, .ptr 64 0), (5, .ptr 128 0), (7, .own 768 0), (8, .own 896 0), (9, .int .i64 p.2.2)], [(0, .var [sqA 2 SPlace.enc p.1.1, sqA 10 SRoad.enc p.1.2.1, sqA 4 SFan.enc p.1.2.2.1, sqA 3 SDoor.enc p.1.2.2.2.1]), (64, .var [sqA 1 (eI .i64) p.1.2.2.2.2.1, sqA 1 (eI .i64) p.1.2.2.2.2.2.1]), (128, .var [sqA 1 (eI .i64) p.1.2.2.2.2.2.2.1, sqA 1 (eI .i64) p.1.2.2.2.2.2.2.2.1]), (768, rowA 0 1 4 eO p.1.2.2.2.2.2.2.2.2), (896, rowA 0 2 57 SSpan.enc p.2.1)], 1024⟩, fun f v => ref11_Flows_l6_step f.1 f.2.1 f.2.2.1 f.2.2.2.1 f.2.2.2.2.1 f.2.2.2.2.2.1 f.2.2.2.2.2.2.1 f.2.2.2.2.2.2.2.1 f.2.2.2.2.2.2.2.2 v.1 v.2, true, (.exit 0), (fun x a => ⟨[(8, .own 896 0)], [(0, blkS x 0), (64, blkS x 64), (128, blkS x 128), (768, blkS x 768), (896, rowA 0 2 57 SSpan.enc a)], 1024⟩), .ret, (fun _ _ => ⟨[], [], 0⟩), c1, c1k⟩
noncomputable def ref11_Flows_l6 (u6_0 : Sq SPlace) (u6_1 : Sq SRoad) (u6_2 : Sq SFan) (u6_3 : Sq SDoor) (u6_4 u6_5 u6_6 u6_7 : Sq Int) (u6_8 : Sq Bool) (u6_9 : Sq SSpan) (u6_10 : Int) : Option (((Sq SSpan)) ⊕ (Unit)) := ref11_Flows_l6_m.val ((u6_0, u6_1, u6_2, u6_3, u6_4, u6_5, u6_6, u6_7, u6_8), (u6_9, u6_10))
theorem ref11_Flows_l6_eq (u6_0 : Sq SPlace) (u6_1 : Sq SRoad) (u6_2 : Sq SFan) (u6_3 : Sq SDoor) (u6_4 u6_5 u6_6 u6_7 : Sq Int) (u6_8 : Sq Bool) (u6_9 : Sq SSpan) (u6_10 : Int) : ref11_Flows_l6 u6_0 u6_1 u6_2 u6_3 u6_4 u6_5 u6_6 u6_7 u6_8 u6_9 u6_10 = fixO (fun v : (Sq SSpan) × Int => ref11_Flows_l6_step u6_0 u6_1 u6_2 u6_3 u6_4 u6_5 u6_6 u6_7 u6_8 v.1 v.2) (u6_9, u6_10) := ref11_Flows_l6_m.val_eq (fun x => ((sqD SPlace.dec (cellS x 0 0), sqD SRoad.dec (cellS x 0 1), sqD SFan.dec (cellS x 0 2), sqD SDoor.dec (cellS x 0 3), sqD dI (cellS x 64 0), sqD dI (cellS x 64 1), sqD dI (cellS x 128 0), sqD dI (cellS x 128 1), sqB dO (blkS x 768)), (sqB SSpan.dec (blkS x 896), intA (aget x.tm 9)))) (fun p => by kernel_rfl) ((u6_0, u6_1, u6_2, u6_3, u6_4, u6_5, u6_6, u6_7, u6_8), (u6_9, u6_10))
noncomputable def ref11_Flows_t (a : SAir) (s : SSetting) (b : SBounds) : DT ((Sq SSpan)) :=
 .bind (ref11_Check a s b) fun z3 =>
 .ite (z3 != (0 : Int)) (
 .leaf (Sq.mk 0 (fun _ => (SSpan.mk (0 : Int) (0 : Int))))) (
 .bind (ref01_Airy a.Mine) fun z4 =>
 .sum (ref11_Flows_l6 a.Mine.Places a.Mine.Roads a.Fans a.Doors s.Fans s.Doors b.Low b.High z4 (Sq.mk 0 (fun _ => (SSpan.mk (0 : Int) (0 : Int)))) (0 : Int)) (fun y0 =>
 .leaf y0) (fun _ => .fail))
noncomputable def ref11_Flows_m : FnM := nfM (SAir × SSetting × SBounds) ((Sq SSpan)) (fun p => ([.agg (SAir.enc p.1), .agg (SSetting.enc p.2.1), .agg (SBounds.enc p.2.2)], [])) (fun p => ref11_Flows_t p.1 p.2.1 p.2.2) (fun _ => .own 0 0) (fun _ r => [rowA 0 2 57 SSpan.enc r])
noncomputable def ref11_Flows_env : Env := envM [(13, ref11_Check_m.c), (19, ref01_Airy_m.c), (44, ref05_Nothing_m.c), (45, ref09_Lowest_m.c), (46, ref09_Highest_m.c)] [(6, [3, 4, 5, 7, 8, 9], [8])] [(6, ref11_Flows_l6_m.c)] [(1000006, [.asrow 896 57 2 (fun _ => SSpan.enc (SSpan.mk (0 : Int) (0 : Int)))]), (2000000, [.asrow 576 57 2 (fun _ => SSpan.enc (SSpan.mk (0 : Int) (0 : Int)))])] [(6, [0, 64, 128, 768, 896])] 0
noncomputable def ref11_Flows_e : Env := { ref11_Flows_env with nt := 84 }
theorem ref11_Flows_l6_tells : LoopTells ref11_Flows_e (loopOf 6 Tryz.f16) ref11_Flows_l6_m.c := ref11_Flows_l6_m.tells 1024 (fun _ => by kernel_rfl) (fun _ _ _ _ => by kernel_rfl) (fun _ _ _ _ => by kernel_rfl) fun R f v N K => by kernel_rfl
theorem ref11_Flows_tells : Tells Tryz.prog 16 ref11_Flows_m.c := ref11_Flows_m.tells Tryz.func16 (show ∀ p, arun ref11_Flows_env Tryz.f16 (ref11_Flows_m.enc p).1 (ref11_Flows_m.enc p).2 = _ from fun p => by kernel_rfl) (loopsL [loopOf 6 Tryz.f16] (by kernel_rfl) ⟨lpT (by kernel_rfl) ref11_Flows_l6_tells, trivial⟩) (.cons ref11_Check_tells (.cons ref01_Airy_tells (.cons ref05_Nothing_tells (.cons ref09_Lowest_tells (.cons ref09_Highest_tells .nil)))))
noncomputable def ref11_Flows (a : SAir) (s : SSetting) (b : SBounds) : Option ((Sq SSpan)) := ref11_Flows_m.val (a, s, b)
theorem ref11_Flows_eq (a : SAir) (s : SSetting) (b : SBounds) : ref11_Flows a s b = (ref11_Flows_t a s b).get := ref11_Flows_m.val_eq (fun x => (SAir.dec (aggL (gd x.1 0)), SSetting.dec (aggL (gd x.1 1)), SBounds.dec (aggL (gd x.1 2)))) (fun p => by kernel_rfl) (a, s, b)

/-! minecontrol/minecontrolref01.Spans -/
noncomputable def ref01_Spans_l4_step (u4_0 u4_1 : Sq SSpan) (u4_2 : Int) : DT (LR (Int) (Unit) (Unit)) :=
 .ite (decide (u4_2 < ((u4_0.n : Nat) : Int))) (
 .ite (decide ((0 : Int) ≤ u4_2 ∧ u4_2 < ((u4_0.n : Nat) : Int))) (
 .ite (decide ((0 : Int) ≤ u4_2 ∧ u4_2 < ((u4_1.n : Nat) : Int))) (
 .ite (!(((u4_0.f (Int.toNat u4_2)).Low == (u4_1.f (Int.toNat u4_2)).Low) && (((u4_0.f (Int.toNat u4_2)).High == (u4_1.f (Int.toNat u4_2)).High) && true))) (
 .leaf (.r ())) (
 .leaf (.next (wr (u4_2 + (1 : Int)))))) (
 .fail)) (
 .fail)) (
 .leaf (.l ()))
noncomputable def ref01_Spans_l4_m : LpM := ⟨(Sq SSpan) × (Sq SSpan), Int, Unit, Unit, fun p => ⟨[(0, sqA 2 SSpan.enc p.1.1), (1, sqA 2 SSpan.enc p.1.2), (5, .int .i64 p.2)], [], 512⟩, fun f v => ref01_Spans_l4_step f.1 f.2 v, false, (.exit 0), (fun _ _ => ⟨[(4, .undef)], [], 512⟩), .ret, (fun _ _ => ⟨[(4, .bool false)], [], 512⟩), c1, c1k⟩
noncomputable def ref01_Spans_l4 (u4_0 u4_1 : Sq SSpan) (u4_2 : Int) : Option ((Unit) ⊕ (Unit)) := ref01_Spans_l4_m.val ((u4_0, u4_1), u4_2)
theorem ref01_Spans_l4_eq (u4_0 u4_1 : Sq SSpan) (u4_2 : Int) : ref01_Spans_l4 u4_0 u4_1 u4_2 = fixO (fun v : Int => ref01_Spans_l4_step u4_0 u4_1 v) u4_2 := ref01_Spans_l4_m.val_eq (fun x => ((sqD SSpan.dec (aget x.tm 0), sqD SSpan.dec (aget x.tm 1)), intA (aget x.tm 5))) (fun p => by kernel_rfl) ((u4_0, u4_1), u4_2)
noncomputable def ref01_Spans_t (a b : Sq SSpan) : DT (Bool) :=
 .ite (((a.n : Nat) : Int) != ((b.n : Nat) : Int)) (
 .leaf false) (
 .sum (ref01_Spans_l4 a b (0 : Int)) (fun _ =>
 .leaf true) (fun _ => .leaf false))
noncomputable def ref01_Spans_m : FnM := flM ((Sq SSpan) × (Sq SSpan)) (Bool) (fun p => ([sqA 2 SSpan.enc p.1, sqA 2 SSpan.enc p.2], [])) (fun p => ref01_Spans_t p.1 p.2) (fun r => .bool r) (fun _ => rfl)
noncomputable def ref01_Spans_env : Env := envM [] [(4, [0, 1, 5], [4])] [(4, ref01_Spans_l4_m.c)] [] [(4, [])] 0
noncomputable def ref01_Spans_e : Env := { ref01_Spans_env with nt := 26 }
theorem ref01_Spans_l4_tells : LoopTells ref01_Spans_e (loopOf 4 Tryz.f14) ref01_Spans_l4_m.c := ref01_Spans_l4_m.tells 512 (fun _ => by kernel_rfl) (fun _ _ _ _ => by kernel_rfl) (fun _ _ _ _ => by kernel_rfl) fun R f v N K => by kernel_rfl
theorem ref01_Spans_tells : Tells Tryz.prog 14 ref01_Spans_m.c := ref01_Spans_m.tells Tryz.func14 (show ∀ p, arun ref01_Spans_env Tryz.f14 (ref01_Spans_m.enc p).1 (ref01_Spans_m.enc p).2 = _ from fun p => by kernel_rfl) (loopsL [loopOf 4 Tryz.f14] (by kernel_rfl) ⟨lpT (by kernel_rfl) ref01_Spans_l4_tells, trivial⟩) .nil
noncomputable def ref01_Spans (a b : Sq SSpan) : Option (Bool) := ref01_Spans_m.val (a, b)
theorem ref01_Spans_eq (a b : Sq SSpan) : ref01_Spans a b = (ref01_Spans_t a b).get := ref01_Spans_m.val_eq (fun x => (sqD SSpan.dec (gd x.1 0), sqD SSpan.dec (gd x.1 1))) (fun p => by kernel_rfl) (a, b)
end Go.Proofs.YtnoeblpanfbpjaaGreat.Ab
