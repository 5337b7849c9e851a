/- Mirrors of code, stage 3. -/
import Derived.Test.YtfedelfcdjldlaaDoorN3a
namespace Go.Proofs.YtfedelfcdjldlaaDoor.Ab
open Go
attribute [local irreducible] arun



/-! minecontrol/minecontrolref03.to -/
noncomputable def ref03_to_l3_step (_u3_0 : Int) (_u3_1 : Sq SPlace) (_u3_2 : Sq SRoad) (_u3_5 u3_3 : Sq Int) (u3_4 : Int) : DT (LR ((Sq Int) × Int) ((Sq Int)) (Unit)) :=
 .ite (decide (u3_4 < ((u3_3.n : Nat) : Int))) (
 .ite (decide ((0 : Int) ≤ u3_4 ∧ u3_4 < ((u3_3.n : Nat) : Int))) (
 .leaf (.next ((Sq.mk u3_3.n (fun k0 => (cond (Nat.beq k0 (Int.toNat u3_4)) (-1 : Int) (u3_3.f k0)))), (wr (u3_4 + (1 : Int)))))) (
 .fail)) (
 .leaf (.l u3_3))
noncomputable def ref03_to_l3_m : LpM := ⟨Int × (Sq SPlace) × (Sq SRoad) × (Sq Int), (Sq Int) × Int, (Sq Int), Unit, fun p => ⟨[(1, .int .i64 p.1.1), (2, .ptr 0 0), (6, .own 384 0), (7, .own 640 0), (8, .int .i64 p.2.2)], [(0, .var [sqA 2 SPlace.enc p.1.2.1, sqA 10 SRoad.enc p.1.2.2.1]), (384, rowA 0 1 3 (eI .i64) p.2.1), (640, rowA 0 1 3 (eI .i64) p.1.2.2.2)], 896⟩, fun f v => ref03_to_l3_step f.1 f.2.1 f.2.2.1 f.2.2.2 v.1 v.2, true, (.exit 0), (fun x a => ⟨[(1, aget x.tm 1), (2, .ptr 0 0), (6, .own 384 0), (7, .own 640 0)], [(0, blkS x 0), (384, rowA 0 1 3 (eI .i64) a), (640, blkS x 640)], 896⟩), .ret, (fun _ _ => ⟨[], [], 0⟩), c1, c1k⟩
noncomputable def ref03_to_l3 (u3_0 : Int) (u3_1 : Sq SPlace) (u3_2 : Sq SRoad) (u3_5 u3_3 : Sq Int) (u3_4 : Int) : Option (((Sq Int)) ⊕ (Unit)) := ref03_to_l3_m.val ((u3_0, u3_1, u3_2, u3_5), (u3_3, u3_4))
theorem ref03_to_l3_eq (u3_0 : Int) (u3_1 : Sq SPlace) (u3_2 : Sq SRoad) (u3_5 u3_3 : Sq Int) (u3_4 : Int) : ref03_to_l3 u3_0 u3_1 u3_2 u3_5 u3_3 u3_4 = fixO (fun v : (Sq Int) × Int => ref03_to_l3_step u3_0 u3_1 u3_2 u3_5 v.1 v.2) (u3_3, u3_4) := ref03_to_l3_m.val_eq (fun x => ((intA (aget x.tm 1), sqD SPlace.dec (cellS x 0 0), sqD SRoad.dec (cellS x 0 1), sqB dI (blkS x 640)), (sqB dI (blkS x 384), intA (aget x.tm 8)))) (fun p => by kernel_rfl) ((u3_0, u3_1, u3_2, u3_5), (u3_3, u3_4))
noncomputable def ref03_to_l14_step (u14_0 : Sq SPlace) (u14_1 : Sq SRoad) (u14_6 : Int) (u14_2 u14_3 : Sq Int) (u14_4 : Int) (u14_5 : Bool) : DT (LR ((Sq Int) × (Sq Int) × Int × Bool) (Bool × (Sq Int) × (Sq Int)) (Unit)) :=
 .ite (decide (u14_4 < (2 : Int))) (
 .ite (decide ((0 : Int) ≤ u14_6 ∧ u14_6 < ((u14_1.n : Nat) : Int))) (
 .bind (ref03_ends (u14_1.f (Int.toNat u14_6)) (u14_4 == (1 : Int))) fun z0 =>
 .bind (ref03_Time (SMine.mk u14_0 u14_1) u14_6 (u14_4 == (1 : Int))) fun z1 =>
 .ite (decide (z1 < (0 : Int))) (
 .leaf (.next (u14_2, u14_3, (wr (u14_4 + (1 : Int))), u14_5))) (
 .ite (decide ((0 : Int) ≤ z0.2 ∧ z0.2 < ((u14_2.n : Nat) : Int))) (
 .ite (decide ((u14_2.f (Int.toNat z0.2)) < (0 : Int))) (
 .leaf (.next (u14_2, u14_3, (wr (u14_4 + (1 : Int))), u14_5))) (
 .ite (decide ((0 : Int) ≤ z0.1 ∧ z0.1 < ((u14_2.n : Nat) : Int))) (
 .ite (decide ((u14_2.f (Int.toNat z0.1)) < (0 : Int))) (
 .ite (decide ((0 : Int) ≤ z0.2 ∧ z0.2 < ((u14_2.n : Nat) : Int))) (
 .ite (decide ((0 : Int) ≤ z0.2 ∧ z0.2 < ((u14_3.n : Nat) : Int))) (
 .ite (decide ((0 : Int) ≤ z0.1 ∧ z0.1 < ((u14_2.n : Nat) : Int))) (
 .ite (decide ((0 : Int) ≤ z0.1 ∧ z0.1 < ((u14_3.n : Nat) : Int))) (
 .leaf (.next ((Sq.mk u14_2.n (fun k1 => (cond (Nat.beq k1 (Int.toNat z0.1)) (wr ((u14_2.f (Int.toNat z0.2)) + z1)) (u14_2.f k1)))), (Sq.mk u14_3.n (fun k2 => (cond (Nat.beq k2 (Int.toNat z0.1)) (wr ((u14_3.f (Int.toNat z0.2)) + (1 : Int))) (u14_3.f k2)))), (wr (u14_4 + (1 : Int))), true))) (
 .fail)) (
 .fail)) (
 .fail)) (
 .fail)) (
 .ite (decide ((0 : Int) ≤ z0.2 ∧ z0.2 < ((u14_2.n : Nat) : Int))) (
 .ite (decide ((0 : Int) ≤ z0.1 ∧ z0.1 < ((u14_2.n : Nat) : Int))) (
 .ite (decide ((wr ((u14_2.f (Int.toNat z0.2)) + z1)) < (u14_2.f (Int.toNat z0.1)))) (
 .ite (decide ((0 : Int) ≤ z0.2 ∧ z0.2 < ((u14_2.n : Nat) : Int))) (
 .ite (decide ((0 : Int) ≤ z0.2 ∧ z0.2 < ((u14_3.n : Nat) : Int))) (
 .ite (decide ((0 : Int) ≤ z0.1 ∧ z0.1 < ((u14_2.n : Nat) : Int))) (
 .ite (decide ((0 : Int) ≤ z0.1 ∧ z0.1 < ((u14_3.n : Nat) : Int))) (
 .leaf (.next ((Sq.mk u14_2.n (fun k3 => (cond (Nat.beq k3 (Int.toNat z0.1)) (wr ((u14_2.f (Int.toNat z0.2)) + z1)) (u14_2.f k3)))), (Sq.mk u14_3.n (fun k4 => (cond (Nat.beq k4 (Int.toNat z0.1)) (wr ((u14_3.f (Int.toNat z0.2)) + (1 : Int))) (u14_3.f k4)))), (wr (u14_4 + (1 : Int))), true))) (
 .fail)) (
 .fail)) (
 .fail)) (
 .fail)) (
 .ite (decide ((0 : Int) ≤ z0.2 ∧ z0.2 < ((u14_2.n : Nat) : Int))) (
 .ite (decide ((0 : Int) ≤ z0.1 ∧ z0.1 < ((u14_2.n : Nat) : Int))) (
 .ite ((wr ((u14_2.f (Int.toNat z0.2)) + z1)) == (u14_2.f (Int.toNat z0.1))) (
 .ite (decide ((0 : Int) ≤ z0.2 ∧ z0.2 < ((u14_3.n : Nat) : Int))) (
 .ite (decide ((0 : Int) ≤ z0.1 ∧ z0.1 < ((u14_3.n : Nat) : Int))) (
 .ite (decide ((wr ((u14_3.f (Int.toNat z0.2)) + (1 : Int))) < (u14_3.f (Int.toNat z0.1)))) (
 .ite (decide ((0 : Int) ≤ z0.2 ∧ z0.2 < ((u14_2.n : Nat) : Int))) (
 .ite (decide ((0 : Int) ≤ z0.2 ∧ z0.2 < ((u14_3.n : Nat) : Int))) (
 .ite (decide ((0 : Int) ≤ z0.1 ∧ z0.1 < ((u14_2.n : Nat) : Int))) (
 .ite (decide ((0 : Int) ≤ z0.1 ∧ z0.1 < ((u14_3.n : Nat) : Int))) (
 .leaf (.next ((Sq.mk u14_2.n (fun k5 => (cond (Nat.beq k5 (Int.toNat z0.1)) (wr ((u14_2.f (Int.toNat z0.2)) + z1)) (u14_2.f k5)))), (Sq.mk u14_3.n (fun k6 => (cond (Nat.beq k6 (Int.toNat z0.1)) (wr ((u14_3.f (Int.toNat z0.2)) + (1 : Int))) (u14_3.f k6)))), (wr (u14_4 + (1 : Int))), true))) (
 .fail)) (
 .fail)) (
 .fail)) (
 .fail)) (
 .leaf (.next (u14_2, u14_3, (wr (u14_4 + (1 : Int))), u14_5)))) (
 .fail)) (
 .fail)) (
 .leaf (.next (u14_2, u14_3, (wr (u14_4 + (1 : Int))), u14_5)))) (
 .fail)) (
 .fail))) (
 .fail)) (
 .fail))) (
 .fail))) (
 .fail))) (
 .fail)) (
 .leaf (.l (u14_5, u14_2, u14_3)))
noncomputable def ref03_to_l14_m : LpM := ⟨(Sq SPlace) × (Sq SRoad) × Int, (Sq Int) × (Sq Int) × Int × Bool, Bool × (Sq Int) × (Sq Int), Unit, fun p => ⟨[(2, .ptr 0 0), (6, .own 384 0), (7, .own 640 0), (9, .bool p.2.2.2.2), (10, .int .i64 p.1.2.2), (11, .int .i64 p.2.2.2.1)], [(0, .var [sqA 2 SPlace.enc p.1.1, sqA 10 SRoad.enc p.1.2.1]), (384, rowA 0 1 3 (eI .i64) p.2.1), (640, rowA 0 1 3 (eI .i64) p.2.2.1)], 1792⟩, fun f v => ref03_to_l14_step f.1 f.2.1 f.2.2 v.1 v.2.1 v.2.2.1 v.2.2.2, true, (.exit 6), (fun x a => ⟨[(2, .ptr 0 0), (6, .own 384 0), (7, .own 640 0), (9, .bool a.1), (10, aget x.tm 10)], [(0, blkS x 0), (384, rowA 0 1 3 (eI .i64) a.2.1), (640, rowA 0 1 3 (eI .i64) a.2.2)], 1792⟩), .ret, (fun _ _ => ⟨[], [], 0⟩), c1, c1k⟩
noncomputable def ref03_to_l14 (u14_0 : Sq SPlace) (u14_1 : Sq SRoad) (u14_6 : Int) (u14_2 u14_3 : Sq Int) (u14_4 : Int) (u14_5 : Bool) : Option ((Bool × (Sq Int) × (Sq Int)) ⊕ (Unit)) := ref03_to_l14_m.val ((u14_0, u14_1, u14_6), (u14_2, u14_3, u14_4, u14_5))
theorem ref03_to_l14_eq (u14_0 : Sq SPlace) (u14_1 : Sq SRoad) (u14_6 : Int) (u14_2 u14_3 : Sq Int) (u14_4 : Int) (u14_5 : Bool) : ref03_to_l14 u14_0 u14_1 u14_6 u14_2 u14_3 u14_4 u14_5 = fixO (fun v : (Sq Int) × (Sq Int) × Int × Bool => ref03_to_l14_step u14_0 u14_1 u14_6 v.1 v.2.1 v.2.2.1 v.2.2.2) (u14_2, u14_3, u14_4, u14_5) := ref03_to_l14_m.val_eq (fun x => ((sqD SPlace.dec (cellS x 0 0), sqD SRoad.dec (cellS x 0 1), intA (aget x.tm 10)), (sqB dI (blkS x 384), sqB dI (blkS x 640), intA (aget x.tm 11), boolA (aget x.tm 9)))) (fun p => by kernel_rfl) ((u14_0, u14_1, u14_6), (u14_2, u14_3, u14_4, u14_5))
noncomputable def ref03_to_l11_step (u11_0 : Sq SPlace) (u11_1 : Sq SRoad) (u11_2 u11_3 : Sq Int) (u11_4 : Bool) (u11_5 : Int) : DT (LR ((Sq Int) × (Sq Int) × Bool × Int) (Bool × (Sq Int) × (Sq Int)) (Unit)) :=
 .ite (decide (u11_5 < ((u11_1.n : Nat) : Int))) (
 .sum (ref03_to_l14 u11_0 u11_1 u11_5 u11_2 u11_3 (0 : Int) u11_4) (fun y0 =>
 .leaf (.next (y0.2.1, y0.2.2, y0.1, (wr (u11_5 + (1 : Int)))))) (fun _ => .fail)) (
 .leaf (.l (u11_4, u11_2, u11_3)))
noncomputable def ref03_to_l11_m : LpM := ⟨(Sq SPlace) × (Sq SRoad), (Sq Int) × (Sq Int) × Bool × Int, Bool × (Sq Int) × (Sq Int), Unit, fun p => ⟨[(2, .ptr 0 0), (6, .own 384 0), (7, .own 640 0), (9, .bool p.2.2.2.1), (10, .int .i64 p.2.2.2.2)], [(0, .var [sqA 2 SPlace.enc p.1.1, sqA 10 SRoad.enc p.1.2]), (384, rowA 0 1 3 (eI .i64) p.2.1), (640, rowA 0 1 3 (eI .i64) p.2.2.1)], 1408⟩, fun f v => ref03_to_l11_step f.1 f.2 v.1 v.2.1 v.2.2.1 v.2.2.2, true, (.exit 4), (fun x a => ⟨[(2, .ptr 0 0), (6, .own 384 0), (7, .own 640 0), (9, .bool a.1)], [(0, blkS x 0), (384, rowA 0 1 3 (eI .i64) a.2.1), (640, rowA 0 1 3 (eI .i64) a.2.2)], 1408⟩), .ret, (fun _ _ => ⟨[], [], 0⟩), c1, c1k⟩
noncomputable def ref03_to_l11 (u11_0 : Sq SPlace) (u11_1 : Sq SRoad) (u11_2 u11_3 : Sq Int) (u11_4 : Bool) (u11_5 : Int) : Option ((Bool × (Sq Int) × (Sq Int)) ⊕ (Unit)) := ref03_to_l11_m.val ((u11_0, u11_1), (u11_2, u11_3, u11_4, u11_5))
theorem ref03_to_l11_eq (u11_0 : Sq SPlace) (u11_1 : Sq SRoad) (u11_2 u11_3 : Sq Int) (u11_4 : Bool) (u11_5 : Int) : ref03_to_l11 u11_0 u11_1 u11_2 u11_3 u11_4 u11_5 = fixO (fun v : (Sq Int) × (Sq Int) × Bool × Int => ref03_to_l11_step u11_0 u11_1 v.1 v.2.1 v.2.2.1 v.2.2.2) (u11_2, u11_3, u11_4, u11_5) := ref03_to_l11_m.val_eq (fun x => ((sqD SPlace.dec (cellS x 0 0), sqD SRoad.dec (cellS x 0 1)), (sqB dI (blkS x 384), sqB dI (blkS x 640), boolA (aget x.tm 9), intA (aget x.tm 10)))) (fun p => by kernel_rfl) ((u11_0, u11_1), (u11_2, u11_3, u11_4, u11_5))
noncomputable def ref03_to_l8_step (u8_0 : Sq SPlace) (u8_1 : Sq SRoad) (u8_2 u8_3 : Sq Int) (u8_4 : Bool) : DT (LR ((Sq Int) × (Sq Int) × Bool) ((Sq Int) × (Sq Int)) (Unit)) :=
 .ite u8_4 (
 .sum (ref03_to_l11 u8_0 u8_1 u8_2 u8_3 false (0 : Int)) (fun y1 =>
 .leaf (.next (y1.2.1, y1.2.2, y1.1))) (fun _ => .fail)) (
 .leaf (.l (u8_2, u8_3)))
noncomputable def ref03_to_l8_m : LpM := ⟨(Sq SPlace) × (Sq SRoad), (Sq Int) × (Sq Int) × Bool, (Sq Int) × (Sq Int), Unit, fun p => ⟨[(2, .ptr 0 0), (6, .own 384 0), (7, .own 640 0), (9, .bool p.2.2.2)], [(0, .var [sqA 2 SPlace.enc p.1.1, sqA 10 SRoad.enc p.1.2]), (384, rowA 0 1 3 (eI .i64) p.2.1), (640, rowA 0 1 3 (eI .i64) p.2.2.1)], 1216⟩, fun f v => ref03_to_l8_step f.1 f.2 v.1 v.2.1 v.2.2, true, (.exit 2), (fun x a => ⟨[(6, .own 384 0), (7, .own 640 0)], [(0, blkS x 0), (384, rowA 0 1 3 (eI .i64) a.1), (640, rowA 0 1 3 (eI .i64) a.2)], 1216⟩), .ret, (fun _ _ => ⟨[], [], 0⟩), c1, c1k⟩
noncomputable def ref03_to_l8 (u8_0 : Sq SPlace) (u8_1 : Sq SRoad) (u8_2 u8_3 : Sq Int) (u8_4 : Bool) : Option (((Sq Int) × (Sq Int)) ⊕ (Unit)) := ref03_to_l8_m.val ((u8_0, u8_1), (u8_2, u8_3, u8_4))
theorem ref03_to_l8_eq (u8_0 : Sq SPlace) (u8_1 : Sq SRoad) (u8_2 u8_3 : Sq Int) (u8_4 : Bool) : ref03_to_l8 u8_0 u8_1 u8_2 u8_3 u8_4 = fixO (fun v : (Sq Int) × (Sq Int) × Bool => ref03_to_l8_step u8_0 u8_1 v.1 v.2.1 v.2.2) (u8_2, u8_3, u8_4) := ref03_to_l8_m.val_eq (fun x => ((sqD SPlace.dec (cellS x 0 0), sqD SRoad.dec (cellS x 0 1)), (sqB dI (blkS x 384), sqB dI (blkS x 640), boolA (aget x.tm 9)))) (fun p => by kernel_rfl) ((u8_0, u8_1), (u8_2, u8_3, u8_4))
noncomputable def ref03_to_t (m : SMine) (place : Int) : DT ((Sq Int) × (Sq Int)) :=
 .ite (decide ((0 : Int) ≤ ((m.Places.n : Nat) : Int) ∧ ((m.Places.n : Nat) : Int) ≤ ((m.Places.n : Nat) : Int) ∧ ((m.Places.n : Nat) : Int) * ((8 : Nat) : Int) ≤ 140737488355328 ∧ ((m.Places.n : Nat) : Int) ≤ 1099511627776)) (
 .ite (decide ((0 : Int) ≤ ((m.Places.n : Nat) : Int) ∧ ((m.Places.n : Nat) : Int) ≤ ((m.Places.n : Nat) : Int) ∧ ((m.Places.n : Nat) : Int) * ((8 : Nat) : Int) ≤ 140737488355328 ∧ ((m.Places.n : Nat) : Int) ≤ 1099511627776)) (
 .sum (ref03_to_l3 place m.Places m.Roads (Sq.mk (Int.toNat ((m.Places.n : Nat) : Int)) (fun _ => (0 : Int))) (Sq.mk (Int.toNat ((m.Places.n : Nat) : Int)) (fun _ => (0 : Int))) (0 : Int)) (fun y2 =>
 .ite (decide ((0 : Int) ≤ place ∧ place < ((y2.n : Nat) : Int))) (
 .sum (ref03_to_l8 m.Places m.Roads (Sq.mk y2.n (fun k7 => (cond (Nat.beq k7 (Int.toNat place)) (0 : Int) (y2.f k7)))) (Sq.mk (Int.toNat ((m.Places.n : Nat) : Int)) (fun _ => (0 : Int))) true) (fun y3 =>
 .leaf (y3.1, y3.2)) (fun _ => .fail)) (
 .fail)) (fun _ => .fail)) (
 .fail)) (
 .fail)
noncomputable def ref03_to_m : FnM := nfM (SMine × Int) ((Sq Int) × (Sq Int)) (fun p => ([.agg (SMine.enc p.1), .int .i64 p.2], [])) (fun p => ref03_to_t p.1 p.2) (fun _ => .tup [.own 0 0, .own 1 0]) (fun _ r => [rowA 0 1 3 (eI .i64) r.1, rowA 0 1 3 (eI .i64) r.2])
noncomputable def ref03_to_env : Env := envM [(22, ref03_ends_m.c), (23, ref03_Time_m.c)] [(3, [1, 2, 6, 7, 8], [1, 2, 6, 7]), (14, [2, 6, 7, 9, 10, 11], [2, 6, 7, 9, 10]), (11, [2, 6, 7, 9, 10], [2, 6, 7, 9]), (8, [2, 6, 7, 9], [6, 7])] [(3, ref03_to_l3_m.c), (14, ref03_to_l14_m.c), (11, ref03_to_l11_m.c), (8, ref03_to_l8_m.c)] [] [(3, [0, 384, 640]), (14, [0, 384, 640]), (11, [0, 384, 640]), (8, [0, 384, 640])] 0
noncomputable def ref03_to_e : Env := { ref03_to_env with nt := 134 }
theorem ref03_to_l3_tells : LoopTells ref03_to_e (loopOf 3 Tryd.f21) ref03_to_l3_m.c := ref03_to_l3_m.tells 896 (fun _ => by kernel_rfl) (fun _ _ _ _ => by kernel_rfl) (fun _ _ _ _ => by kernel_rfl) fun R f v N K => by kernel_rfl
theorem ref03_to_l14_tells : LoopTells ref03_to_e (loopOf 14 Tryd.f21) ref03_to_l14_m.c := ref03_to_l14_m.tells 1792 (fun _ => by kernel_rfl) (fun _ _ _ _ => by kernel_rfl) (fun _ _ _ _ => by kernel_rfl) fun R f v N K => by kernel_rfl
theorem ref03_to_l11_tells : LoopTells ref03_to_e (loopOf 11 Tryd.f21) ref03_to_l11_m.c := ref03_to_l11_m.tells 1408 (fun _ => by kernel_rfl) (fun _ _ _ _ => by kernel_rfl) (fun _ _ _ _ => by kernel_rfl) fun R f v N K => by kernel_rfl
theorem ref03_to_l8_tells : LoopTells ref03_to_e (loopOf 8 Tryd.f21) ref03_to_l8_m.c := ref03_to_l8_m.tells 1216 (fun _ => by kernel_rfl) (fun _ _ _ _ => by kernel_rfl) (fun _ _ _ _ => by kernel_rfl) fun R f v N K => by kernel_rfl
theorem ref03_to_tells : Tells Tryd.prog 21 ref03_to_m.c := ref03_to_m.tells Tryd.func21 (show ∀ p, arun ref03_to_env Tryd.f21 (ref03_to_m.enc p).1 (ref03_to_m.enc p).2 = _ from fun p => by kernel_rfl) (loopsL [loopOf 3 Tryd.f21, loopOf 8 Tryd.f21, loopOf 11 Tryd.f21, loopOf 14 Tryd.f21] (by kernel_rfl) ⟨lpT (by kernel_rfl) ref03_to_l3_tells, ⟨lpT (by kernel_rfl) ref03_to_l8_tells, ⟨lpT (by kernel_rfl) ref03_to_l11_tells, ⟨lpT (by kernel_rfl) ref03_to_l14_tells, trivial⟩⟩⟩⟩) (.cons ref03_ends_tells (.cons ref03_Time_tells .nil))
noncomputable def ref03_to (m : SMine) (place : Int) : Option ((Sq Int) × (Sq Int)) := ref03_to_m.val (m, place)
theorem ref03_to_eq (m : SMine) (place : Int) : ref03_to m place = (ref03_to_t m place).get := ref03_to_m.val_eq (fun x => (SMine.dec (aggL (gd x.1 0)), intA (gd x.1 1))) (fun p => by kernel_rfl) (m, place)

/-! minecontrol/minecontrolref03.Way -/
noncomputable def ref03_Way_l14_step (_u14_0 _u14_1 : Int) (u14_2 : Sq SPlace) (u14_3 : Sq SRoad) (u14_4 u14_5 : Sq Int) (u14_9 u14_10 : Int) (u14_6 : Sq Int) (u14_7 u14_8 : Int) : DT (LR ((Sq Int) × Int × Int) (Int × (Sq Int)) (Unit)) :=
 .ite (decide (u14_8 < (2 : Int))) (
 .ite (decide ((0 : Int) ≤ u14_9 ∧ u14_9 < ((u14_3.n : Nat) : Int))) (
 .bind (ref03_ends (u14_3.f (Int.toNat u14_9)) (u14_8 == (1 : Int))) fun z0 =>
 .bind (ref03_Time (SMine.mk u14_2 u14_3) u14_9 (u14_8 == (1 : Int))) fun z1 =>
 .ite (z0.1 == u14_10) (
 .ite (decide (z1 ≥ (0 : Int))) (
 .ite (decide ((0 : Int) ≤ z0.2 ∧ z0.2 < ((u14_4.n : Nat) : Int))) (
 .ite (decide ((u14_4.f (Int.toNat z0.2)) ≥ (0 : Int))) (
 .ite (decide ((0 : Int) ≤ z0.2 ∧ z0.2 < ((u14_4.n : Nat) : Int))) (
 .ite (decide ((0 : Int) ≤ u14_10 ∧ u14_10 < ((u14_4.n : Nat) : Int))) (
 .ite ((wr ((u14_4.f (Int.toNat z0.2)) + z1)) == (u14_4.f (Int.toNat u14_10))) (
 .ite (decide ((0 : Int) ≤ z0.2 ∧ z0.2 < ((u14_5.n : Nat) : Int))) (
 .ite (decide ((0 : Int) ≤ u14_10 ∧ u14_10 < ((u14_5.n : Nat) : Int))) (
 .ite ((wr ((u14_5.f (Int.toNat z0.2)) + (1 : Int))) == (u14_5.f (Int.toNat u14_10))) (
 .ite (decide (u14_7 < (0 : Int))) (
 .ite (decide ((u14_6.n + 1) * 8 ≤ 140737488355328 ∧ (u14_6.n + 1) ≤ 1099511627776)) (
 .leaf (.next ((Sq.mk (u14_6.n + 1) (fun k0 => (cond (Nat.blt k0 u14_6.n) (u14_6.f k0) u14_9))), z0.2, (wr (u14_8 + (1 : Int)))))) (
 .fail)) (
 .leaf (.next (u14_6, u14_7, (wr (u14_8 + (1 : Int))))))) (
 .leaf (.next (u14_6, u14_7, (wr (u14_8 + (1 : Int))))))) (
 .fail)) (
 .fail)) (
 .leaf (.next (u14_6, u14_7, (wr (u14_8 + (1 : Int))))))) (
 .fail)) (
 .fail)) (
 .leaf (.next (u14_6, u14_7, (wr (u14_8 + (1 : Int))))))) (
 .fail)) (
 .leaf (.next (u14_6, u14_7, (wr (u14_8 + (1 : Int))))))) (
 .leaf (.next (u14_6, u14_7, (wr (u14_8 + (1 : Int))))))) (
 .fail)) (
 .leaf (.l (u14_7, u14_6)))
noncomputable def ref03_Way_l14_m : LpM := ⟨Int × Int × (Sq SPlace) × (Sq SRoad) × (Sq Int) × (Sq Int) × Int × Int, (Sq Int) × Int × Int, Int × (Sq Int), Unit, fun p => ⟨[(1, .int .i64 p.1.1), (2, .int .i64 p.1.2.1), (3, .ptr 0 0), (9, .own 2176 0), (10, .own 2177 0), (11, .own 3072 0), (12, .int .i64 p.1.2.2.2.2.2.2.2), (13, .int .i64 p.2.2.1), (14, .int .i64 p.1.2.2.2.2.2.2.1), (15, .int .i64 p.2.2.2)], [(0, .var [sqA 2 SPlace.enc p.1.2.2.1, sqA 10 SRoad.enc p.1.2.2.2.1]), (2176, rowA 0 1 3 (eI .i64) p.1.2.2.2.2.1), (2177, rowA 0 1 3 (eI .i64) p.1.2.2.2.2.2.1), (3072, rowA 0 1 3 (eI .i64) p.2.1)], 4224⟩, fun f v => ref03_Way_l14_step f.1 f.2.1 f.2.2.1 f.2.2.2.1 f.2.2.2.2.1 f.2.2.2.2.2.1 f.2.2.2.2.2.2.1 f.2.2.2.2.2.2.2 v.1 v.2.1 v.2.2, true, (.exit 4), (fun x a => ⟨[(1, aget x.tm 1), (2, aget x.tm 2), (3, .ptr 0 0), (9, .own 2176 0), (10, .own 2177 0), (11, .own 3072 0), (12, aget x.tm 12), (13, .int .i64 a.1), (14, aget x.tm 14)], [(0, blkS x 0), (2176, blkS x 2176), (2177, blkS x 2177), (3072, rowA 0 1 3 (eI .i64) a.2)], 4224⟩), .ret, (fun _ _ => ⟨[], [], 0⟩), c1, c1k⟩
noncomputable def ref03_Way_l14 (u14_0 u14_1 : Int) (u14_2 : Sq SPlace) (u14_3 : Sq SRoad) (u14_4 u14_5 : Sq Int) (u14_9 u14_10 : Int) (u14_6 : Sq Int) (u14_7 u14_8 : Int) : Option ((Int × (Sq Int)) ⊕ (Unit)) := ref03_Way_l14_m.val ((u14_0, u14_1, u14_2, u14_3, u14_4, u14_5, u14_9, u14_10), (u14_6, u14_7, u14_8))
theorem ref03_Way_l14_eq (u14_0 u14_1 : Int) (u14_2 : Sq SPlace) (u14_3 : Sq SRoad) (u14_4 u14_5 : Sq Int) (u14_9 u14_10 : Int) (u14_6 : Sq Int) (u14_7 u14_8 : Int) : ref03_Way_l14 u14_0 u14_1 u14_2 u14_3 u14_4 u14_5 u14_9 u14_10 u14_6 u14_7 u14_8 = fixO (fun v : (Sq Int) × Int × Int => ref03_Way_l14_step u14_0 u14_1 u14_2 u14_3 u14_4 u14_5 u14_9 u14_10 v.1 v.2.1 v.2.2) (u14_6, u14_7, u14_8) := ref03_Way_l14_m.val_eq (fun x => ((intA (aget x.tm 1), intA (aget x.tm 2), sqD SPlace.dec (cellS x 0 0), sqD SRoad.dec (cellS x 0 1), sqB dI (blkS x 2176), sqB dI (blkS x 2177), intA (aget x.tm 14), intA (aget x.tm 12)), (sqB dI (blkS x 3072), intA (aget x.tm 13), intA (aget x.tm 15)))) (fun p => by kernel_rfl) ((u14_0, u14_1, u14_2, u14_3, u14_4, u14_5, u14_9, u14_10), (u14_6, u14_7, u14_8))
noncomputable def ref03_Way_l11_step (u11_0 u11_1 : Int) (u11_2 : Sq SPlace) (u11_3 : Sq SRoad) (u11_4 u11_5 : Sq Int) (u11_9 : Int) (u11_6 : Sq Int) (u11_7 u11_8 : Int) : DT (LR ((Sq Int) × Int × Int) (Int × (Sq Int)) (Unit)) :=
 .ite (decide (u11_8 < ((u11_3.n : Nat) : Int))) (
 .ite (decide (u11_7 < (0 : Int))) (
 .sum (ref03_Way_l14 u11_0 u11_1 u11_2 u11_3 u11_4 u11_5 u11_8 u11_9 u11_6 u11_7 (0 : Int)) (fun y0 =>
 .leaf (.next (y0.2, y0.1, (wr (u11_8 + (1 : Int)))))) (fun _ => .fail)) (
 .leaf (.l (u11_7, u11_6)))) (
 .leaf (.l (u11_7, u11_6)))
noncomputable def ref03_Way_l11_m : LpM := ⟨Int × Int × (Sq SPlace) × (Sq SRoad) × (Sq Int) × (Sq Int) × Int, (Sq Int) × Int × Int, Int × (Sq Int), Unit, fun p => ⟨[(1, .int .i64 p.1.1), (2, .int .i64 p.1.2.1), (3, .ptr 0 0), (9, .own 2176 0), (10, .own 2177 0), (11, .own 3072 0), (12, .int .i64 p.1.2.2.2.2.2.2), (13, .int .i64 p.2.2.1), (14, .int .i64 p.2.2.2)], [(0, .var [sqA 2 SPlace.enc p.1.2.2.1, sqA 10 SRoad.enc p.1.2.2.2.1]), (2176, rowA 0 1 3 (eI .i64) p.1.2.2.2.2.1), (2177, rowA 0 1 3 (eI .i64) p.1.2.2.2.2.2.1), (3072, rowA 0 1 3 (eI .i64) p.2.1)], 3584⟩, fun f v => ref03_Way_l11_step f.1 f.2.1 f.2.2.1 f.2.2.2.1 f.2.2.2.2.1 f.2.2.2.2.2.1 f.2.2.2.2.2.2 v.1 v.2.1 v.2.2, true, (.exit 2), (fun x a => ⟨[(1, aget x.tm 1), (2, aget x.tm 2), (3, .ptr 0 0), (9, .own 2176 0), (10, .own 2177 0), (11, .own 3072 0), (13, .int .i64 a.1)], [(0, blkS x 0), (2176, blkS x 2176), (2177, blkS x 2177), (3072, rowA 0 1 3 (eI .i64) a.2)], 3584⟩), .ret, (fun _ _ => ⟨[], [], 0⟩), c1, c1k⟩
noncomputable def ref03_Way_l11 (u11_0 u11_1 : Int) (u11_2 : Sq SPlace) (u11_3 : Sq SRoad) (u11_4 u11_5 : Sq Int) (u11_9 : Int) (u11_6 : Sq Int) (u11_7 u11_8 : Int) : Option ((Int × (Sq Int)) ⊕ (Unit)) := ref03_Way_l11_m.val ((u11_0, u11_1, u11_2, u11_3, u11_4, u11_5, u11_9), (u11_6, u11_7, u11_8))
theorem ref03_Way_l11_eq (u11_0 u11_1 : Int) (u11_2 : Sq SPlace) (u11_3 : Sq SRoad) (u11_4 u11_5 : Sq Int) (u11_9 : Int) (u11_6 : Sq Int) (u11_7 u11_8 : Int) : ref03_Way_l11 u11_0 u11_1 u11_2 u11_3 u11_4 u11_5 u11_9 u11_6 u11_7 u11_8 = fixO (fun v : (Sq Int) × Int × Int => ref03_Way_l11_step u11_0 u11_1 u11_2 u11_3 u11_4 u11_5 u11_9 v.1 v.2.1 v.2.2) (u11_6, u11_7, u11_8) := ref03_Way_l11_m.val_eq (fun x => ((intA (aget x.tm 1), intA (aget x.tm 2), sqD SPlace.dec (cellS x 0 0), sqD SRoad.dec (cellS x 0 1), sqB dI (blkS x 2176), sqB dI (blkS x 2177), intA (aget x.tm 12)), (sqB dI (blkS x 3072), intA (aget x.tm 13), intA (aget x.tm 14)))) (fun p => by kernel_rfl) ((u11_0, u11_1, u11_2, u11_3, u11_4, u11_5, u11_9), (u11_6, u11_7, u11_8))
noncomputable def ref03_Way_l8_step (u8_0 u8_1 : Int) (u8_2 : Sq SPlace) (u8_3 : Sq SRoad) (u8_4 u8_5 u8_6 : Sq Int) (u8_7 : Int) : DT (LR ((Sq Int) × Int) ((Sq Int)) (Unit)) :=
 .ite (u8_7 != u8_1) (
 .sum (ref03_Way_l11 u8_0 u8_1 u8_2 u8_3 u8_4 u8_5 u8_7 u8_6 (-1 : Int) (0 : Int)) (fun y1 =>
 .leaf (.next (y1.2, y1.1))) (fun _ => .fail)) (
 .leaf (.l u8_6))
noncomputable def ref03_Way_l8_m : LpM := ⟨Int × Int × (Sq SPlace) × (Sq SRoad) × (Sq Int) × (Sq Int), (Sq Int) × Int, (Sq Int), Unit, fun p => ⟨[(1, .int .i64 p.1.1), (2, .int .i64 p.1.2.1), (3, .ptr 0 0), (9, .own 2176 0), (10, .own 2177 0), (11, .own 3072 0), (12, .int .i64 p.2.2)], [(0, .var [sqA 2 SPlace.enc p.1.2.2.1, sqA 10 SRoad.enc p.1.2.2.2.1]), (2176, rowA 0 1 3 (eI .i64) p.1.2.2.2.2.1), (2177, rowA 0 1 3 (eI .i64) p.1.2.2.2.2.2), (3072, rowA 0 1 3 (eI .i64) p.2.1)], 3264⟩, fun f v => ref03_Way_l8_step f.1 f.2.1 f.2.2.1 f.2.2.2.1 f.2.2.2.2.1 f.2.2.2.2.2 v.1 v.2, true, (.exit 0), (fun x a => ⟨[(1, aget x.tm 1), (9, .own 2176 0), (11, .own 3072 0)], [(0, blkS x 0), (2176, blkS x 2176), (2177, blkS x 2177), (3072, rowA 0 1 3 (eI .i64) a)], 3264⟩), .ret, (fun _ _ => ⟨[], [], 0⟩), c1, c1k⟩
noncomputable def ref03_Way_l8 (u8_0 u8_1 : Int) (u8_2 : Sq SPlace) (u8_3 : Sq SRoad) (u8_4 u8_5 u8_6 : Sq Int) (u8_7 : Int) : Option (((Sq Int)) ⊕ (Unit)) := ref03_Way_l8_m.val ((u8_0, u8_1, u8_2, u8_3, u8_4, u8_5), (u8_6, u8_7))
theorem ref03_Way_l8_eq (u8_0 u8_1 : Int) (u8_2 : Sq SPlace) (u8_3 : Sq SRoad) (u8_4 u8_5 u8_6 : Sq Int) (u8_7 : Int) : ref03_Way_l8 u8_0 u8_1 u8_2 u8_3 u8_4 u8_5 u8_6 u8_7 = fixO (fun v : (Sq Int) × Int => ref03_Way_l8_step u8_0 u8_1 u8_2 u8_3 u8_4 u8_5 v.1 v.2) (u8_6, u8_7) := ref03_Way_l8_m.val_eq (fun x => ((intA (aget x.tm 1), intA (aget x.tm 2), sqD SPlace.dec (cellS x 0 0), sqD SRoad.dec (cellS x 0 1), sqB dI (blkS x 2176), sqB dI (blkS x 2177)), (sqB dI (blkS x 3072), intA (aget x.tm 12)))) (fun p => by kernel_rfl) ((u8_0, u8_1, u8_2, u8_3, u8_4, u8_5), (u8_6, u8_7))
noncomputable def ref03_Way_t (m : SMine) (from_ end_ : Int) : DT ((Sq Int) × Int × Bool) :=
 .bind (ref01_Check m) fun z2 =>
 .ite (z2 != (0 : Int)) (
 .leaf ((Sq.mk 0 (fun _ => (0 : Int))), (0 : Int), false)) (
 .ite (decide (from_ < (0 : Int))) (
 .leaf ((Sq.mk 0 (fun _ => (0 : Int))), (0 : Int), false)) (
 .ite (decide (from_ ≥ ((m.Places.n : Nat) : Int))) (
 .leaf ((Sq.mk 0 (fun _ => (0 : Int))), (0 : Int), false)) (
 .ite (decide (end_ < (0 : Int))) (
 .leaf ((Sq.mk 0 (fun _ => (0 : Int))), (0 : Int), false)) (
 .ite (decide (end_ ≥ ((m.Places.n : Nat) : Int))) (
 .leaf ((Sq.mk 0 (fun _ => (0 : Int))), (0 : Int), false)) (
 .bind (ref03_to m end_) fun z3 =>
 .ite (decide ((0 : Int) ≤ from_ ∧ from_ < ((z3.1.n : Nat) : Int))) (
 .ite (decide ((z3.1.f (Int.toNat from_)) < (0 : Int))) (
 .leaf ((Sq.mk 0 (fun _ => (0 : Int))), (0 : Int), false)) (
 .sum (ref03_Way_l8 from_ end_ m.Places m.Roads z3.1 z3.2 (Sq.mk 0 (fun _ => (0 : Int))) from_) (fun y2 =>
 .ite (decide ((0 : Int) ≤ from_ ∧ from_ < ((z3.1.n : Nat) : Int))) (.leaf (y2, (z3.1.f (Int.toNat from_)), true)) (.fail)) (fun _ => .fail))) (
 .fail))))))
noncomputable def ref03_Way_m : FnM := nfM (SMine × Int × Int) ((Sq Int) × Int × Bool) (fun p => ([.agg (SMine.enc p.1), .int .i64 p.2.1, .int .i64 p.2.2], [])) (fun p => ref03_Way_t p.1 p.2.1 p.2.2) (fun r => .tup [.own 0 0, .int .i64 r.2.1, .bool r.2.2]) (fun _ r => [rowA 0 1 3 (eI .i64) r.1])
noncomputable def ref03_Way_env : Env := envM [(20, ref01_Check_m.c), (21, ref03_to_m.c), (22, ref03_ends_m.c), (23, ref03_Time_m.c)] [(14, [1, 2, 3, 9, 10, 11, 12, 13, 14, 15], [1, 2, 3, 9, 10, 11, 12, 13, 14]), (11, [1, 2, 3, 9, 10, 11, 12, 13, 14], [1, 2, 3, 9, 10, 11, 13]), (8, [1, 2, 3, 9, 10, 11, 12], [1, 9, 11])] [(14, ref03_Way_l14_m.c), (11, ref03_Way_l11_m.c), (8, ref03_Way_l8_m.c)] [(1000014, [.asrow 3072 3 1 (fun _ => (eI .i64) (0 : Int))]), (1000011, [.asrow 3072 3 1 (fun _ => (eI .i64) (0 : Int))]), (1000008, [.asrow 3072 3 1 (fun _ => (eI .i64) (0 : Int))]), (2000000, [.asrow 1856 3 1 (fun _ => (eI .i64) (0 : Int)), .asrow 2880 3 1 (fun _ => (eI .i64) (0 : Int))])] [(14, [0, 2176, 2177, 3072]), (11, [0, 2176, 2177, 3072]), (8, [0, 2176, 2177, 3072])] 0
noncomputable def ref03_Way_e : Env := { ref03_Way_env with nt := 144 }
theorem ref03_Way_l14_tells : LoopTells ref03_Way_e (loopOf 14 Tryd.f8) ref03_Way_l14_m.c := ref03_Way_l14_m.tells 4224 (fun _ => by kernel_rfl) (fun _ _ _ _ => by kernel_rfl) (fun _ _ _ _ => by kernel_rfl) fun R f v N K => by kernel_rfl
theorem ref03_Way_l11_tells : LoopTells ref03_Way_e (loopOf 11 Tryd.f8) ref03_Way_l11_m.c := ref03_Way_l11_m.tells 3584 (fun _ => by kernel_rfl) (fun _ _ _ _ => by kernel_rfl) (fun _ _ _ _ => by kernel_rfl) fun R f v N K => by kernel_rfl
theorem ref03_Way_l8_tells : LoopTells ref03_Way_e (loopOf 8 Tryd.f8) ref03_Way_l8_m.c := ref03_Way_l8_m.tells 3264 (fun _ => by kernel_rfl) (fun _ _ _ _ => by kernel_rfl) (fun _ _ _ _ => by kernel_rfl) fun R f v N K => by kernel_rfl
theorem ref03_Way_tells : Tells Tryd.prog 8 ref03_Way_m.c := ref03_Way_m.tells Tryd.func8 (show ∀ p, arun ref03_Way_env Tryd.f8 (ref03_Way_m.enc p).1 (ref03_Way_m.enc p).2 = _ from fun p => by kernel_rfl) (loopsL [loopOf 8 Tryd.f8, loopOf 11 Tryd.f8, loopOf 14 Tryd.f8] (by kernel_rfl) ⟨lpT (by kernel_rfl) ref03_Way_l8_tells, ⟨lpT (by kernel_rfl) ref03_Way_l11_tells, ⟨lpT (by kernel_rfl) ref03_Way_l14_tells, trivial⟩⟩⟩) (.cons ref01_Check_tells (.cons ref03_to_tells (.cons ref03_ends_tells (.cons ref03_Time_tells .nil))))
noncomputable def ref03_Way (m : SMine) (from_ end_ : Int) : Option ((Sq Int) × Int × Bool) := ref03_Way_m.val (m, from_, end_)
theorem ref03_Way_eq (m : SMine) (from_ end_ : Int) : ref03_Way m from_ end_ = (ref03_Way_t m from_ end_).get := ref03_Way_m.val_eq (fun x => (SMine.dec (aggL (gd x.1 0)), intA (gd x.1 1), intA (gd x.1 2))) (fun p => by kernel_rfl) (m, from_, end_)

/-! minecontrol/minecontrollaw03.WalkWays -/
noncomputable def law03_WalkWays_l4_step (u4_0 : Sq SPlace) (u4_1 : Sq SRoad) (u4_2 : Sq SAnon30) (u4_3 : Int) : DT (LR (Int) (Unit) (Unit)) :=
 .ite (decide (u4_3 < (2 : Int))) (
 .ite (decide ((0 : Int) ≤ u4_3 ∧ u4_3 < ((u4_2.n : Nat) : Int))) (
 .bind (walk_Way (SMine.mk u4_0 u4_1) (u4_2.f (Int.toNat u4_3)).e0_ (u4_2.f (Int.toNat u4_3)).e1_) fun z0 =>
 .bind (ref03_Way (SMine.mk u4_0 u4_1) (u4_2.f (Int.toNat u4_3)).e0_ (u4_2.f (Int.toNat u4_3)).e1_) fun z1 =>
 .bind (ref01_Ints z0.1 z1.1) fun z2 =>
 .ite (!z2) (
 .leaf (.r ())) (
 .ite (z0.2.1 != z1.2.1) (
 .leaf (.r ())) (
 .ite (!(z0.2.2 == z1.2.2)) (
 .leaf (.r ())) (
 .leaf (.next (wr (u4_3 + (1 : Int)))))))) (
 .fail)) (
 .leaf (.l ()))
noncomputable def law03_WalkWays_l4_m : LpM := ⟨(Sq SPlace) × (Sq SRoad) × (Sq SAnon30), Int, Unit, Unit, fun p => ⟨[(7, .ptr 256 0), (33, .own 1280 0), (34, .int .i64 (2 : Int)), (35, .int .i64 p.2)], [(192, .dead 0), (193, .dead 0), (256, .var [sqA 2 SPlace.enc p.1.1, sqA 10 SRoad.enc p.1.2.1]), (1280, rowA 0 2 30 SAnon30.enc p.1.2.2)], 1472⟩, fun f v => law03_WalkWays_l4_step f.1 f.2.1 f.2.2 v, false, (.exit 0), (fun x _ => ⟨[(6, .undef)], [(192, .dead 0), (193, .dead 0), (256, blkS x 256), (1280, blkS x 1280)], 1472⟩), .ret, (fun x _ => ⟨[(6, .bool false)], [(192, .dead 0), (193, .dead 0), (256, blkS x 256), (1280, blkS x 1280)], 1472⟩), c1, c1k⟩
noncomputable def law03_WalkWays_l4 (u4_0 : Sq SPlace) (u4_1 : Sq SRoad) (u4_2 : Sq SAnon30) (u4_3 : Int) : Option ((Unit) ⊕ (Unit)) := law03_WalkWays_l4_m.val ((u4_0, u4_1, u4_2), u4_3)
theorem law03_WalkWays_l4_eq (u4_0 : Sq SPlace) (u4_1 : Sq SRoad) (u4_2 : Sq SAnon30) (u4_3 : Int) : law03_WalkWays_l4 u4_0 u4_1 u4_2 u4_3 = fixO (fun v : Int => law03_WalkWays_l4_step u4_0 u4_1 u4_2 v) u4_3 := law03_WalkWays_l4_m.val_eq (fun x => ((sqD SPlace.dec (cellS x 256 0), sqD SRoad.dec (cellS x 256 1), sqB SAnon30.dec (blkS x 1280)), intA (aget x.tm 35))) (fun p => by kernel_rfl) ((u4_0, u4_1, u4_2), u4_3)
noncomputable def law03_WalkWays_t (codes : Sq Int) (from_ to_ : Int) : DT (Bool) :=
 .bind (New codes) fun z3 =>
 .bind (Codes_Mine z3) fun z4 =>
 .bind (Mod from_ ((z4.1.Places.n : Nat) : Int)) fun z5 =>
 .bind (Mod to_ ((z4.1.Places.n : Nat) : Int)) fun z6 =>
 .sum (law03_WalkWays_l4 z4.1.Places z4.1.Roads (Sq.mk 2 (fun k0 => (SAnon30.mk (cond (Nat.beq k0 0) from_ z5) (cond (Nat.beq k0 0) to_ z6)))) (0 : Int)) (fun _ =>
 .bind (law03_awake) fun z7 =>
 .leaf z7) (fun _ => .leaf false)
noncomputable def law03_WalkWays_m : FnM := flM ((Sq Int) × Int × Int) (Bool) (fun p => ([sqA 1 (eI .u8) p.1, .int .i64 p.2.1, .int .i64 p.2.2], [])) (fun p => law03_WalkWays_t p.1 p.2.1 p.2.2) (fun r => .bool r) (fun _ => rfl)
noncomputable def law03_WalkWays_env : Env := envM [(4, New_m.c), (5, Codes_Mine_m.c), (6, Mod_m.c), (7, walk_Way_m.c), (8, ref03_Way_m.c), (9, ref01_Ints_m.c), (10, law03_awake_m.c)] [(4, [7, 33, 34, 35], [6])] [(4, law03_WalkWays_l4_m.c)] [(6, [.freeze 192, .freeze 193]), (1000004, [.freeze 192, .freeze 193])] [(4, [192, 193, 256, 1280])] 0
noncomputable def law03_WalkWays_e : Env := { law03_WalkWays_env with nt := 75 }
theorem law03_WalkWays_l4_tells : LoopTells law03_WalkWays_e (loopOf 4 Tryd.f3) law03_WalkWays_l4_m.c := law03_WalkWays_l4_m.tells 1472 (fun _ => by kernel_rfl) (fun _ _ _ _ => by kernel_rfl) (fun _ _ _ _ => by kernel_rfl) fun R f v N K => by kernel_rfl
theorem law03_WalkWays_tells : Tells Tryd.prog 3 law03_WalkWays_m.c := law03_WalkWays_m.tells Tryd.func3 (show ∀ p, arun law03_WalkWays_env Tryd.f3 (law03_WalkWays_m.enc p).1 (law03_WalkWays_m.enc p).2 = _ from fun p => by kernel_rfl) (loopsL [loopOf 4 Tryd.f3] (by kernel_rfl) ⟨lpT (by kernel_rfl) law03_WalkWays_l4_tells, trivial⟩) (.cons New_tells (.cons Codes_Mine_tells (.cons Mod_tells (.cons walk_Way_tells (.cons ref03_Way_tells (.cons ref01_Ints_tells (.cons law03_awake_tells .nil)))))))
noncomputable def law03_WalkWays (codes : Sq Int) (from_ to_ : Int) : Option (Bool) := law03_WalkWays_m.val (codes, from_, to_)
theorem law03_WalkWays_eq (codes : Sq Int) (from_ to_ : Int) : law03_WalkWays codes from_ to_ = (law03_WalkWays_t codes from_ to_).get := law03_WalkWays_m.val_eq (fun x => (sqD dI (gd x.1 0), intA (gd x.1 1), intA (gd x.1 2))) (fun p => by kernel_rfl) (codes, from_, to_)
theorem law03_WalkWays_inj : ∀ a b, law03_WalkWays_m.enc a = law03_WalkWays_m.enc b → a = b := linj (fun x => (sqD dI (gd x.1 0), intA (gd x.1 1), intA (gd x.1 2))) (fun p => by kernel_rfl)
end Go.Proofs.YtfedelfcdjldlaaDoor.Ab
