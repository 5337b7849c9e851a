/- A part of the proof, what is needed of it. -/
import Derived.Test.YtimkpfnbkclclaaGreatPk08
namespace Go.Proofs.YtimkpfnbkclclaaGreat.Ab
noncomputable section
open Go
attribute [local irreducible] arun
def Zo (a : SAir) (s : qz) (road : Int) : DT (Bool) :=
 .bind (Gi a s) fun z0 =>
 .ite z0 (
 .ite (decide (road ≥ (0 : Int))) (
 .ite (decide (road < ((a.Mine.Roads.n : Nat) : Int))) (
 .ite (decide ((0 : Int) ≤ road ∧ road < ((a.Mine.Roads.n : Nat) : Int))) (.leaf (!(a.Mine.Roads.f (Int.toNat road)).Closed)) (.fail)) (
 .leaf false)) (
 .leaf false)) (
 .leaf false)
def CS : FnM := flM (SAir × qz × Int) (Bool) (fun p => ([.agg (SAir.enc p.1), .agg (qz.enc p.2.1), .int .i64 p.2.2], [])) (fun p => Zo p.1 p.2.1 p.2.2) (fun r => .bool r) (fun _ => rfl)
def ab9 : Env := envM [(43, uR.c)] [] [] [] [] 0
theorem Z9 : aI Tryz.prog 93 CS.c := CS.tells Tryz.func93 (show ∀ p, arun ab9 Tryz.f93 (CS.enc p).1 (CS.enc p).2 = _ from fun p => by kernel_rfl) p8 (.cons zA .nil)
def acO (a : SAir) (s : qz) (road : Int) : Option (Bool) := CS.val (a, s, road)
theorem aii (a : SAir) (s : qz) (road : Int) : acO a s road = (Zo a s road).get := CS.val_eq (fun x => (SAir.dec (aggL (gd x.1 0)), qz.dec (aggL (gd x.1 1)), intA (gd x.1 2))) (fun p => by kernel_rfl) (a, s, road)
def Zm (a : SAir) (s : qz) (road flow : Int) : DT (qB) :=
 .bind (acO a s road) fun z0 =>
 .ite (!z0) (
 .leaf (qB.mk (0 : Int) (0 : Int))) (
 .ite (decide (flow < (-1048577 : Int))) (
 .leaf (qB.mk (0 : Int) (0 : Int))) (
 .ite (decide (flow > (1048577 : Int))) (
 .leaf (qB.mk (0 : Int) (0 : Int))) (
 .bind (Ny a s road flow) fun z1 =>
 .leaf z1)))
def CP : FnM := flM (SAir × qz × Int × Int) (qB) (fun p => ([.agg (SAir.enc p.1), .agg (qz.enc p.2.1), .int .i64 p.2.2.1, .int .i64 p.2.2.2], [])) (fun p => Zm p.1 p.2.1 p.2.2.1 p.2.2.2) (fun r => .agg (qB.enc r)) (fun _ => rfl)
def ab7 : Env := envM [(93, CS.c), (94, wF.c)] [] [] [] [] 0
theorem Z7 : aI Tryz.prog 59 CP.c := CP.tells Tryz.func59 (show ∀ p, arun ab7 Tryz.f59 (CP.enc p).1 (CP.enc p).2 = _ from fun p => by kernel_rfl) p8 (.cons Z9 (.cons Gh .nil))
def Yz (a : SAir) (s : qz) (road flow : Int) : Option (qB) := CP.val (a, s, road, flow)
theorem aie (a : SAir) (s : qz) (road flow : Int) : Yz a s road flow = (Zm a s road flow).get := CP.val_eq (fun x => (SAir.dec (aggL (gd x.1 0)), qz.dec (aggL (gd x.1 1)), intA (gd x.1 2), intA (gd x.1 3))) (fun p => by kernel_rfl) (a, s, road, flow)
def KX (_u9_0 : Sq qA) (_u9_1 : Sq qC) (_u9_2 : Sq SFan) (_u9_3 : Sq qD) (_u9_4 _u9_5 u9_6 _u9_7 : Sq Int) (u9_8 : Int) : DT (LR (Int) (Unit) (Unit)) :=
 .ite (decide (u9_8 < ((u9_6.n : Nat) : Int))) (
 .ite (decide ((0 : Int) ≤ u9_8 ∧ u9_8 < ((u9_6.n : Nat) : Int))) (
 .ite (decide ((u9_6.f (Int.toNat u9_8)) < (-70368744177664 : Int))) (
 .leaf (.r ())) (
 .ite (decide ((0 : Int) ≤ u9_8 ∧ u9_8 < ((u9_6.n : Nat) : Int))) (
 .ite (decide ((u9_6.f (Int.toNat u9_8)) > (70368744177664 : Int))) (
 .leaf (.r ())) (
 .leaf (.next (wr (u9_8 + (1 : Int)))))) (
 .fail))) (
 .fail)) (
 .leaf (.l ()))
def CQ : LpM := ⟨(Sq qA) × (Sq qC) × (Sq SFan) × (Sq qD) × (Sq Int) × (Sq Int) × (Sq Int) × (Sq Int), Int, Unit, Unit, fun p => ⟨[(3, .ptr 0 0), (4, .ptr 64 0), (5, .ptr 128 0), (8, .int .i64 p.2)], [(0, .var [sqA 2 qA.enc p.1.1, sqA 10 qC.enc p.1.2.1, sqA 4 SFan.enc p.1.2.2.1, sqA 3 qD.enc p.1.2.2.2.1]), (64, .var [sqA 1 (eI .i64) p.1.2.2.2.2.1, sqA 1 (eI .i64) p.1.2.2.2.2.2.1]), (128, .var [sqA 1 (eI .i64) p.1.2.2.2.2.2.2.1, sqA 1 (eI .i64) p.1.2.2.2.2.2.2.2])], 2304⟩, fun f v => KX f.1 f.2.1 f.2.2.1 f.2.2.2.1 f.2.2.2.2.1 f.2.2.2.2.2.1 f.2.2.2.2.2.2.1 f.2.2.2.2.2.2.2 v, false, (.exit 0), (fun x _ => ⟨[(3, .ptr 0 0), (4, .ptr 64 0), (5, .ptr 128 0), (6, .undef)], [(0, blkS x 0), (64, blkS x 64), (128, blkS x 128)], 2304⟩), .ret, (fun x _ => ⟨[(3, .ptr 0 0), (4, .ptr 64 0), (5, .ptr 128 0), (6, .int .i64 (1 : Int))], [(0, blkS x 0), (64, blkS x 64), (128, blkS x 128)], 2304⟩), c1, c1k⟩
def Xl (u9_0 : Sq qA) (u9_1 : Sq qC) (u9_2 : Sq SFan) (u9_3 : Sq qD) (u9_4 u9_5 u9_6 u9_7 : Sq Int) (u9_8 : Int) : Option ((Unit) ⊕ (Unit)) := CQ.val ((u9_0, u9_1, u9_2, u9_3, u9_4, u9_5, u9_6, u9_7), u9_8)
theorem agB (u9_0 : Sq qA) (u9_1 : Sq qC) (u9_2 : Sq SFan) (u9_3 : Sq qD) (u9_4 u9_5 u9_6 u9_7 : Sq Int) (u9_8 : Int) : Xl u9_0 u9_1 u9_2 u9_3 u9_4 u9_5 u9_6 u9_7 u9_8 = fixO (fun v : Int => KX u9_0 u9_1 u9_2 u9_3 u9_4 u9_5 u9_6 u9_7 v) u9_8 := CQ.val_eq (fun x => ((sqD qA.dec (cellS x 0 0), sqD qC.dec (cellS x 0 1), sqD SFan.dec (cellS x 0 2), sqD qD.dec (cellS x 0 3), sqD dI (cellS x 64 0), sqD dI (cellS x 64 1), sqD dI (cellS x 128 0), sqD dI (cellS x 128 1)), intA (aget x.tm 8))) (fun p => by kernel_rfl) ((u9_0, u9_1, u9_2, u9_3, u9_4, u9_5, u9_6, u9_7), u9_8)
def JL (_u14_0 : Sq qA) (_u14_1 : Sq qC) (_u14_2 : Sq SFan) (_u14_3 : Sq qD) (_u14_4 _u14_5 _u14_6 u14_7 : Sq Int) (u14_8 : Int) : DT (LR (Int) (Unit) (Unit)) :=
 .ite (decide (u14_8 < ((u14_7.n : Nat) : Int))) (
 .ite (decide ((0 : Int) ≤ u14_8 ∧ u14_8 < ((u14_7.n : Nat) : Int))) (
 .ite (decide ((u14_7.f (Int.toNat u14_8)) < (-1048576 : Int))) (
 .leaf (.r ())) (
 .ite (decide ((0 : Int) ≤ u14_8 ∧ u14_8 < ((u14_7.n : Nat) : Int))) (
 .ite (decide ((u14_7.f (Int.toNat u14_8)) > (1048576 : Int))) (
 .leaf (.r ())) (
 .leaf (.next (wr (u14_8 + (1 : Int)))))) (
 .fail))) (
 .fail)) (
 .leaf (.l ()))
def Bo : LpM := ⟨(Sq qA) × (Sq qC) × (Sq SFan) × (Sq qD) × (Sq Int) × (Sq Int) × (Sq Int) × (Sq Int), Int, Unit, Unit, fun p => ⟨[(3, .ptr 0 0), (4, .ptr 64 0), (5, .ptr 128 0), (9, .int .i64 p.2)], [(0, .var [sqA 2 qA.enc p.1.1, sqA 10 qC.enc p.1.2.1, sqA 4 SFan.enc p.1.2.2.1, sqA 3 qD.enc p.1.2.2.2.1]), (64, .var [sqA 1 (eI .i64) p.1.2.2.2.2.1, sqA 1 (eI .i64) p.1.2.2.2.2.2.1]), (128, .var [sqA 1 (eI .i64) p.1.2.2.2.2.2.2.1, sqA 1 (eI .i64) p.1.2.2.2.2.2.2.2])], 2368⟩, fun f v => JL f.1 f.2.1 f.2.2.1 f.2.2.2.1 f.2.2.2.2.1 f.2.2.2.2.2.1 f.2.2.2.2.2.2.1 f.2.2.2.2.2.2.2 v, false, (.exit 2), (fun x _ => ⟨[(3, .ptr 0 0), (4, .ptr 64 0), (5, .ptr 128 0), (6, .undef)], [(0, blkS x 0), (64, blkS x 64), (128, blkS x 128)], 2368⟩), .ret, (fun x _ => ⟨[(3, .ptr 0 0), (4, .ptr 64 0), (5, .ptr 128 0), (6, .int .i64 (1 : Int))], [(0, blkS x 0), (64, blkS x 64), (128, blkS x 128)], 2368⟩), c1, c1k⟩
def Ug (u14_0 : Sq qA) (u14_1 : Sq qC) (u14_2 : Sq SFan) (u14_3 : Sq qD) (u14_4 u14_5 u14_6 u14_7 : Sq Int) (u14_8 : Int) : Option ((Unit) ⊕ (Unit)) := Bo.val ((u14_0, u14_1, u14_2, u14_3, u14_4, u14_5, u14_6, u14_7), u14_8)
theorem afN (u14_0 : Sq qA) (u14_1 : Sq qC) (u14_2 : Sq SFan) (u14_3 : Sq qD) (u14_4 u14_5 u14_6 u14_7 : Sq Int) (u14_8 : Int) : Ug u14_0 u14_1 u14_2 u14_3 u14_4 u14_5 u14_6 u14_7 u14_8 = fixO (fun v : Int => JL u14_0 u14_1 u14_2 u14_3 u14_4 u14_5 u14_6 u14_7 v) u14_8 := Bo.val_eq (fun x => ((sqD qA.dec (cellS x 0 0), sqD qC.dec (cellS x 0 1), sqD SFan.dec (cellS x 0 2), sqD qD.dec (cellS x 0 3), sqD dI (cellS x 64 0), sqD dI (cellS x 64 1), sqD dI (cellS x 128 0), sqD dI (cellS x 128 1)), intA (aget x.tm 9))) (fun p => by kernel_rfl) ((u14_0, u14_1, u14_2, u14_3, u14_4, u14_5, u14_6, u14_7), u14_8)
def JM (u20_0 : Sq qA) (u20_1 : Sq qC) (u20_2 : Sq SFan) (u20_3 : Sq qD) (u20_4 u20_5 u20_6 u20_7 u20_8 : Sq Int) (u20_9 : Int) : DT (LR ((Sq Int) × Int) ((Sq Int)) ((Sq Int))) :=
 .ite (decide (u20_9 < ((u20_7.n : Nat) : Int))) (
 .ite (decide ((0 : Int) ≤ u20_9 ∧ u20_9 < ((u20_1.n : Nat) : Int))) (
 .ite (u20_1.f (Int.toNat u20_9)).Closed (
 .ite (decide ((0 : Int) ≤ u20_9 ∧ u20_9 < ((u20_7.n : Nat) : Int))) (
 .ite ((u20_7.f (Int.toNat u20_9)) != (0 : Int)) (
 .leaf (.r u20_8)) (
 .ite (decide ((0 : Int) ≤ (u20_1.f (Int.toNat u20_9)).From ∧ (u20_1.f (Int.toNat u20_9)).From < ((u20_6.n : Nat) : Int))) (
 .ite (decide ((0 : Int) ≤ (u20_1.f (Int.toNat u20_9)).To ∧ (u20_1.f (Int.toNat u20_9)).To < ((u20_6.n : Nat) : Int))) (
 .ite (decide ((0 : Int) ≤ u20_9 ∧ u20_9 < ((u20_7.n : Nat) : Int))) (
 .bind (Yz (SAir.mk (qI.mk u20_0 u20_1) u20_2 u20_3) (qz.mk u20_4 u20_5) u20_9 (u20_7.f (Int.toNat u20_9))) fun z0 =>
 .ite (!(u20_1.f (Int.toNat u20_9)).Closed) (
 .ite (decide ((wr ((u20_6.f (Int.toNat (u20_1.f (Int.toNat u20_9)).From)) - (u20_6.f (Int.toNat (u20_1.f (Int.toNat u20_9)).To)))) < z0.Low)) (
 .leaf (.r u20_8)) (
 .ite (decide ((wr ((u20_6.f (Int.toNat (u20_1.f (Int.toNat u20_9)).From)) - (u20_6.f (Int.toNat (u20_1.f (Int.toNat u20_9)).To)))) > z0.High)) (
 .leaf (.r u20_8)) (
 .ite (decide ((0 : Int) ≤ (u20_1.f (Int.toNat u20_9)).From ∧ (u20_1.f (Int.toNat u20_9)).From < ((u20_8.n : Nat) : Int))) (
 .ite (decide ((0 : Int) ≤ u20_9 ∧ u20_9 < ((u20_7.n : Nat) : Int))) (
 .ite (decide ((0 : Int) ≤ (u20_1.f (Int.toNat u20_9)).From ∧ (u20_1.f (Int.toNat u20_9)).From < ((u20_8.n : Nat) : Int))) (
 .ite (decide ((0 : Int) ≤ (u20_1.f (Int.toNat u20_9)).To ∧ (u20_1.f (Int.toNat u20_9)).To < ((u20_8.n : Nat) : Int))) (
 .ite (decide ((0 : Int) ≤ u20_9 ∧ u20_9 < ((u20_7.n : Nat) : Int))) (
 .ite (decide ((0 : Int) ≤ (u20_1.f (Int.toNat u20_9)).To ∧ (u20_1.f (Int.toNat u20_9)).To < ((u20_8.n : Nat) : Int))) (
 .leaf (.next ((Sq.mk u20_8.n (fun k0 => (cond (Nat.beq k0 (Int.toNat (u20_1.f (Int.toNat u20_9)).To)) (wr ((cond (Nat.beq (Int.toNat (u20_1.f (Int.toNat u20_9)).To) (Int.toNat (u20_1.f (Int.toNat u20_9)).From)) (wr ((u20_8.f (Int.toNat (u20_1.f (Int.toNat u20_9)).From)) + (u20_7.f (Int.toNat u20_9)))) (u20_8.f (Int.toNat (u20_1.f (Int.toNat u20_9)).To))) - (u20_7.f (Int.toNat u20_9)))) (cond (Nat.beq k0 (Int.toNat (u20_1.f (Int.toNat u20_9)).From)) (wr ((u20_8.f (Int.toNat (u20_1.f (Int.toNat u20_9)).From)) + (u20_7.f (Int.toNat u20_9)))) (u20_8.f k0))))), (wr (u20_9 + (1 : Int)))))) (
 .fail)) (
 .fail)) (
 .fail)) (
 .fail)) (
 .fail)) (
 .fail)))) (
 .ite (decide ((0 : Int) ≤ (u20_1.f (Int.toNat u20_9)).From ∧ (u20_1.f (Int.toNat u20_9)).From < ((u20_8.n : Nat) : Int))) (
 .ite (decide ((0 : Int) ≤ u20_9 ∧ u20_9 < ((u20_7.n : Nat) : Int))) (
 .ite (decide ((0 : Int) ≤ (u20_1.f (Int.toNat u20_9)).From ∧ (u20_1.f (Int.toNat u20_9)).From < ((u20_8.n : Nat) : Int))) (
 .ite (decide ((0 : Int) ≤ (u20_1.f (Int.toNat u20_9)).To ∧ (u20_1.f (Int.toNat u20_9)).To < ((u20_8.n : Nat) : Int))) (
 .ite (decide ((0 : Int) ≤ u20_9 ∧ u20_9 < ((u20_7.n : Nat) : Int))) (
 .ite (decide ((0 : Int) ≤ (u20_1.f (Int.toNat u20_9)).To ∧ (u20_1.f (Int.toNat u20_9)).To < ((u20_8.n : Nat) : Int))) (
 .leaf (.next ((Sq.mk u20_8.n (fun k1 => (cond (Nat.beq k1 (Int.toNat (u20_1.f (Int.toNat u20_9)).To)) (wr ((cond (Nat.beq (Int.toNat (u20_1.f (Int.toNat u20_9)).To) (Int.toNat (u20_1.f (Int.toNat u20_9)).From)) (wr ((u20_8.f (Int.toNat (u20_1.f (Int.toNat u20_9)).From)) + (u20_7.f (Int.toNat u20_9)))) (u20_8.f (Int.toNat (u20_1.f (Int.toNat u20_9)).To))) - (u20_7.f (Int.toNat u20_9)))) (cond (Nat.beq k1 (Int.toNat (u20_1.f (Int.toNat u20_9)).From)) (wr ((u20_8.f (Int.toNat (u20_1.f (Int.toNat u20_9)).From)) + (u20_7.f (Int.toNat u20_9)))) (u20_8.f k1))))), (wr (u20_9 + (1 : Int)))))) (
 .fail)) (
 .fail)) (
 .fail)) (
 .fail)) (
 .fail)) (
 .fail))) (
 .fail)) (
 .fail)) (
 .fail))) (
 .fail)) (
 .ite (decide ((0 : Int) ≤ (u20_1.f (Int.toNat u20_9)).From ∧ (u20_1.f (Int.toNat u20_9)).From < ((u20_6.n : Nat) : Int))) (
 .ite (decide ((0 : Int) ≤ (u20_1.f (Int.toNat u20_9)).To ∧ (u20_1.f (Int.toNat u20_9)).To < ((u20_6.n : Nat) : Int))) (
 .ite (decide ((0 : Int) ≤ u20_9 ∧ u20_9 < ((u20_7.n : Nat) : Int))) (
 .bind (Yz (SAir.mk (qI.mk u20_0 u20_1) u20_2 u20_3) (qz.mk u20_4 u20_5) u20_9 (u20_7.f (Int.toNat u20_9))) fun z1 =>
 .ite (!(u20_1.f (Int.toNat u20_9)).Closed) (
 .ite (decide ((wr ((u20_6.f (Int.toNat (u20_1.f (Int.toNat u20_9)).From)) - (u20_6.f (Int.toNat (u20_1.f (Int.toNat u20_9)).To)))) < z1.Low)) (
 .leaf (.r u20_8)) (
 .ite (decide ((wr ((u20_6.f (Int.toNat (u20_1.f (Int.toNat u20_9)).From)) - (u20_6.f (Int.toNat (u20_1.f (Int.toNat u20_9)).To)))) > z1.High)) (
 .leaf (.r u20_8)) (
 .ite (decide ((0 : Int) ≤ (u20_1.f (Int.toNat u20_9)).From ∧ (u20_1.f (Int.toNat u20_9)).From < ((u20_8.n : Nat) : Int))) (
 .ite (decide ((0 : Int) ≤ u20_9 ∧ u20_9 < ((u20_7.n : Nat) : Int))) (
 .ite (decide ((0 : Int) ≤ (u20_1.f (Int.toNat u20_9)).From ∧ (u20_1.f (Int.toNat u20_9)).From < ((u20_8.n : Nat) : Int))) (
 .ite (decide ((0 : Int) ≤ (u20_1.f (Int.toNat u20_9)).To ∧ (u20_1.f (Int.toNat u20_9)).To < ((u20_8.n : Nat) : Int))) (
 .ite (decide ((0 : Int) ≤ u20_9 ∧ u20_9 < ((u20_7.n : Nat) : Int))) (
 .ite (decide ((0 : Int) ≤ (u20_1.f (Int.toNat u20_9)).To ∧ (u20_1.f (Int.toNat u20_9)).To < ((u20_8.n : Nat) : Int))) (
 .leaf (.next ((Sq.mk u20_8.n (fun k2 => (cond (Nat.beq k2 (Int.toNat (u20_1.f (Int.toNat u20_9)).To)) (wr ((cond (Nat.beq (Int.toNat (u20_1.f (Int.toNat u20_9)).To) (Int.toNat (u20_1.f (Int.toNat u20_9)).From)) (wr ((u20_8.f (Int.toNat (u20_1.f (Int.toNat u20_9)).From)) + (u20_7.f (Int.toNat u20_9)))) (u20_8.f (Int.toNat (u20_1.f (Int.toNat u20_9)).To))) - (u20_7.f (Int.toNat u20_9)))) (cond (Nat.beq k2 (Int.toNat (u20_1.f (Int.toNat u20_9)).From)) (wr ((u20_8.f (Int.toNat (u20_1.f (Int.toNat u20_9)).From)) + (u20_7.f (Int.toNat u20_9)))) (u20_8.f k2))))), (wr (u20_9 + (1 : Int)))))) (
 .fail)) (
 .fail)) (
 .fail)) (
 .fail)) (
 .fail)) (
 .fail)))) (
 .ite (decide ((0 : Int) ≤ (u20_1.f (Int.toNat u20_9)).From ∧ (u20_1.f (Int.toNat u20_9)).From < ((u20_8.n : Nat) : Int))) (
 .ite (decide ((0 : Int) ≤ u20_9 ∧ u20_9 < ((u20_7.n : Nat) : Int))) (
 .ite (decide ((0 : Int) ≤ (u20_1.f (Int.toNat u20_9)).From ∧ (u20_1.f (Int.toNat u20_9)).From < ((u20_8.n : Nat) : Int))) (
 .ite (decide ((0 : Int) ≤ (u20_1.f (Int.toNat u20_9)).To ∧ (u20_1.f (Int.toNat u20_9)).To < ((u20_8.n : Nat) : Int))) (
 .ite (decide ((0 : Int) ≤ u20_9 ∧ u20_9 < ((u20_7.n : Nat) : Int))) (
 .ite (decide ((0 : Int) ≤ (u20_1.f (Int.toNat u20_9)).To ∧ (u20_1.f (Int.toNat u20_9)).To < ((u20_8.n : Nat) : Int))) (
 .leaf (.next ((Sq.mk u20_8.n (fun k3 => (cond (Nat.beq k3 (Int.toNat (u20_1.f (Int.toNat u20_9)).To)) (wr ((cond (Nat.beq (Int.toNat (u20_1.f (Int.toNat u20_9)).To) (Int.toNat (u20_1.f (Int.toNat u20_9)).From)) (wr ((u20_8.f (Int.toNat (u20_1.f (Int.toNat u20_9)).From)) + (u20_7.f (Int.toNat u20_9)))) (u20_8.f (Int.toNat (u20_1.f (Int.toNat u20_9)).To))) - (u20_7.f (Int.toNat u20_9)))) (cond (Nat.beq k3 (Int.toNat (u20_1.f (Int.toNat u20_9)).From)) (wr ((u20_8.f (Int.toNat (u20_1.f (Int.toNat u20_9)).From)) + (u20_7.f (Int.toNat u20_9)))) (u20_8.f k3))))), (wr (u20_9 + (1 : Int)))))) (
 .fail)) (
 .fail)) (
 .fail)) (
 .fail)) (
 .fail)) (
 .fail))) (
 .fail)) (
 .fail)) (
 .fail))) (
 .fail)) (
 .leaf (.l u20_8))
def Bp : LpM := ⟨(Sq qA) × (Sq qC) × (Sq SFan) × (Sq qD) × (Sq Int) × (Sq Int) × (Sq Int) × (Sq Int), (Sq Int) × Int, (Sq Int), (Sq Int), fun p => ⟨[(3, .ptr 0 0), (4, .ptr 64 0), (5, .ptr 128 0), (10, .own 2560 0), (11, .int .i64 p.2.2)], [(0, .var [sqA 2 qA.enc p.1.1, sqA 10 qC.enc p.1.2.1, sqA 4 SFan.enc p.1.2.2.1, sqA 3 qD.enc p.1.2.2.2.1]), (64, .var [sqA 1 (eI .i64) p.1.2.2.2.2.1, sqA 1 (eI .i64) p.1.2.2.2.2.2.1]), (128, .var [sqA 1 (eI .i64) p.1.2.2.2.2.2.2.1, sqA 1 (eI .i64) p.1.2.2.2.2.2.2.2]), (2560, rowA 0 1 3 (eI .i64) p.2.1)], 2752⟩, fun f v => JM f.1 f.2.1 f.2.2.1 f.2.2.2.1 f.2.2.2.2.1 f.2.2.2.2.2.1 f.2.2.2.2.2.2.1 f.2.2.2.2.2.2.2 v.1 v.2, false, (.exit 4), (fun x a => ⟨[(3, .ptr 0 0), (5, .ptr 128 0), (6, .undef), (10, .own 2560 0)], [(0, blkS x 0), (64, blkS x 64), (128, blkS x 128), (2560, rowA 0 1 3 (eI .i64) a)], 2752⟩), .ret, (fun x a => ⟨[(3, .ptr 0 0), (5, .ptr 128 0), (6, .int .i64 (10 : Int)), (10, .own 2560 0)], [(0, blkS x 0), (64, blkS x 64), (128, blkS x 128), (2560, rowA 0 1 3 (eI .i64) a)], 2752⟩), c1, c1k⟩
def Uh (u20_0 : Sq qA) (u20_1 : Sq qC) (u20_2 : Sq SFan) (u20_3 : Sq qD) (u20_4 u20_5 u20_6 u20_7 u20_8 : Sq Int) (u20_9 : Int) : Option (((Sq Int)) ⊕ ((Sq Int))) := Bp.val ((u20_0, u20_1, u20_2, u20_3, u20_4, u20_5, u20_6, u20_7), (u20_8, u20_9))
theorem afO (u20_0 : Sq qA) (u20_1 : Sq qC) (u20_2 : Sq SFan) (u20_3 : Sq qD) (u20_4 u20_5 u20_6 u20_7 u20_8 : Sq Int) (u20_9 : Int) : Uh u20_0 u20_1 u20_2 u20_3 u20_4 u20_5 u20_6 u20_7 u20_8 u20_9 = fixO (fun v : (Sq Int) × Int => JM u20_0 u20_1 u20_2 u20_3 u20_4 u20_5 u20_6 u20_7 v.1 v.2) (u20_8, u20_9) := Bp.val_eq (fun x => ((sqD qA.dec (cellS x 0 0), sqD qC.dec (cellS x 0 1), sqD SFan.dec (cellS x 0 2), sqD qD.dec (cellS x 0 3), sqD dI (cellS x 64 0), sqD dI (cellS x 64 1), sqD dI (cellS x 128 0), sqD dI (cellS x 128 1)), (sqB dI (blkS x 2560), intA (aget x.tm 11)))) (fun p => by kernel_rfl) ((u20_0, u20_1, u20_2, u20_3, u20_4, u20_5, u20_6, u20_7), (u20_8, u20_9))
def JN (u32_0 : Sq qA) (_u32_1 : Sq qC) (_u32_2 : Sq SFan) (_u32_3 : Sq qD) (u32_4 _u32_5 u32_6 : Sq Int) (u32_7 : Int) : DT (LR (Int) (Unit) (Unit)) :=
 .ite (decide (u32_7 < ((u32_6.n : Nat) : Int))) (
 .ite (decide ((0 : Int) ≤ u32_7 ∧ u32_7 < ((u32_0.n : Nat) : Int))) (
 .ite (u32_0.f (Int.toNat u32_7)).Surface (
 .ite (decide ((0 : Int) ≤ u32_7 ∧ u32_7 < ((u32_4.n : Nat) : Int))) (
 .ite ((u32_4.f (Int.toNat u32_7)) != (0 : Int)) (
 .leaf (.r ())) (
 .ite (decide ((0 : Int) ≤ u32_7 ∧ u32_7 < ((u32_0.n : Nat) : Int))) (
 .ite (!(u32_0.f (Int.toNat u32_7)).Surface) (
 .ite (decide ((0 : Int) ≤ u32_7 ∧ u32_7 < ((u32_6.n : Nat) : Int))) (
 .ite ((u32_6.f (Int.toNat u32_7)) != (0 : Int)) (
 .leaf (.r ())) (
 .leaf (.next (wr (u32_7 + (1 : Int)))))) (
 .fail)) (
 .leaf (.next (wr (u32_7 + (1 : Int)))))) (
 .fail))) (
 .fail)) (
 .ite (decide ((0 : Int) ≤ u32_7 ∧ u32_7 < ((u32_0.n : Nat) : Int))) (
 .ite (!(u32_0.f (Int.toNat u32_7)).Surface) (
 .ite (decide ((0 : Int) ≤ u32_7 ∧ u32_7 < ((u32_6.n : Nat) : Int))) (
 .ite ((u32_6.f (Int.toNat u32_7)) != (0 : Int)) (
 .leaf (.r ())) (
 .leaf (.next (wr (u32_7 + (1 : Int)))))) (
 .fail)) (
 .leaf (.next (wr (u32_7 + (1 : Int)))))) (
 .fail))) (
 .fail)) (
 .leaf (.l ()))
def Bq : LpM := ⟨(Sq qA) × (Sq qC) × (Sq SFan) × (Sq qD) × (Sq Int) × (Sq Int) × (Sq Int), Int, Unit, Unit, fun p => ⟨[(3, .ptr 0 0), (5, .ptr 128 0), (10, .own 2560 0), (15, .int .i64 p.2)], [(0, .var [sqA 2 qA.enc p.1.1, sqA 10 qC.enc p.1.2.1, sqA 4 SFan.enc p.1.2.2.1, sqA 3 qD.enc p.1.2.2.2.1]), (128, .var [sqA 1 (eI .i64) p.1.2.2.2.2.1, sqA 1 (eI .i64) p.1.2.2.2.2.2.1]), (2560, rowA 0 1 3 (eI .i64) p.1.2.2.2.2.2.2)], 2816⟩, fun f v => JN f.1 f.2.1 f.2.2.1 f.2.2.2.1 f.2.2.2.2.1 f.2.2.2.2.2.1 f.2.2.2.2.2.2 v, false, (.exit 6), (fun x _ => ⟨[(6, .undef)], [(0, blkS x 0), (128, blkS x 128), (2560, blkS x 2560)], 2816⟩), .ret, (fun x _ => ⟨[(6, .int .i64 (10 : Int))], [(0, blkS x 0), (128, blkS x 128), (2560, blkS x 2560)], 2816⟩), c1, c1k⟩
def Ui (u32_0 : Sq qA) (u32_1 : Sq qC) (u32_2 : Sq SFan) (u32_3 : Sq qD) (u32_4 u32_5 u32_6 : Sq Int) (u32_7 : Int) : Option ((Unit) ⊕ (Unit)) := Bq.val ((u32_0, u32_1, u32_2, u32_3, u32_4, u32_5, u32_6), u32_7)
theorem afP (u32_0 : Sq qA) (u32_1 : Sq qC) (u32_2 : Sq SFan) (u32_3 : Sq qD) (u32_4 u32_5 u32_6 : Sq Int) (u32_7 : Int) : Ui u32_0 u32_1 u32_2 u32_3 u32_4 u32_5 u32_6 u32_7 = fixO (fun v : Int => JN u32_0 u32_1 u32_2 u32_3 u32_4 u32_5 u32_6 v) u32_7 := Bq.val_eq (fun x => ((sqD qA.dec (cellS x 0 0), sqD qC.dec (cellS x 0 1), sqD SFan.dec (cellS x 0 2), sqD qD.dec (cellS x 0 3), sqD dI (cellS x 128 0), sqD dI (cellS x 128 1), sqB dI (blkS x 2560)), intA (aget x.tm 15))) (fun p => by kernel_rfl) ((u32_0, u32_1, u32_2, u32_3, u32_4, u32_5, u32_6), u32_7)
def Zn (a : SAir) (s : qz) (x : yV) : DT (Int) :=
 .bind (Gg a) fun z2 =>
 .ite (z2 != (0 : Int)) (
 .leaf z2) (
 .bind (Gi a s) fun z3 =>
 .ite (!z3) (
 .leaf (21 : Int)) (
 .ite (((x.Pressures.n : Nat) : Int) != ((a.Mine.Places.n : Nat) : Int)) (
 .leaf (11 : Int)) (
 .ite (((x.Flows.n : Nat) : Int) != ((a.Mine.Roads.n : Nat) : Int)) (
 .leaf (11 : Int)) (
 .sum (Xl a.Mine.Places a.Mine.Roads a.Fans a.Doors s.Fans s.Doors x.Pressures x.Flows (0 : Int)) (fun _ =>
 .sum (Ug a.Mine.Places a.Mine.Roads a.Fans a.Doors s.Fans s.Doors x.Pressures x.Flows (0 : Int)) (fun _ =>
 .ite (decide ((0 : Int) ≤ ((x.Pressures.n : Nat) : Int) ∧ ((x.Pressures.n : Nat) : Int) ≤ ((x.Pressures.n : Nat) : Int) ∧ ((x.Pressures.n : Nat) : Int) * ((8 : Nat) : Int) ≤ 140737488355328 ∧ ((x.Pressures.n : Nat) : Int) ≤ 1099511627776)) (
 .sum (Uh a.Mine.Places a.Mine.Roads a.Fans a.Doors s.Fans s.Doors x.Pressures x.Flows (Sq.mk (Int.toNat ((x.Pressures.n : Nat) : Int)) (fun _ => (0 : Int))) (0 : Int)) (fun y0 =>
 .sum (Ui a.Mine.Places a.Mine.Roads a.Fans a.Doors x.Pressures x.Flows y0 (0 : Int)) (fun _ =>
 .leaf (0 : Int)) (fun _ => .leaf (10 : Int))) (fun _ => .leaf (10 : Int))) (
 .fail)) (fun _ => .leaf (1 : Int))) (fun _ => .leaf (1 : Int))))))
def CR : FnM := flM (SAir × qz × yV) (Int) (fun p => ([.agg (SAir.enc p.1), .agg (qz.enc p.2.1), .agg (yV.enc p.2.2)], [])) (fun p => Zn p.1 p.2.1 p.2.2) (fun r => .int .i64 r) (fun _ => rfl)
def Uf : Env := envM [(42, uP.c), (43, uR.c), (59, CP.c)] [(9, [3, 4, 5, 8], [3, 4, 5, 6]), (14, [3, 4, 5, 9], [3, 4, 5, 6]), (20, [3, 4, 5, 10, 11], [3, 5, 6, 10]), (32, [3, 5, 10, 15], [6])] [(9, CQ.c), (14, Bo.c), (20, Bp.c), (32, Bq.c)] [] [(9, [0, 64, 128]), (14, [0, 64, 128]), (20, [0, 64, 128, 2560]), (32, [0, 128, 2560])] 0
def KW : Env := { Uf with nt := 211 }
theorem Vs : aQ KW (qd 9 Tryz.f27) CQ.c := CQ.tells 2304 (fun _ => by kernel_rfl) (fun _ _ _ _ => by kernel_rfl) (fun _ _ _ _ => by kernel_rfl) fun R f v N K => by kernel_rfl
theorem Si : aQ KW (qd 14 Tryz.f27) Bo.c := Bo.tells 2368 (fun _ => by kernel_rfl) (fun _ _ _ _ => by kernel_rfl) (fun _ _ _ _ => by kernel_rfl) fun R f v N K => by kernel_rfl
theorem Sj : aQ KW (qd 20 Tryz.f27) Bp.c := Bp.tells 2752 (fun _ => by kernel_rfl) (fun _ _ _ _ => by kernel_rfl) (fun _ _ _ _ => by kernel_rfl) fun R f v N K => by kernel_rfl
theorem Sk : aQ KW (qd 32 Tryz.f27) Bq.c := Bq.tells 2816 (fun _ => by kernel_rfl) (fun _ _ _ _ => by kernel_rfl) (fun _ _ _ _ => by kernel_rfl) fun R f v N K => by kernel_rfl
theorem Z8 : aI Tryz.prog 27 CR.c := CR.tells Tryz.func27 (show ∀ p, arun Uf Tryz.f27 (CR.enc p).1 (CR.enc p).2 = _ from fun p => by kernel_rfl) (qg [qd 9 Tryz.f27, qd 14 Tryz.f27, qd 20 Tryz.f27, qd 32 Tryz.f27] (by kernel_rfl) ⟨lpT (by kernel_rfl) Vs, ⟨lpT (by kernel_rfl) Si, ⟨lpT (by kernel_rfl) Sj, ⟨lpT (by kernel_rfl) Sk, trivial⟩⟩⟩⟩) (.cons zw (.cons zA (.cons Z7 .nil)))
def acN (a : SAir) (s : qz) (x : yV) : Option (Int) := CR.val (a, s, x)
theorem aif (a : SAir) (s : qz) (x : yV) : acN a s x = (Zn a s x).get := CR.val_eq (fun x => (SAir.dec (aggL (gd x.1 0)), qz.dec (aggL (gd x.1 1)), yV.dec (aggL (gd x.1 2)))) (fun p => by kernel_rfl) (a, s, x)
end
end Go.Proofs.YtimkpfnbkclclaaGreat.Ab
