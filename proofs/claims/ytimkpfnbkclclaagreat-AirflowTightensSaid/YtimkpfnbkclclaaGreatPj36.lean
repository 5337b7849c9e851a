/- A part of the proof, what is needed of it. -/
import Derived.Test.YtimkpfnbkclclaaGreatPj34
namespace Go.Proofs.YtimkpfnbkclclaaGreat.Ab
noncomputable section
open Go
attribute [local irreducible] arun
def I9 (u3_0 u3_1 : Sq Int) (u3_2 : Int) (u3_3 : Sq qB) (u3_4 : Int) : DT (LR (Int × (Sq qB) × Int) (Int × (Sq qB)) (Unit)) :=
 .ite (decide (u3_4 < ((u3_0.n : Nat) : Int))) (
 .ite (decide ((0 : Int) ≤ u3_4 ∧ u3_4 < ((u3_0.n : Nat) : Int))) (
 .bind (qJ (qF.mk u3_1 u3_2) (12 : Int)) fun z0 =>
 .ite (decide ((0 : Int) ≤ u3_4 ∧ u3_4 < ((u3_0.n : Nat) : Int))) (
 .bind (qJ (qF.mk u3_1 z0.2) (12 : Int)) fun z1 =>
 .ite (decide ((u3_3.n + 1) * 16 ≤ 140737488355328 ∧ (u3_3.n + 1) ≤ 1099511627776)) (
 .leaf (.next (z1.2, (Sq.mk (u3_3.n + 1) (fun k0 => (qB.mk (cond (Nat.blt k0 u3_3.n) (u3_3.f k0).Low (wr ((u3_0.f (Int.toNat u3_4)) - z0.1))) (cond (Nat.blt k0 u3_3.n) (u3_3.f k0).High (wr ((u3_0.f (Int.toNat u3_4)) + z1.1)))))), (wr (u3_4 + (1 : Int)))))) (
 .fail)) (
 .fail)) (
 .fail)) (
 .leaf (.l (u3_2, u3_3)))
def A8 : LpM := ⟨(Sq Int) × (Sq Int), Int × (Sq qB) × Int, Int × (Sq qB), Unit, fun p => ⟨[(0, .ptr 0 0), (1, sqA 1 (eI .i64) p.1.1), (5, .own 65 0), (6, .int .i64 p.2.2.2)], [(0, .var [sqA 1 (eI .u8) p.1.2, .int .i64 p.2.1]), (65, rowA 0 2 51 qB.enc p.2.2.1)], 193⟩, fun f v => I9 f.1 f.2 v.1 v.2.1 v.2.2, true, (.exit 0), (fun x a => ⟨[(5, .own 65 0)], [(0, .var [cellS x 0 0, .int .i64 a.1]), (65, rowA 0 2 51 qB.enc a.2)], 193⟩), .ret, (fun _ _ => ⟨[], [], 0⟩), c1, c1k⟩
def Tc (u3_0 u3_1 : Sq Int) (u3_2 : Int) (u3_3 : Sq qB) (u3_4 : Int) : Option ((Int × (Sq qB)) ⊕ (Unit)) := A8.val ((u3_0, u3_1), (u3_2, u3_3, u3_4))
theorem afq (u3_0 u3_1 : Sq Int) (u3_2 : Int) (u3_3 : Sq qB) (u3_4 : Int) : Tc u3_0 u3_1 u3_2 u3_3 u3_4 = fixO (fun v : Int × (Sq qB) × Int => I9 u3_0 u3_1 v.1 v.2.1 v.2.2) (u3_2, u3_3, u3_4) := A8.val_eq (fun x => ((sqD dI (aget x.tm 1), sqD dI (cellS x 0 0)), (intA (cellS x 0 1), sqB qB.dec (blkS x 65), intA (aget x.tm 6)))) (fun p => by kernel_rfl) ((u3_0, u3_1), (u3_2, u3_3, u3_4))
def VL (c : qF) (flows : Sq Int) : DT ((Sq qB) × Int) :=
 .sum (Tc flows c.l_ c.at_ (Sq.mk 0 (fun _ => (qB.mk (0 : Int) (0 : Int)))) (0 : Int)) (fun y0 =>
 .leaf (y0.2, y0.1)) (fun _ => .fail)
def wC : FnM := nfM (qF × (Sq Int)) ((Sq qB) × Int) (fun p => ([.ptr 0 0, sqA 1 (eI .i64) p.2], [.var (qF.enc p.1)])) (fun p => VL p.1 p.2) (fun _ => .own 1 0) (fun ins r => [.var [ql ins 0 0, .int .i64 r.2], rowA 0 2 51 qB.enc r.1])
def Pv : Env := envM [(28, qX.c)] [(3, [0, 1, 5, 6], [5])] [(3, A8.c)] [(1000003, [.asrow 65 51 2 (fun _ => qB.enc (qB.mk (0 : Int) (0 : Int)))])] [(3, [0, 65])] 1
def ac0 : Env := { Pv with nt := 32 }
theorem RI : aQ ac0 (qd 3 Tryz.f18) A8.c := A8.tells 193 (fun _ => by kernel_rfl) (fun _ _ _ _ => by kernel_rfl) (fun _ _ _ _ => by kernel_rfl) fun R f v N K => by kernel_rfl
theorem F8 : aI Tryz.prog 18 wC.c := wC.tells Tryz.func18 (show ∀ p, arun Pv Tryz.f18 (wC.enc p).1 (wC.enc p).2 = _ from fun p => by kernel_rfl) (qg [qd 3 Tryz.f18] (by kernel_rfl) ⟨lpT (by kernel_rfl) RI, trivial⟩) (.cons qW .nil)
def M8 (c : qF) (flows : Sq Int) : Option ((Sq qB) × Int) := wC.val (c, flows)
theorem ahf (c : qF) (flows : Sq Int) : M8 c flows = (VL c flows).get := wC.val_eq (fun x => (qF.dec (varL (dB x.2 0)), sqD dI (gd x.1 1))) (fun p => by kernel_rfl) (c, flows)
def I5 (u3_1 : Sq Int) (_u3_3 : Sq qA) (u3_4 : Sq qC) (_u3_5 : Sq SFan) (_u3_6 : Sq qD) (u3_0 u3_2 : Int) (u3_7 : Sq rW) : DT (LR (Int × Int × (Sq rW)) (Int × (Sq rW)) (Unit)) :=
 .ite (decide (u3_0 > (0 : Int))) (
 .bind (qJ (qF.mk u3_1 u3_2) (wr (((u3_4.n : Nat) : Int) + (1 : Int)))) fun z0 =>
 .bind (qQ (qF.mk u3_1 z0.2) (-2 : Int) (40 : Int)) fun z1 =>
 .ite (decide ((u3_7.n + 1) * 16 ≤ 140737488355328 ∧ (u3_7.n + 1) ≤ 1099511627776)) (
 .leaf (.next ((wr (u3_0 - (1 : Int))), z1.2, (Sq.mk (u3_7.n + 1) (fun k0 => (rW.mk (cond (Nat.blt k0 u3_7.n) (u3_7.f k0).Road z0.1) (cond (Nat.blt k0 u3_7.n) (u3_7.f k0).Need z1.1))))))) (
 .fail)) (
 .leaf (.l (u3_2, u3_7)))
def AQ : LpM := ⟨(Sq Int) × (Sq qA) × (Sq qC) × (Sq SFan) × (Sq qD), Int × Int × (Sq rW), Int × (Sq rW), Unit, fun p => ⟨[(0, .ptr 0 0), (3, .ptr 1 0), (5, .own 129 0), (6, .int .i64 p.2.1)], [(0, .var [sqA 1 (eI .u8) p.1.1, .int .i64 p.2.2.1]), (1, .var [sqA 2 qA.enc p.1.2.1, sqA 10 qC.enc p.1.2.2.1, sqA 4 SFan.enc p.1.2.2.2.1, sqA 3 qD.enc p.1.2.2.2.2]), (129, rowA 0 2 54 rW.enc p.2.2.2)], 385⟩, fun f v => I5 f.1 f.2.1 f.2.2.1 f.2.2.2.1 f.2.2.2.2 v.1 v.2.1 v.2.2, true, (.exit 0), (fun x a => ⟨[(5, .own 129 0)], [(0, .var [cellS x 0 0, .int .i64 a.1]), (1, blkS x 1), (129, rowA 0 2 54 rW.enc a.2)], 385⟩), .ret, (fun _ _ => ⟨[], [], 0⟩), c1, c1k⟩
def Pp : Env := envM [(28, qX.c), (32, tq.c)] [(3, [0, 3, 5, 6], [5])] [(3, AQ.c)] [(1000003, [.asrow 129 54 2 (fun _ => rW.enc (rW.mk (0 : Int) (0 : Int)))])] [(3, [0, 1, 129])] 1
def Ta (c : qF) (kind address target : Int) : DT (qG × Int) :=
 .bind (qQ c (1 : Int) (200 : Int)) fun z0 =>
 .bind (Nv kind) fun z1 =>
 .ite (!z1) (
 .bind (qQ (qF.mk c.l_ z0.2) (-50 : Int) (20 : Int)) fun z2 =>
 .bind (qQ (qF.mk c.l_ z2.2) (300 : Int) (2000 : Int)) fun z3 =>
 .bind (qJ (qF.mk c.l_ z3.2) (6 : Int)) fun z4 =>
 .bind (qJ (qF.mk c.l_ z4.2) (700 : Int)) fun z5 =>
 .leaf ((qG.mk address kind target z2.1 z3.1 z4.1 z5.1 z0.1), z5.2)) (
 .leaf ((qG.mk address kind target (0 : Int) (1000 : Int) (0 : Int) (0 : Int) z0.1), z0.2))
def yL : FnM := nfM (qF × Int × Int × Int) (qG × Int) (fun p => ([.ptr 0 0, .int .i64 p.2.1, .int .i64 p.2.2.1, .int .i64 p.2.2.2], [.var (qF.enc p.1)])) (fun p => Ta p.1 p.2.1 p.2.2.1 p.2.2.2) (fun r => .agg (qG.enc r.1)) (fun ins r => [.var [ql ins 0 0, .int .i64 r.2]])
def ZJ : Env := envM [(32, tq.c), (84, vK.c), (28, qX.c)] [] [] [] [] 1
theorem VJ : aI Tryz.prog 50 yL.c := yL.tells Tryz.func50 (show ∀ p, arun ZJ Tryz.f50 (yL.enc p).1 (yL.enc p).2 = _ from fun p => by kernel_rfl) p8 (.cons uW (.cons JE (.cons qW .nil)))
def YR (c : qF) (kind address target : Int) : Option (qG × Int) := yL.val (c, kind, address, target)
theorem agK (c : qF) (kind address target : Int) : YR c kind address target = (Ta c kind address target).get := yL.val_eq (fun x => (qF.dec (varL (dB x.2 0)), intA (gd x.1 1), intA (gd x.1 2), intA (gd x.1 3))) (fun p => by kernel_rfl) (c, kind, address, target)
def GX (u6_0 : Sq Int) (u6_1 : Bool) (u6_3 : Sq Int) (u6_2 u6_4 : Int) (u6_5 : Sq qG) : DT (LR (Int × Int × (Sq qG)) (Int × (Sq qG)) (Unit)) :=
 .ite (decide (u6_2 > (0 : Int))) (
 .bind (qJ (qF.mk u6_3 u6_4) ((u6_0.n : Nat) : Int)) fun z0 =>
 .bind (YR (qF.mk u6_3 z0.2) (3 : Int) ((u6_5.n : Nat) : Int) z0.1) fun z1 =>
 .ite (!u6_1) (
 .bind (ze (qF.mk u6_3 z1.2) (5 : Int)) fun z2 =>
 .ite z2.1 (
 .bind (qQ (qF.mk u6_3 z2.2) (1 : Int) (6 : Int)) fun z3 =>
 .ite (decide ((u6_5.n + 1) * 64 ≤ 140737488355328 ∧ (u6_5.n + 1) ≤ 1099511627776)) (
 .leaf (.next ((wr (u6_2 - (1 : Int))), z3.2, (Sq.mk (u6_5.n + 1) (fun k0 => (qG.mk (cond (Nat.blt k0 u6_5.n) (u6_5.f k0).Address z1.1.Address) (cond (Nat.blt k0 u6_5.n) (u6_5.f k0).Kind z3.1) (cond (Nat.blt k0 u6_5.n) (u6_5.f k0).Target z1.1.Target) (cond (Nat.blt k0 u6_5.n) (u6_5.f k0).Offset z1.1.Offset) (cond (Nat.blt k0 u6_5.n) (u6_5.f k0).Scale z1.1.Scale) (cond (Nat.blt k0 u6_5.n) (u6_5.f k0).Error z1.1.Error) (cond (Nat.blt k0 u6_5.n) (u6_5.f k0).Drift z1.1.Drift) (cond (Nat.blt k0 u6_5.n) (u6_5.f k0).Life z1.1.Life))))))) (
 .fail)) (
 .ite (decide ((u6_5.n + 1) * 64 ≤ 140737488355328 ∧ (u6_5.n + 1) ≤ 1099511627776)) (
 .leaf (.next ((wr (u6_2 - (1 : Int))), z2.2, (Sq.mk (u6_5.n + 1) (fun k1 => (qG.mk (cond (Nat.blt k1 u6_5.n) (u6_5.f k1).Address z1.1.Address) (cond (Nat.blt k1 u6_5.n) (u6_5.f k1).Kind z1.1.Kind) (cond (Nat.blt k1 u6_5.n) (u6_5.f k1).Target z1.1.Target) (cond (Nat.blt k1 u6_5.n) (u6_5.f k1).Offset z1.1.Offset) (cond (Nat.blt k1 u6_5.n) (u6_5.f k1).Scale z1.1.Scale) (cond (Nat.blt k1 u6_5.n) (u6_5.f k1).Error z1.1.Error) (cond (Nat.blt k1 u6_5.n) (u6_5.f k1).Drift z1.1.Drift) (cond (Nat.blt k1 u6_5.n) (u6_5.f k1).Life z1.1.Life))))))) (
 .fail))) (
 .ite (decide ((u6_5.n + 1) * 64 ≤ 140737488355328 ∧ (u6_5.n + 1) ≤ 1099511627776)) (
 .leaf (.next ((wr (u6_2 - (1 : Int))), z1.2, (Sq.mk (u6_5.n + 1) (fun k2 => (qG.mk (cond (Nat.blt k2 u6_5.n) (u6_5.f k2).Address z1.1.Address) (cond (Nat.blt k2 u6_5.n) (u6_5.f k2).Kind z1.1.Kind) (cond (Nat.blt k2 u6_5.n) (u6_5.f k2).Target z1.1.Target) (cond (Nat.blt k2 u6_5.n) (u6_5.f k2).Offset z1.1.Offset) (cond (Nat.blt k2 u6_5.n) (u6_5.f k2).Scale z1.1.Scale) (cond (Nat.blt k2 u6_5.n) (u6_5.f k2).Error z1.1.Error) (cond (Nat.blt k2 u6_5.n) (u6_5.f k2).Drift z1.1.Drift) (cond (Nat.blt k2 u6_5.n) (u6_5.f k2).Life z1.1.Life))))))) (
 .fail))) (
 .leaf (.l (u6_4, u6_5)))
def yA : LpM := ⟨(Sq Int) × Bool × (Sq Int), Int × Int × (Sq qG), Int × (Sq qG), Unit, fun p => ⟨[(0, .ptr 0 0), (1, sqA 1 (eI .i64) p.1.1), (2, .bool p.1.2.1), (8, .own 129 0), (9, .own 193 0), (10, .int .i64 p.2.1)], [(0, .var [sqA 1 (eI .u8) p.1.2.2, .int .i64 p.2.2.1]), (129, rowA 0 8 75 qG.enc p.2.2.2), (193, .nilrow 0)], 897⟩, fun f v => GX f.1 f.2.1 f.2.2 v.1 v.2.1 v.2.2, true, (.exit 0), (fun x a => ⟨[(0, .ptr 0 0), (1, aget x.tm 1), (2, aget x.tm 2), (8, .own 129 0), (9, .own 193 0)], [(0, .var [cellS x 0 0, .int .i64 a.1]), (129, rowA 0 8 75 qG.enc a.2), (193, .nilrow 0)], 897⟩), .ret, (fun _ _ => ⟨[], [], 0⟩), c1, c1k⟩
def Ot (u6_0 : Sq Int) (u6_1 : Bool) (u6_3 : Sq Int) (u6_2 u6_4 : Int) (u6_5 : Sq qG) : Option ((Int × (Sq qG)) ⊕ (Unit)) := yA.val ((u6_0, u6_1, u6_3), (u6_2, u6_4, u6_5))
theorem aeJ (u6_0 : Sq Int) (u6_1 : Bool) (u6_3 : Sq Int) (u6_2 u6_4 : Int) (u6_5 : Sq qG) : Ot u6_0 u6_1 u6_3 u6_2 u6_4 u6_5 = fixO (fun v : Int × Int × (Sq qG) => GX u6_0 u6_1 u6_3 v.1 v.2.1 v.2.2) (u6_2, u6_4, u6_5) := yA.val_eq (fun x => ((sqD dI (aget x.tm 1), pU (aget x.tm 2), sqD dI (cellS x 0 0)), (intA (aget x.tm 10), intA (cellS x 0 1), sqB qG.dec (blkS x 129)))) (fun p => by kernel_rfl) ((u6_0, u6_1, u6_3), (u6_2, u6_4, u6_5))
def FU (u13_0 : Sq Int) (u13_1 : Bool) (u13_3 : Sq Int) (u13_5 : Sq qG) (u13_2 u13_4 : Int) (u13_6 : Sq qE) : DT (LR (Int × Int × (Sq qE)) (Int × (Sq qE)) (Unit)) :=
 .ite (decide (u13_2 > (0 : Int))) (
 .ite (decide (((u13_5.n : Nat) : Int) > (0 : Int))) (
 .bind (qJ (qF.mk u13_3 u13_4) ((u13_5.n : Nat) : Int)) fun z4 =>
 .ite (decide ((0 : Int) ≤ z4.1 ∧ z4.1 < ((u13_5.n : Nat) : Int))) (
 .ite (decide ((0 : Int) ≤ (u13_5.f (Int.toNat z4.1)).Target ∧ (u13_5.f (Int.toNat z4.1)).Target < ((u13_0.n : Nat) : Int))) (
 .bind (qJ (qF.mk u13_3 z4.2) (30 : Int)) fun z5 =>
 .bind (qJ (qF.mk u13_3 z5.2) (9 : Int)) fun z6 =>
 .bind (qJ (qF.mk u13_3 z6.2) (9 : Int)) fun z7 =>
 .ite (!u13_1) (
 .bind (ze (qF.mk u13_3 z7.2) (3 : Int)) fun z8 =>
 .ite z8.1 (
 .bind (qQ (qF.mk u13_3 z8.2) (5 : Int) (40 : Int)) fun z9 =>
 .bind (qQ (qF.mk u13_3 z9.2) (30 : Int) (60 : Int)) fun z10 =>
 .ite (!u13_1) (
 .bind (ze (qF.mk u13_3 z10.2) (9 : Int)) fun z11 =>
 .ite z11.1 (
 .bind (qQ (qF.mk u13_3 z11.2) (-2 : Int) (6 : Int)) fun z12 =>
 .ite (decide ((u13_6.n + 1) * 32 ≤ 140737488355328 ∧ (u13_6.n + 1) ≤ 1099511627776)) (
 .leaf (.next ((wr (u13_2 - (1 : Int))), z12.2, (Sq.mk (u13_6.n + 1) (fun k3 => (qE.mk (cond (Nat.blt k3 u13_6.n) (u13_6.f k3).Sensor z12.1) (cond (Nat.blt k3 u13_6.n) (u13_6.f k3).Time z5.1) (qB.mk (cond (Nat.blt k3 u13_6.n) (u13_6.f k3).Span.Low (wr ((wr ((u13_0.f (Int.toNat (u13_5.f (Int.toNat z4.1)).Target)) - z6.1)) + z9.1))) (cond (Nat.blt k3 u13_6.n) (u13_6.f k3).Span.High (wr ((wr ((u13_0.f (Int.toNat (u13_5.f (Int.toNat z4.1)).Target)) + z7.1)) + z10.1)))))))))) (
 .fail)) (
 .ite (decide ((u13_6.n + 1) * 32 ≤ 140737488355328 ∧ (u13_6.n + 1) ≤ 1099511627776)) (
 .leaf (.next ((wr (u13_2 - (1 : Int))), z11.2, (Sq.mk (u13_6.n + 1) (fun k4 => (qE.mk (cond (Nat.blt k4 u13_6.n) (u13_6.f k4).Sensor z4.1) (cond (Nat.blt k4 u13_6.n) (u13_6.f k4).Time z5.1) (qB.mk (cond (Nat.blt k4 u13_6.n) (u13_6.f k4).Span.Low (wr ((wr ((u13_0.f (Int.toNat (u13_5.f (Int.toNat z4.1)).Target)) - z6.1)) + z9.1))) (cond (Nat.blt k4 u13_6.n) (u13_6.f k4).Span.High (wr ((wr ((u13_0.f (Int.toNat (u13_5.f (Int.toNat z4.1)).Target)) + z7.1)) + z10.1)))))))))) (
 .fail))) (
 .ite (decide ((u13_6.n + 1) * 32 ≤ 140737488355328 ∧ (u13_6.n + 1) ≤ 1099511627776)) (
 .leaf (.next ((wr (u13_2 - (1 : Int))), z10.2, (Sq.mk (u13_6.n + 1) (fun k5 => (qE.mk (cond (Nat.blt k5 u13_6.n) (u13_6.f k5).Sensor z4.1) (cond (Nat.blt k5 u13_6.n) (u13_6.f k5).Time z5.1) (qB.mk (cond (Nat.blt k5 u13_6.n) (u13_6.f k5).Span.Low (wr ((wr ((u13_0.f (Int.toNat (u13_5.f (Int.toNat z4.1)).Target)) - z6.1)) + z9.1))) (cond (Nat.blt k5 u13_6.n) (u13_6.f k5).Span.High (wr ((wr ((u13_0.f (Int.toNat (u13_5.f (Int.toNat z4.1)).Target)) + z7.1)) + z10.1)))))))))) (
 .fail))) (
 .ite (!u13_1) (
 .bind (ze (qF.mk u13_3 z8.2) (9 : Int)) fun z13 =>
 .ite z13.1 (
 .bind (qQ (qF.mk u13_3 z13.2) (-2 : Int) (6 : Int)) fun z14 =>
 .ite (decide ((u13_6.n + 1) * 32 ≤ 140737488355328 ∧ (u13_6.n + 1) ≤ 1099511627776)) (
 .leaf (.next ((wr (u13_2 - (1 : Int))), z14.2, (Sq.mk (u13_6.n + 1) (fun k6 => (qE.mk (cond (Nat.blt k6 u13_6.n) (u13_6.f k6).Sensor z14.1) (cond (Nat.blt k6 u13_6.n) (u13_6.f k6).Time z5.1) (qB.mk (cond (Nat.blt k6 u13_6.n) (u13_6.f k6).Span.Low (wr ((u13_0.f (Int.toNat (u13_5.f (Int.toNat z4.1)).Target)) - z6.1))) (cond (Nat.blt k6 u13_6.n) (u13_6.f k6).Span.High (wr ((u13_0.f (Int.toNat (u13_5.f (Int.toNat z4.1)).Target)) + z7.1)))))))))) (
 .fail)) (
 .ite (decide ((u13_6.n + 1) * 32 ≤ 140737488355328 ∧ (u13_6.n + 1) ≤ 1099511627776)) (
 .leaf (.next ((wr (u13_2 - (1 : Int))), z13.2, (Sq.mk (u13_6.n + 1) (fun k7 => (qE.mk (cond (Nat.blt k7 u13_6.n) (u13_6.f k7).Sensor z4.1) (cond (Nat.blt k7 u13_6.n) (u13_6.f k7).Time z5.1) (qB.mk (cond (Nat.blt k7 u13_6.n) (u13_6.f k7).Span.Low (wr ((u13_0.f (Int.toNat (u13_5.f (Int.toNat z4.1)).Target)) - z6.1))) (cond (Nat.blt k7 u13_6.n) (u13_6.f k7).Span.High (wr ((u13_0.f (Int.toNat (u13_5.f (Int.toNat z4.1)).Target)) + z7.1)))))))))) (
 .fail))) (
 .ite (decide ((u13_6.n + 1) * 32 ≤ 140737488355328 ∧ (u13_6.n + 1) ≤ 1099511627776)) (
 .leaf (.next ((wr (u13_2 - (1 : Int))), z8.2, (Sq.mk (u13_6.n + 1) (fun k8 => (qE.mk (cond (Nat.blt k8 u13_6.n) (u13_6.f k8).Sensor z4.1) (cond (Nat.blt k8 u13_6.n) (u13_6.f k8).Time z5.1) (qB.mk (cond (Nat.blt k8 u13_6.n) (u13_6.f k8).Span.Low (wr ((u13_0.f (Int.toNat (u13_5.f (Int.toNat z4.1)).Target)) - z6.1))) (cond (Nat.blt k8 u13_6.n) (u13_6.f k8).Span.High (wr ((u13_0.f (Int.toNat (u13_5.f (Int.toNat z4.1)).Target)) + z7.1)))))))))) (
 .fail)))) (
 .ite (!u13_1) (
 .bind (ze (qF.mk u13_3 z7.2) (9 : Int)) fun z15 =>
 .ite z15.1 (
 .bind (qQ (qF.mk u13_3 z15.2) (-2 : Int) (6 : Int)) fun z16 =>
 .ite (decide ((u13_6.n + 1) * 32 ≤ 140737488355328 ∧ (u13_6.n + 1) ≤ 1099511627776)) (
 .leaf (.next ((wr (u13_2 - (1 : Int))), z16.2, (Sq.mk (u13_6.n + 1) (fun k9 => (qE.mk (cond (Nat.blt k9 u13_6.n) (u13_6.f k9).Sensor z16.1) (cond (Nat.blt k9 u13_6.n) (u13_6.f k9).Time z5.1) (qB.mk (cond (Nat.blt k9 u13_6.n) (u13_6.f k9).Span.Low (wr ((u13_0.f (Int.toNat (u13_5.f (Int.toNat z4.1)).Target)) - z6.1))) (cond (Nat.blt k9 u13_6.n) (u13_6.f k9).Span.High (wr ((u13_0.f (Int.toNat (u13_5.f (Int.toNat z4.1)).Target)) + z7.1)))))))))) (
 .fail)) (
 .ite (decide ((u13_6.n + 1) * 32 ≤ 140737488355328 ∧ (u13_6.n + 1) ≤ 1099511627776)) (
 .leaf (.next ((wr (u13_2 - (1 : Int))), z15.2, (Sq.mk (u13_6.n + 1) (fun k10 => (qE.mk (cond (Nat.blt k10 u13_6.n) (u13_6.f k10).Sensor z4.1) (cond (Nat.blt k10 u13_6.n) (u13_6.f k10).Time z5.1) (qB.mk (cond (Nat.blt k10 u13_6.n) (u13_6.f k10).Span.Low (wr ((u13_0.f (Int.toNat (u13_5.f (Int.toNat z4.1)).Target)) - z6.1))) (cond (Nat.blt k10 u13_6.n) (u13_6.f k10).Span.High (wr ((u13_0.f (Int.toNat (u13_5.f (Int.toNat z4.1)).Target)) + z7.1)))))))))) (
 .fail))) (
 .ite (decide ((u13_6.n + 1) * 32 ≤ 140737488355328 ∧ (u13_6.n + 1) ≤ 1099511627776)) (
 .leaf (.next ((wr (u13_2 - (1 : Int))), z7.2, (Sq.mk (u13_6.n + 1) (fun k11 => (qE.mk (cond (Nat.blt k11 u13_6.n) (u13_6.f k11).Sensor z4.1) (cond (Nat.blt k11 u13_6.n) (u13_6.f k11).Time z5.1) (qB.mk (cond (Nat.blt k11 u13_6.n) (u13_6.f k11).Span.Low (wr ((u13_0.f (Int.toNat (u13_5.f (Int.toNat z4.1)).Target)) - z6.1))) (cond (Nat.blt k11 u13_6.n) (u13_6.f k11).Span.High (wr ((u13_0.f (Int.toNat (u13_5.f (Int.toNat z4.1)).Target)) + z7.1)))))))))) (
 .fail)))) (
 .fail)) (
 .fail)) (
 .leaf (.l (u13_4, u13_6)))) (
 .leaf (.l (u13_4, u13_6)))
def wZ : LpM := ⟨(Sq Int) × Bool × (Sq Int) × (Sq qG), Int × Int × (Sq qE), Int × (Sq qE), Unit, fun p => ⟨[(0, .ptr 0 0), (1, sqA 1 (eI .i64) p.1.1), (2, .bool p.1.2.1), (8, .own 129 0), (9, .own 193 0), (12, .int .i64 p.2.1)], [(0, .var [sqA 1 (eI .u8) p.1.2.2.1, .int .i64 p.2.2.1]), (129, rowA 0 8 75 qG.enc p.1.2.2.2), (193, rowA 0 4 63 qE.enc p.2.2.2)], 1089⟩, fun f v => FU f.1 f.2.1 f.2.2.1 f.2.2.2 v.1 v.2.1 v.2.2, true, (.exit 2), (fun x a => ⟨[(8, .own 129 0), (9, .own 193 0)], [(0, .var [cellS x 0 0, .int .i64 a.1]), (129, blkS x 129), (193, rowA 0 4 63 qE.enc a.2)], 1089⟩), .ret, (fun _ _ => ⟨[], [], 0⟩), c1, c1k⟩
def Ms (u13_0 : Sq Int) (u13_1 : Bool) (u13_3 : Sq Int) (u13_5 : Sq qG) (u13_2 u13_4 : Int) (u13_6 : Sq qE) : Option ((Int × (Sq qE)) ⊕ (Unit)) := wZ.val ((u13_0, u13_1, u13_3, u13_5), (u13_2, u13_4, u13_6))
theorem aeo (u13_0 : Sq Int) (u13_1 : Bool) (u13_3 : Sq Int) (u13_5 : Sq qG) (u13_2 u13_4 : Int) (u13_6 : Sq qE) : Ms u13_0 u13_1 u13_3 u13_5 u13_2 u13_4 u13_6 = fixO (fun v : Int × Int × (Sq qE) => FU u13_0 u13_1 u13_3 u13_5 v.1 v.2.1 v.2.2) (u13_2, u13_4, u13_6) := wZ.val_eq (fun x => ((sqD dI (aget x.tm 1), pU (aget x.tm 2), sqD dI (cellS x 0 0), sqB qG.dec (blkS x 129)), (intA (aget x.tm 12), intA (cellS x 0 1), sqB qE.dec (blkS x 193)))) (fun p => by kernel_rfl) ((u13_0, u13_1, u13_3, u13_5), (u13_2, u13_4, u13_6))
def Qm (c : qF) (flows : Sq Int) (right : Bool) : DT ((Sq qG) × (Sq qE) × Int) :=
 .ite (((flows.n : Nat) : Int) == (0 : Int)) (
 .leaf ((Sq.mk 0 (fun _ => (qG.mk (0 : Int) (0 : Int) (0 : Int) (0 : Int) (0 : Int) (0 : Int) (0 : Int) (0 : Int)))), (Sq.mk 0 (fun _ => (qE.mk (0 : Int) (0 : Int) (qB.mk (0 : Int) (0 : Int))))), c.at_)) (
 .bind (qJ c (4 : Int)) fun z17 =>
 .sum (Ot flows right c.l_ z17.1 z17.2 (Sq.mk 0 (fun _ => (qG.mk (0 : Int) (0 : Int) (0 : Int) (0 : Int) (0 : Int) (0 : Int) (0 : Int) (0 : Int))))) (fun y0 =>
 .bind (qJ (qF.mk c.l_ y0.1) (5 : Int)) fun z18 =>
 .sum (Ms flows right c.l_ y0.2 z18.1 z18.2 (Sq.mk 0 (fun _ => (qE.mk (0 : Int) (0 : Int) (qB.mk (0 : Int) (0 : Int)))))) (fun y1 =>
 .leaf (y0.2, y1.2, y1.1)) (fun _ => .fail)) (fun _ => .fail))
def sG : FnM := nfM (qF × (Sq Int) × Bool) ((Sq qG) × (Sq qE) × Int) (fun p => ([.ptr 0 0, sqA 1 (eI .i64) p.2.1, .bool p.2.2], [.var (qF.enc p.1)])) (fun p => Qm p.1 p.2.1 p.2.2) (fun _ => .tup [.own 1 0, .own 2 0]) (fun ins r => [.var [ql ins 0 0, .int .i64 r.2.2], rowA 0 8 75 qG.enc r.1, rowA 0 4 63 qE.enc r.2.1])
def Mr : Env := envM [(28, qX.c), (50, yL.c), (31, yK.c), (32, tq.c)] [(6, [0, 1, 2, 8, 9, 10], [0, 1, 2, 8, 9]), (13, [0, 1, 2, 8, 9, 12], [8, 9])] [(6, yA.c), (13, wZ.c)] [(1000006, [.asrow 129 75 8 (fun _ => qG.enc (qG.mk (0 : Int) (0 : Int) (0 : Int) (0 : Int) (0 : Int) (0 : Int) (0 : Int) (0 : Int)))]), (1000013, [.asrow 193 63 4 (fun _ => qE.enc (qE.mk (0 : Int) (0 : Int) (qB.mk (0 : Int) (0 : Int))))]), (2000000, [.asrow 129 75 8 (fun _ => qG.enc (qG.mk (0 : Int) (0 : Int) (0 : Int) (0 : Int) (0 : Int) (0 : Int) (0 : Int) (0 : Int))), .asrow 193 63 4 (fun _ => qE.enc (qE.mk (0 : Int) (0 : Int) (qB.mk (0 : Int) (0 : Int))))])] [(6, [0, 129, 193]), (13, [0, 129, 193])] 1
def Ql : Env := { Mr with nt := 121 }
theorem O9 : aQ Ql (qd 6 Tryz.f23) yA.c := yA.tells 897 (fun _ => by kernel_rfl) (fun _ _ _ _ => by kernel_rfl) (fun _ _ _ _ => by kernel_rfl) fun R f v N K => by kernel_rfl
theorem Nt : aQ Ql (qd 13 Tryz.f23) wZ.c := wZ.tells 1089 (fun _ => by kernel_rfl) (fun _ _ _ _ => by kernel_rfl) (fun _ _ _ _ => by kernel_rfl) fun R f v N K => by kernel_rfl
theorem Ep : aI Tryz.prog 23 sG.c := sG.tells Tryz.func23 (show ∀ p, arun Mr Tryz.f23 (sG.enc p).1 (sG.enc p).2 = _ from fun p => by kernel_rfl) (qg [qd 6 Tryz.f23, qd 13 Tryz.f23] (by kernel_rfl) ⟨lpT (by kernel_rfl) O9, ⟨lpT (by kernel_rfl) Nt, trivial⟩⟩) (.cons qW (.cons VJ (.cons EO (.cons uW .nil))))
def IW (c : qF) (flows : Sq Int) (right : Bool) : Option ((Sq qG) × (Sq qE) × Int) := sG.val (c, flows, right)
theorem agl (c : qF) (flows : Sq Int) (right : Bool) : IW c flows right = (Qm c flows right).get := sG.val_eq (fun x => (qF.dec (varL (dB x.2 0)), sqD dI (gd x.1 1), pU (gd x.1 2))) (fun p => by kernel_rfl) (c, flows, right)
end
end Go.Proofs.YtimkpfnbkclclaaGreat.Ab
