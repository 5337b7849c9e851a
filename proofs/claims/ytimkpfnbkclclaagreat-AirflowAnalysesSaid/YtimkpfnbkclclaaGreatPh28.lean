/- A part of the proof, what is needed of it. -/
import Derived.Test.YtimkpfnbkclclaaGreatPh09
namespace Go.Proofs.YtimkpfnbkclclaaGreat.Ab
noncomputable section
open Go
attribute [local irreducible] arun
def OI (u5_0 : Int) (u5_2 : Sq qA) (u5_3 : Sq qC) (u5_4 : Sq SFan) (u5_5 : Sq qD) (u5_6 u5_7 : Sq Int) (u5_1 : Int) (u5_8 : Sq Int) (u5_9 : Int) : DT (LR (Int × (Sq Int) × Int) (Int × (Sq Int)) (Int × (Sq Int))) :=
 .ite (decide ((0 : Int) ≤ u5_0 ∧ u5_0 < ((u5_8.n : Nat) : Int))) (
 .bind (G6 (SAir.mk (qI.mk u5_2 u5_3) u5_4 u5_5) (qz.mk u5_6 u5_7) (Sq.mk u5_8.n (fun k0 => (cond (Nat.beq k0 (Int.toNat u5_0)) (if (70368744177664 : Int) < (wr (u5_1 + u5_9)) then (70368744177664 : Int) else (wr (u5_1 + u5_9))) (u5_8.f k0)))) u5_0) fun z0 =>
 .ite (decide (z0 ≥ (0 : Int))) (
 .leaf (.l (u5_1, (Sq.mk u5_8.n (fun k1 => (cond (Nat.beq k1 (Int.toNat u5_0)) (if (70368744177664 : Int) < (wr (u5_1 + u5_9)) then (70368744177664 : Int) else (wr (u5_1 + u5_9))) (u5_8.f k1))))))) (
 .ite (decide ((0 : Int) ≤ u5_0 ∧ u5_0 < ((u5_8.n : Nat) : Int))) (
 .ite ((cond (Nat.beq (Int.toNat u5_0) (Int.toNat u5_0)) (if (70368744177664 : Int) < (wr (u5_1 + u5_9)) then (70368744177664 : Int) else (wr (u5_1 + u5_9))) (u5_8.f (Int.toNat u5_0))) == (70368744177664 : Int)) (
 .leaf (.r (u5_1, (Sq.mk u5_8.n (fun k2 => (cond (Nat.beq k2 (Int.toNat u5_0)) (if (70368744177664 : Int) < (wr (u5_1 + u5_9)) then (70368744177664 : Int) else (wr (u5_1 + u5_9))) (u5_8.f k2))))))) (
 .ite (decide ((0 : Int) ≤ u5_0 ∧ u5_0 < ((u5_8.n : Nat) : Int))) (
 .leaf (.next ((cond (Nat.beq (Int.toNat u5_0) (Int.toNat u5_0)) (if (70368744177664 : Int) < (wr (u5_1 + u5_9)) then (70368744177664 : Int) else (wr (u5_1 + u5_9))) (u5_8.f (Int.toNat u5_0))), (Sq.mk u5_8.n (fun k3 => (cond (Nat.beq k3 (Int.toNat u5_0)) (if (70368744177664 : Int) < (wr (u5_1 + u5_9)) then (70368744177664 : Int) else (wr (u5_1 + u5_9))) (u5_8.f k3)))), (wr (u5_9 * (2 : Int)))))) (
 .fail))) (
 .fail))) (
 .fail)
def Fh : LpM := ⟨Int × (Sq qA) × (Sq qC) × (Sq SFan) × (Sq qD) × (Sq Int) × (Sq Int), Int × (Sq Int) × Int, Int × (Sq Int), Int × (Sq Int), fun p => ⟨[(3, .int .i64 p.1.1), (4, .ptr 0 0), (5, .ptr 64 0), (10, .own 320 0), (11, .int .i64 p.2.1), (12, .int .i64 p.2.2.2)], [(0, .var [sqA 2 qA.enc p.1.2.1, sqA 10 qC.enc p.1.2.2.1, sqA 4 SFan.enc p.1.2.2.2.1, sqA 3 qD.enc p.1.2.2.2.2.1]), (64, .var [sqA 1 (eI .i64) p.1.2.2.2.2.2.1, sqA 1 (eI .i64) p.1.2.2.2.2.2.2]), (320, rowA 0 1 3 (eI .i64) p.2.2.1)], 1600⟩, fun f v => OI f.1 f.2.1 f.2.2.1 f.2.2.2.1 f.2.2.2.2.1 f.2.2.2.2.2.1 f.2.2.2.2.2.2 v.1 v.2.1 v.2.2, false, (.exit 0), (fun x a => ⟨[(3, aget x.tm 3), (4, .ptr 0 0), (5, .ptr 64 0), (8, .undef), (9, .undef), (10, .own 320 0), (11, .int .i64 a.1)], [(0, blkS x 0), (64, blkS x 64), (320, rowA 0 1 3 (eI .i64) a.2)], 1600⟩), .ret, (fun x a => ⟨[(3, aget x.tm 3), (4, .ptr 0 0), (5, .ptr 64 0), (8, .int .i64 (0 : Int)), (9, .bool false), (10, .own 320 0), (11, .int .i64 a.1)], [(0, blkS x 0), (64, blkS x 64), (320, rowA 0 1 3 (eI .i64) a.2)], 1600⟩), c1, c1k⟩
def abl (u5_0 : Int) (u5_2 : Sq qA) (u5_3 : Sq qC) (u5_4 : Sq SFan) (u5_5 : Sq qD) (u5_6 u5_7 : Sq Int) (u5_1 : Int) (u5_8 : Sq Int) (u5_9 : Int) : Option ((Int × (Sq Int)) ⊕ (Int × (Sq Int))) := Fh.val ((u5_0, u5_2, u5_3, u5_4, u5_5, u5_6, u5_7), (u5_1, u5_8, u5_9))
theorem ahG (u5_0 : Int) (u5_2 : Sq qA) (u5_3 : Sq qC) (u5_4 : Sq SFan) (u5_5 : Sq qD) (u5_6 u5_7 : Sq Int) (u5_1 : Int) (u5_8 : Sq Int) (u5_9 : Int) : abl u5_0 u5_2 u5_3 u5_4 u5_5 u5_6 u5_7 u5_1 u5_8 u5_9 = fixO (fun v : Int × (Sq Int) × Int => OI u5_0 u5_2 u5_3 u5_4 u5_5 u5_6 u5_7 v.1 v.2.1 v.2.2) (u5_1, u5_8, u5_9) := Fh.val_eq (fun x => ((intA (aget x.tm 3), sqD qA.dec (cellS x 0 0), sqD qC.dec (cellS x 0 1), sqD SFan.dec (cellS x 0 2), sqD qD.dec (cellS x 0 3), sqD dI (cellS x 64 0), sqD dI (cellS x 64 1)), (intA (aget x.tm 11), sqB dI (blkS x 320), intA (aget x.tm 12)))) (fun p => by kernel_rfl) ((u5_0, u5_2, u5_3, u5_4, u5_5, u5_6, u5_7), (u5_1, u5_8, u5_9))
def MG (u12_0 : Int) (u12_3 : Sq qA) (u12_4 : Sq qC) (u12_5 : Sq SFan) (u12_6 : Sq qD) (u12_7 u12_8 : Sq Int) (u12_1 u12_2 : Int) (u12_9 : Sq Int) : DT (LR (Int × Int × (Sq Int)) (Int × (Sq Int)) (Unit)) :=
 .ite (decide ((wr (u12_1 + (1 : Int))) < u12_2)) (
 .ite (decide ((0 : Int) ≤ u12_0 ∧ u12_0 < ((u12_9.n : Nat) : Int))) (
 .bind (G6 (SAir.mk (qI.mk u12_3 u12_4) u12_5 u12_6) (qz.mk u12_7 u12_8) (Sq.mk u12_9.n (fun k4 => (cond (Nat.beq k4 (Int.toNat u12_0)) (wr (u12_1 + (wr (Int.tdiv (wr (u12_2 - u12_1)) (2 : Int))))) (u12_9.f k4)))) u12_0) fun z1 =>
 .ite (decide (z1 ≥ (0 : Int))) (
 .ite (decide ((0 : Int) ≤ u12_0 ∧ u12_0 < ((u12_9.n : Nat) : Int))) (
 .leaf (.next (u12_1, (cond (Nat.beq (Int.toNat u12_0) (Int.toNat u12_0)) (wr (u12_1 + (wr (Int.tdiv (wr (u12_2 - u12_1)) (2 : Int))))) (u12_9.f (Int.toNat u12_0))), (Sq.mk u12_9.n (fun k5 => (cond (Nat.beq k5 (Int.toNat u12_0)) (wr (u12_1 + (wr (Int.tdiv (wr (u12_2 - u12_1)) (2 : Int))))) (u12_9.f k5))))))) (
 .fail)) (
 .ite (decide ((0 : Int) ≤ u12_0 ∧ u12_0 < ((u12_9.n : Nat) : Int))) (
 .leaf (.next ((cond (Nat.beq (Int.toNat u12_0) (Int.toNat u12_0)) (wr (u12_1 + (wr (Int.tdiv (wr (u12_2 - u12_1)) (2 : Int))))) (u12_9.f (Int.toNat u12_0))), u12_2, (Sq.mk u12_9.n (fun k6 => (cond (Nat.beq k6 (Int.toNat u12_0)) (wr (u12_1 + (wr (Int.tdiv (wr (u12_2 - u12_1)) (2 : Int))))) (u12_9.f k6))))))) (
 .fail))) (
 .fail)) (
 .leaf (.l (u12_2, u12_9)))
def D7 : LpM := ⟨Int × (Sq qA) × (Sq qC) × (Sq SFan) × (Sq qD) × (Sq Int) × (Sq Int), Int × Int × (Sq Int), Int × (Sq Int), Unit, fun p => ⟨[(3, .int .i64 p.1.1), (4, .ptr 0 0), (5, .ptr 64 0), (10, .own 320 0), (11, .int .i64 p.2.1), (13, .int .i64 p.2.2.1)], [(0, .var [sqA 2 qA.enc p.1.2.1, sqA 10 qC.enc p.1.2.2.1, sqA 4 SFan.enc p.1.2.2.2.1, sqA 3 qD.enc p.1.2.2.2.2.1]), (64, .var [sqA 1 (eI .i64) p.1.2.2.2.2.2.1, sqA 1 (eI .i64) p.1.2.2.2.2.2.2]), (320, rowA 0 1 3 (eI .i64) p.2.2.2)], 1920⟩, fun f v => MG f.1 f.2.1 f.2.2.1 f.2.2.2.1 f.2.2.2.2.1 f.2.2.2.2.2.1 f.2.2.2.2.2.2 v.1 v.2.1 v.2.2, true, (.exit 2), (fun x a => ⟨[(13, .int .i64 a.1)], [(0, blkS x 0), (64, blkS x 64), (320, rowA 0 1 3 (eI .i64) a.2)], 1920⟩), .ret, (fun _ _ => ⟨[], [], 0⟩), c1, c1k⟩
def Zt (u12_0 : Int) (u12_3 : Sq qA) (u12_4 : Sq qC) (u12_5 : Sq SFan) (u12_6 : Sq qD) (u12_7 u12_8 : Sq Int) (u12_1 u12_2 : Int) (u12_9 : Sq Int) : Option ((Int × (Sq Int)) ⊕ (Unit)) := D7.val ((u12_0, u12_3, u12_4, u12_5, u12_6, u12_7, u12_8), (u12_1, u12_2, u12_9))
theorem ag4 (u12_0 : Int) (u12_3 : Sq qA) (u12_4 : Sq qC) (u12_5 : Sq SFan) (u12_6 : Sq qD) (u12_7 u12_8 : Sq Int) (u12_1 u12_2 : Int) (u12_9 : Sq Int) : Zt u12_0 u12_3 u12_4 u12_5 u12_6 u12_7 u12_8 u12_1 u12_2 u12_9 = fixO (fun v : Int × Int × (Sq Int) => MG u12_0 u12_3 u12_4 u12_5 u12_6 u12_7 u12_8 v.1 v.2.1 v.2.2) (u12_1, u12_2, u12_9) := D7.val_eq (fun x => ((intA (aget x.tm 3), sqD qA.dec (cellS x 0 0), sqD qC.dec (cellS x 0 1), sqD SFan.dec (cellS x 0 2), sqD qD.dec (cellS x 0 3), sqD dI (cellS x 64 0), sqD dI (cellS x 64 1)), (intA (aget x.tm 11), intA (aget x.tm 13), sqB dI (blkS x 320)))) (fun p => by kernel_rfl) ((u12_0, u12_3, u12_4, u12_5, u12_6, u12_7, u12_8), (u12_1, u12_2, u12_9))
def acR (a : SAir) (s : qz) (pressures : Sq Int) (place : Int) : DT (Int × Bool) :=
 .ite (decide (pressures.n * 8 ≤ 140737488355328 ∧ pressures.n ≤ 1099511627776)) (
 .bind (G6 a s pressures place) fun z2 =>
 .ite (decide (z2 ≥ (0 : Int))) (
 .ite (decide ((0 : Int) ≤ place ∧ place < ((pressures.n : Nat) : Int))) (.leaf ((pressures.f (Int.toNat place)), true)) (.fail)) (
 .ite (decide ((0 : Int) ≤ place ∧ place < ((pressures.n : Nat) : Int))) (
 .sum (abl place a.Mine.Places a.Mine.Roads a.Fans a.Doors s.Fans s.Doors (pressures.f (Int.toNat place)) pressures (1 : Int)) (fun y0 =>
 .ite (decide ((0 : Int) ≤ place ∧ place < ((y0.2.n : Nat) : Int))) (
 .sum (Zt place a.Mine.Places a.Mine.Roads a.Fans a.Doors s.Fans s.Doors y0.1 (y0.2.f (Int.toNat place)) y0.2) (fun y1 =>
 .leaf (y1.1, true)) (fun _ => .fail)) (
 .fail)) (fun _ => .leaf ((0 : Int), false))) (
 .fail))) (
 .fail)
def Gj : FnM := flM (SAir × qz × (Sq Int) × Int) (Int × Bool) (fun p => ([.agg (SAir.enc p.1), .agg (qz.enc p.2.1), sqA 1 (eI .i64) p.2.2.1, .int .i64 p.2.2.2], [])) (fun p => acR p.1 p.2.1 p.2.2.1 p.2.2.2) (fun r => .tup [.int .i64 r.1, .bool r.2]) (fun _ => rfl)
def Zr : Env := envM [(116, wJ.c)] [(5, [3, 4, 5, 10, 11, 12], [3, 4, 5, 8, 9, 10, 11]), (12, [3, 4, 5, 10, 11, 13], [13])] [(5, Fh.c), (12, D7.c)] [] [(5, [0, 64, 320]), (12, [0, 64, 320])] 0
def acQ : Env := { Zr with nt := 86 }
theorem YA : aQ acQ (qd 5 Tryz.f154) Fh.c := Fh.tells 1600 (fun _ => by kernel_rfl) (fun _ _ _ _ => by kernel_rfl) (fun _ _ _ _ => by kernel_rfl) fun R f v N K => by kernel_rfl
theorem Xr : aQ acQ (qd 12 Tryz.f154) D7.c := D7.tells 1920 (fun _ => by kernel_rfl) (fun _ _ _ _ => by kernel_rfl) (fun _ _ _ _ => by kernel_rfl) fun R f v N K => by kernel_rfl
theorem ace : aI Tryz.prog 154 Gj.c := Gj.tells Tryz.func154 (show ∀ p, arun Zr Tryz.f154 (Gj.enc p).1 (Gj.enc p).2 = _ from fun p => by kernel_rfl) (qg [qd 5 Tryz.f154, qd 12 Tryz.f154] (by kernel_rfl) ⟨lpT (by kernel_rfl) YA, ⟨lpT (by kernel_rfl) Xr, trivial⟩⟩) (.cons KZ .nil)
def afb (a : SAir) (s : qz) (pressures : Sq Int) (place : Int) : Option (Int × Bool) := Gj.val (a, s, pressures, place)
theorem aiI (a : SAir) (s : qz) (pressures : Sq Int) (place : Int) : afb a s pressures place = (acR a s pressures place).get := Gj.val_eq (fun x => (SAir.dec (aggL (gd x.1 0)), qz.dec (aggL (gd x.1 1)), sqD dI (gd x.1 2), intA (gd x.1 3))) (fun p => by kernel_rfl) (a, s, pressures, place)
def KY (u5_0 : Int) (u5_2 : Sq qA) (u5_3 : Sq qC) (u5_4 : Sq SFan) (u5_5 : Sq qD) (u5_6 u5_7 : Sq Int) (u5_1 : Int) (u5_8 : Sq Int) (u5_9 : Int) : DT (LR (Int × (Sq Int) × Int) (Int × (Sq Int)) (Int × (Sq Int))) :=
 .ite (decide ((0 : Int) ≤ u5_0 ∧ u5_0 < ((u5_8.n : Nat) : Int))) (
 .bind (Fg (SAir.mk (qI.mk u5_2 u5_3) u5_4 u5_5) (qz.mk u5_6 u5_7) (Sq.mk u5_8.n (fun k0 => (cond (Nat.beq k0 (Int.toNat u5_0)) (if (wr (u5_1 - u5_9)) < (-70368744177664 : Int) then (-70368744177664 : Int) else (wr (u5_1 - u5_9))) (u5_8.f k0)))) u5_0) fun z0 =>
 .ite (decide (z0 ≤ (0 : Int))) (
 .leaf (.l (u5_1, (Sq.mk u5_8.n (fun k1 => (cond (Nat.beq k1 (Int.toNat u5_0)) (if (wr (u5_1 - u5_9)) < (-70368744177664 : Int) then (-70368744177664 : Int) else (wr (u5_1 - u5_9))) (u5_8.f k1))))))) (
 .ite (decide ((0 : Int) ≤ u5_0 ∧ u5_0 < ((u5_8.n : Nat) : Int))) (
 .ite ((cond (Nat.beq (Int.toNat u5_0) (Int.toNat u5_0)) (if (wr (u5_1 - u5_9)) < (-70368744177664 : Int) then (-70368744177664 : Int) else (wr (u5_1 - u5_9))) (u5_8.f (Int.toNat u5_0))) == (-70368744177664 : Int)) (
 .leaf (.r (u5_1, (Sq.mk u5_8.n (fun k2 => (cond (Nat.beq k2 (Int.toNat u5_0)) (if (wr (u5_1 - u5_9)) < (-70368744177664 : Int) then (-70368744177664 : Int) else (wr (u5_1 - u5_9))) (u5_8.f k2))))))) (
 .ite (decide ((0 : Int) ≤ u5_0 ∧ u5_0 < ((u5_8.n : Nat) : Int))) (
 .leaf (.next ((cond (Nat.beq (Int.toNat u5_0) (Int.toNat u5_0)) (if (wr (u5_1 - u5_9)) < (-70368744177664 : Int) then (-70368744177664 : Int) else (wr (u5_1 - u5_9))) (u5_8.f (Int.toNat u5_0))), (Sq.mk u5_8.n (fun k3 => (cond (Nat.beq k3 (Int.toNat u5_0)) (if (wr (u5_1 - u5_9)) < (-70368744177664 : Int) then (-70368744177664 : Int) else (wr (u5_1 - u5_9))) (u5_8.f k3)))), (wr (u5_9 * (2 : Int)))))) (
 .fail))) (
 .fail))) (
 .fail)
def CU : LpM := ⟨Int × (Sq qA) × (Sq qC) × (Sq SFan) × (Sq qD) × (Sq Int) × (Sq Int), Int × (Sq Int) × Int, Int × (Sq Int), Int × (Sq Int), fun p => ⟨[(3, .int .i64 p.1.1), (4, .ptr 0 0), (5, .ptr 64 0), (10, .own 320 0), (11, .int .i64 p.2.1), (12, .int .i64 p.2.2.2)], [(0, .var [sqA 2 qA.enc p.1.2.1, sqA 10 qC.enc p.1.2.2.1, sqA 4 SFan.enc p.1.2.2.2.1, sqA 3 qD.enc p.1.2.2.2.2.1]), (64, .var [sqA 1 (eI .i64) p.1.2.2.2.2.2.1, sqA 1 (eI .i64) p.1.2.2.2.2.2.2]), (320, rowA 0 1 3 (eI .i64) p.2.2.1)], 1600⟩, fun f v => KY f.1 f.2.1 f.2.2.1 f.2.2.2.1 f.2.2.2.2.1 f.2.2.2.2.2.1 f.2.2.2.2.2.2 v.1 v.2.1 v.2.2, false, (.exit 0), (fun x a => ⟨[(3, aget x.tm 3), (4, .ptr 0 0), (5, .ptr 64 0), (8, .undef), (9, .undef), (10, .own 320 0), (11, .int .i64 a.1)], [(0, blkS x 0), (64, blkS x 64), (320, rowA 0 1 3 (eI .i64) a.2)], 1600⟩), .ret, (fun x a => ⟨[(3, aget x.tm 3), (4, .ptr 0 0), (5, .ptr 64 0), (8, .int .i64 (0 : Int)), (9, .bool false), (10, .own 320 0), (11, .int .i64 a.1)], [(0, blkS x 0), (64, blkS x 64), (320, rowA 0 1 3 (eI .i64) a.2)], 1600⟩), c1, c1k⟩
def Xq (u5_0 : Int) (u5_2 : Sq qA) (u5_3 : Sq qC) (u5_4 : Sq SFan) (u5_5 : Sq qD) (u5_6 u5_7 : Sq Int) (u5_1 : Int) (u5_8 : Sq Int) (u5_9 : Int) : Option ((Int × (Sq Int)) ⊕ (Int × (Sq Int))) := CU.val ((u5_0, u5_2, u5_3, u5_4, u5_5, u5_6, u5_7), (u5_1, u5_8, u5_9))
theorem agD (u5_0 : Int) (u5_2 : Sq qA) (u5_3 : Sq qC) (u5_4 : Sq SFan) (u5_5 : Sq qD) (u5_6 u5_7 : Sq Int) (u5_1 : Int) (u5_8 : Sq Int) (u5_9 : Int) : Xq u5_0 u5_2 u5_3 u5_4 u5_5 u5_6 u5_7 u5_1 u5_8 u5_9 = fixO (fun v : Int × (Sq Int) × Int => KY u5_0 u5_2 u5_3 u5_4 u5_5 u5_6 u5_7 v.1 v.2.1 v.2.2) (u5_1, u5_8, u5_9) := CU.val_eq (fun x => ((intA (aget x.tm 3), sqD qA.dec (cellS x 0 0), sqD qC.dec (cellS x 0 1), sqD SFan.dec (cellS x 0 2), sqD qD.dec (cellS x 0 3), sqD dI (cellS x 64 0), sqD dI (cellS x 64 1)), (intA (aget x.tm 11), sqB dI (blkS x 320), intA (aget x.tm 12)))) (fun p => by kernel_rfl) ((u5_0, u5_2, u5_3, u5_4, u5_5, u5_6, u5_7), (u5_1, u5_8, u5_9))
def JV (u12_0 : Int) (u12_3 : Sq qA) (u12_4 : Sq qC) (u12_5 : Sq SFan) (u12_6 : Sq qD) (u12_7 u12_8 : Sq Int) (u12_1 u12_2 : Int) (u12_9 : Sq Int) : DT (LR (Int × Int × (Sq Int)) (Int × (Sq Int)) (Unit)) :=
 .ite (decide ((wr (u12_2 + (1 : Int))) < u12_1)) (
 .ite (decide ((0 : Int) ≤ u12_0 ∧ u12_0 < ((u12_9.n : Nat) : Int))) (
 .bind (Fg (SAir.mk (qI.mk u12_3 u12_4) u12_5 u12_6) (qz.mk u12_7 u12_8) (Sq.mk u12_9.n (fun k4 => (cond (Nat.beq k4 (Int.toNat u12_0)) (wr (u12_2 + (wr (Int.tdiv (wr (u12_1 - u12_2)) (2 : Int))))) (u12_9.f k4)))) u12_0) fun z1 =>
 .ite (decide (z1 ≤ (0 : Int))) (
 .ite (decide ((0 : Int) ≤ u12_0 ∧ u12_0 < ((u12_9.n : Nat) : Int))) (
 .leaf (.next (u12_1, (cond (Nat.beq (Int.toNat u12_0) (Int.toNat u12_0)) (wr (u12_2 + (wr (Int.tdiv (wr (u12_1 - u12_2)) (2 : Int))))) (u12_9.f (Int.toNat u12_0))), (Sq.mk u12_9.n (fun k5 => (cond (Nat.beq k5 (Int.toNat u12_0)) (wr (u12_2 + (wr (Int.tdiv (wr (u12_1 - u12_2)) (2 : Int))))) (u12_9.f k5))))))) (
 .fail)) (
 .ite (decide ((0 : Int) ≤ u12_0 ∧ u12_0 < ((u12_9.n : Nat) : Int))) (
 .leaf (.next ((cond (Nat.beq (Int.toNat u12_0) (Int.toNat u12_0)) (wr (u12_2 + (wr (Int.tdiv (wr (u12_1 - u12_2)) (2 : Int))))) (u12_9.f (Int.toNat u12_0))), u12_2, (Sq.mk u12_9.n (fun k6 => (cond (Nat.beq k6 (Int.toNat u12_0)) (wr (u12_2 + (wr (Int.tdiv (wr (u12_1 - u12_2)) (2 : Int))))) (u12_9.f k6))))))) (
 .fail))) (
 .fail)) (
 .leaf (.l (u12_2, u12_9)))
def Bv : LpM := ⟨Int × (Sq qA) × (Sq qC) × (Sq SFan) × (Sq qD) × (Sq Int) × (Sq Int), Int × Int × (Sq Int), Int × (Sq Int), Unit, fun p => ⟨[(3, .int .i64 p.1.1), (4, .ptr 0 0), (5, .ptr 64 0), (10, .own 320 0), (11, .int .i64 p.2.1), (13, .int .i64 p.2.2.1)], [(0, .var [sqA 2 qA.enc p.1.2.1, sqA 10 qC.enc p.1.2.2.1, sqA 4 SFan.enc p.1.2.2.2.1, sqA 3 qD.enc p.1.2.2.2.2.1]), (64, .var [sqA 1 (eI .i64) p.1.2.2.2.2.2.1, sqA 1 (eI .i64) p.1.2.2.2.2.2.2]), (320, rowA 0 1 3 (eI .i64) p.2.2.2)], 1920⟩, fun f v => JV f.1 f.2.1 f.2.2.1 f.2.2.2.1 f.2.2.2.2.1 f.2.2.2.2.2.1 f.2.2.2.2.2.2 v.1 v.2.1 v.2.2, true, (.exit 2), (fun x a => ⟨[(13, .int .i64 a.1)], [(0, blkS x 0), (64, blkS x 64), (320, rowA 0 1 3 (eI .i64) a.2)], 1920⟩), .ret, (fun _ _ => ⟨[], [], 0⟩), c1, c1k⟩
def Uo (u12_0 : Int) (u12_3 : Sq qA) (u12_4 : Sq qC) (u12_5 : Sq SFan) (u12_6 : Sq qD) (u12_7 u12_8 : Sq Int) (u12_1 u12_2 : Int) (u12_9 : Sq Int) : Option ((Int × (Sq Int)) ⊕ (Unit)) := Bv.val ((u12_0, u12_3, u12_4, u12_5, u12_6, u12_7, u12_8), (u12_1, u12_2, u12_9))
theorem afT (u12_0 : Int) (u12_3 : Sq qA) (u12_4 : Sq qC) (u12_5 : Sq SFan) (u12_6 : Sq qD) (u12_7 u12_8 : Sq Int) (u12_1 u12_2 : Int) (u12_9 : Sq Int) : Uo u12_0 u12_3 u12_4 u12_5 u12_6 u12_7 u12_8 u12_1 u12_2 u12_9 = fixO (fun v : Int × Int × (Sq Int) => JV u12_0 u12_3 u12_4 u12_5 u12_6 u12_7 u12_8 v.1 v.2.1 v.2.2) (u12_1, u12_2, u12_9) := Bv.val_eq (fun x => ((intA (aget x.tm 3), sqD qA.dec (cellS x 0 0), sqD qC.dec (cellS x 0 1), sqD SFan.dec (cellS x 0 2), sqD qD.dec (cellS x 0 3), sqD dI (cellS x 64 0), sqD dI (cellS x 64 1)), (intA (aget x.tm 11), intA (aget x.tm 13), sqB dI (blkS x 320)))) (fun p => by kernel_rfl) ((u12_0, u12_3, u12_4, u12_5, u12_6, u12_7, u12_8), (u12_1, u12_2, u12_9))
def Zq (a : SAir) (s : qz) (pressures : Sq Int) (place : Int) : DT (Int × Bool) :=
 .ite (decide (pressures.n * 8 ≤ 140737488355328 ∧ pressures.n ≤ 1099511627776)) (
 .bind (Fg a s pressures place) fun z2 =>
 .ite (decide (z2 ≤ (0 : Int))) (
 .ite (decide ((0 : Int) ≤ place ∧ place < ((pressures.n : Nat) : Int))) (.leaf ((pressures.f (Int.toNat place)), true)) (.fail)) (
 .ite (decide ((0 : Int) ≤ place ∧ place < ((pressures.n : Nat) : Int))) (
 .sum (Xq place a.Mine.Places a.Mine.Roads a.Fans a.Doors s.Fans s.Doors (pressures.f (Int.toNat place)) pressures (1 : Int)) (fun y0 =>
 .ite (decide ((0 : Int) ≤ place ∧ place < ((y0.2.n : Nat) : Int))) (
 .sum (Uo place a.Mine.Places a.Mine.Roads a.Fans a.Doors s.Fans s.Doors y0.1 (y0.2.f (Int.toNat place)) y0.2) (fun y1 =>
 .leaf (y1.1, true)) (fun _ => .fail)) (
 .fail)) (fun _ => .leaf ((0 : Int), false))) (
 .fail))) (
 .fail)
def CV : FnM := flM (SAir × qz × (Sq Int) × Int) (Int × Bool) (fun p => ([.agg (SAir.enc p.1), .agg (qz.enc p.2.1), sqA 1 (eI .i64) p.2.2.1, .int .i64 p.2.2.2], [])) (fun p => Zq p.1 p.2.1 p.2.2.1 p.2.2.2) (fun r => .tup [.int .i64 r.1, .bool r.2]) (fun _ => rfl)
def Un : Env := envM [(117, vL.c)] [(5, [3, 4, 5, 10, 11, 12], [3, 4, 5, 8, 9, 10, 11]), (12, [3, 4, 5, 10, 11, 13], [13])] [(5, CU.c), (12, Bv.c)] [] [(5, [0, 64, 320]), (12, [0, 64, 320])] 0
def Zp : Env := { Un with nt := 86 }
theorem Vt : aQ Zp (qd 5 Tryz.f155) CU.c := CU.tells 1600 (fun _ => by kernel_rfl) (fun _ _ _ _ => by kernel_rfl) (fun _ _ _ _ => by kernel_rfl) fun R f v N K => by kernel_rfl
theorem Sy : aQ Zp (qd 12 Tryz.f155) Bv.c := Bv.tells 1920 (fun _ => by kernel_rfl) (fun _ _ _ _ => by kernel_rfl) (fun _ _ _ _ => by kernel_rfl) fun R f v N K => by kernel_rfl
theorem aac : aI Tryz.prog 155 CV.c := CV.tells Tryz.func155 (show ∀ p, arun Un Tryz.f155 (CV.enc p).1 (CV.enc p).2 = _ from fun p => by kernel_rfl) (qg [qd 5 Tryz.f155, qd 12 Tryz.f155] (by kernel_rfl) ⟨lpT (by kernel_rfl) Vt, ⟨lpT (by kernel_rfl) Sy, trivial⟩⟩) (.cons JW .nil)
def acP (a : SAir) (s : qz) (pressures : Sq Int) (place : Int) : Option (Int × Bool) := CV.val (a, s, pressures, place)
theorem aij (a : SAir) (s : qz) (pressures : Sq Int) (place : Int) : acP a s pressures place = (Zq a s pressures place).get := CV.val_eq (fun x => (SAir.dec (aggL (gd x.1 0)), qz.dec (aggL (gd x.1 1)), sqD dI (gd x.1 2), intA (gd x.1 3))) (fun p => by kernel_rfl) (a, s, pressures, place)
end
end Go.Proofs.YtimkpfnbkclclaaGreat.Ab
