/- Mirrors of code, stage 12. -/
import Derived.Test.YtmfiagdelnddkaaGreatXc
namespace Go.Proofs.YtmfiagdelnddkaaGreat.Ab
noncomputable section
open Go
attribute [local irreducible] arun
def yK (u5_0 : Int) (u5_2 : Sq ay) (u5_3 : Sq aB) (u5_4 : Sq SFan) (u5_5 : Sq aC) (u5_6 u5_7 : Sq Int) (u5_1 : Int) (u5_8 : Sq Int) (u5_9 : Int) : DT (LR (Int × (Sq Int) × Int) (Int × (Sq Int)) (Int × (Sq Int))) :=
 .ite (decide ((0 : Int) ≤ u5_0 ∧ u5_0 < ((u5_8.n : Nat) : Int))) (
 .bind (zo (SAir.mk (aL.mk u5_2 u5_3) u5_4 u5_5) (au.mk u5_6 u5_7) (Sq.mk u5_8.n (fun k0 => (cond (Nat.beq k0 (Int.toNat u5_0)) (if (70368744177664 : Int) < (wr (u5_1 + u5_9)) then (70368744177664 : Int) else (wr (u5_1 + u5_9))) (u5_8.f k0)))) u5_0) fun z0 =>
 .ite (decide (z0 ≥ (0 : Int))) (
 .leaf (.l (u5_1, (Sq.mk u5_8.n (fun k1 => (cond (Nat.beq k1 (Int.toNat u5_0)) (if (70368744177664 : Int) < (wr (u5_1 + u5_9)) then (70368744177664 : Int) else (wr (u5_1 + u5_9))) (u5_8.f k1))))))) (
 .ite (decide ((0 : Int) ≤ u5_0 ∧ u5_0 < ((u5_8.n : Nat) : Int))) (
 .ite ((cond (Nat.beq (Int.toNat u5_0) (Int.toNat u5_0)) (if (70368744177664 : Int) < (wr (u5_1 + u5_9)) then (70368744177664 : Int) else (wr (u5_1 + u5_9))) (u5_8.f (Int.toNat u5_0))) == (70368744177664 : Int)) (
 .leaf (.r (u5_1, (Sq.mk u5_8.n (fun k2 => (cond (Nat.beq k2 (Int.toNat u5_0)) (if (70368744177664 : Int) < (wr (u5_1 + u5_9)) then (70368744177664 : Int) else (wr (u5_1 + u5_9))) (u5_8.f k2))))))) (
 .ite (decide ((0 : Int) ≤ u5_0 ∧ u5_0 < ((u5_8.n : Nat) : Int))) (
 .leaf (.next ((cond (Nat.beq (Int.toNat u5_0) (Int.toNat u5_0)) (if (70368744177664 : Int) < (wr (u5_1 + u5_9)) then (70368744177664 : Int) else (wr (u5_1 + u5_9))) (u5_8.f (Int.toNat u5_0))), (Sq.mk u5_8.n (fun k3 => (cond (Nat.beq k3 (Int.toNat u5_0)) (if (70368744177664 : Int) < (wr (u5_1 + u5_9)) then (70368744177664 : Int) else (wr (u5_1 + u5_9))) (u5_8.f k3)))), (wr (u5_9 * (2 : Int)))))) (
 .fail))) (
 .fail))) (
 .fail)
def zR : LpM := ⟨Int × (Sq ay) × (Sq aB) × (Sq SFan) × (Sq aC) × (Sq Int) × (Sq Int), Int × (Sq Int) × Int, Int × (Sq Int), Int × (Sq Int), fun p => ⟨[(3, .int .i64 p.1.1), (4, .ptr 0 0), (5, .ptr 64 0), (10, .own 320 0), (11, .int .i64 p.2.1), (12, .int .i64 p.2.2.2)], [(0, .var [sqA 2 ay.enc p.1.2.1, sqA 10 aB.enc p.1.2.2.1, sqA 4 SFan.enc p.1.2.2.2.1, sqA 3 aC.enc p.1.2.2.2.2.1]), (64, .var [sqA 1 (eI .i64) p.1.2.2.2.2.2.1, sqA 1 (eI .i64) p.1.2.2.2.2.2.2]), (320, rowA 0 1 3 (eI .i64) p.2.2.1)], 1600⟩, fun f v => yK f.1 f.2.1 f.2.2.1 f.2.2.2.1 f.2.2.2.2.1 f.2.2.2.2.2.1 f.2.2.2.2.2.2 v.1 v.2.1 v.2.2, false, (.exit 0), (fun x a => ⟨[(3, aget x.tm 3), (4, .ptr 0 0), (5, .ptr 64 0), (8, .undef), (9, .undef), (10, .own 320 0), (11, .int .i64 a.1)], [(0, blkS x 0), (64, blkS x 64), (320, rowA 0 1 3 (eI .i64) a.2)], 1600⟩), .ret, (fun x a => ⟨[(3, aget x.tm 3), (4, .ptr 0 0), (5, .ptr 64 0), (8, .int .i64 (0 : Int)), (9, .bool false), (10, .own 320 0), (11, .int .i64 a.1)], [(0, blkS x 0), (64, blkS x 64), (320, rowA 0 1 3 (eI .i64) a.2)], 1600⟩), c1, c1k⟩
def Rn (u5_0 : Int) (u5_2 : Sq ay) (u5_3 : Sq aB) (u5_4 : Sq SFan) (u5_5 : Sq aC) (u5_6 u5_7 : Sq Int) (u5_1 : Int) (u5_8 : Sq Int) (u5_9 : Int) : Option ((Int × (Sq Int)) ⊕ (Int × (Sq Int))) := zR.val ((u5_0, u5_2, u5_3, u5_4, u5_5, u5_6, u5_7), (u5_1, u5_8, u5_9))
theorem aap (u5_0 : Int) (u5_2 : Sq ay) (u5_3 : Sq aB) (u5_4 : Sq SFan) (u5_5 : Sq aC) (u5_6 u5_7 : Sq Int) (u5_1 : Int) (u5_8 : Sq Int) (u5_9 : Int) : Rn u5_0 u5_2 u5_3 u5_4 u5_5 u5_6 u5_7 u5_1 u5_8 u5_9 = fixO (fun v : Int × (Sq Int) × Int => yK u5_0 u5_2 u5_3 u5_4 u5_5 u5_6 u5_7 v.1 v.2.1 v.2.2) (u5_1, u5_8, u5_9) := zR.val_eq (fun x => ((intA (aget x.tm 3), sqD ay.dec (cellS x 0 0), sqD aB.dec (cellS x 0 1), sqD SFan.dec (cellS x 0 2), sqD aC.dec (cellS x 0 3), sqD dI (cellS x 64 0), sqD dI (cellS x 64 1)), (intA (aget x.tm 11), sqB dI (blkS x 320), intA (aget x.tm 12)))) (fun p => by kernel_rfl) ((u5_0, u5_2, u5_3, u5_4, u5_5, u5_6, u5_7), (u5_1, u5_8, u5_9))
def xg (u12_0 : Int) (u12_3 : Sq ay) (u12_4 : Sq aB) (u12_5 : Sq SFan) (u12_6 : Sq aC) (u12_7 u12_8 : Sq Int) (u12_1 u12_2 : Int) (u12_9 : Sq Int) : DT (LR (Int × Int × (Sq Int)) (Int × (Sq Int)) (Unit)) :=
 .ite (decide ((wr (u12_1 + (1 : Int))) < u12_2)) (
 .ite (decide ((0 : Int) ≤ u12_0 ∧ u12_0 < ((u12_9.n : Nat) : Int))) (
 .bind (zo (SAir.mk (aL.mk u12_3 u12_4) u12_5 u12_6) (au.mk u12_7 u12_8) (Sq.mk u12_9.n (fun k4 => (cond (Nat.beq k4 (Int.toNat u12_0)) (wr (u12_1 + (wr (Int.tdiv (wr (u12_2 - u12_1)) (2 : Int))))) (u12_9.f k4)))) u12_0) fun z1 =>
 .ite (decide (z1 ≥ (0 : Int))) (
 .ite (decide ((0 : Int) ≤ u12_0 ∧ u12_0 < ((u12_9.n : Nat) : Int))) (
 .leaf (.next (u12_1, (cond (Nat.beq (Int.toNat u12_0) (Int.toNat u12_0)) (wr (u12_1 + (wr (Int.tdiv (wr (u12_2 - u12_1)) (2 : Int))))) (u12_9.f (Int.toNat u12_0))), (Sq.mk u12_9.n (fun k5 => (cond (Nat.beq k5 (Int.toNat u12_0)) (wr (u12_1 + (wr (Int.tdiv (wr (u12_2 - u12_1)) (2 : Int))))) (u12_9.f k5))))))) (
 .fail)) (
 .ite (decide ((0 : Int) ≤ u12_0 ∧ u12_0 < ((u12_9.n : Nat) : Int))) (
 .leaf (.next ((cond (Nat.beq (Int.toNat u12_0) (Int.toNat u12_0)) (wr (u12_1 + (wr (Int.tdiv (wr (u12_2 - u12_1)) (2 : Int))))) (u12_9.f (Int.toNat u12_0))), u12_2, (Sq.mk u12_9.n (fun k6 => (cond (Nat.beq k6 (Int.toNat u12_0)) (wr (u12_1 + (wr (Int.tdiv (wr (u12_2 - u12_1)) (2 : Int))))) (u12_9.f k6))))))) (
 .fail))) (
 .fail)) (
 .leaf (.l (u12_2, u12_9)))
def yA : LpM := ⟨Int × (Sq ay) × (Sq aB) × (Sq SFan) × (Sq aC) × (Sq Int) × (Sq Int), Int × Int × (Sq Int), Int × (Sq Int), Unit, fun p => ⟨[(3, .int .i64 p.1.1), (4, .ptr 0 0), (5, .ptr 64 0), (10, .own 320 0), (11, .int .i64 p.2.1), (13, .int .i64 p.2.2.1)], [(0, .var [sqA 2 ay.enc p.1.2.1, sqA 10 aB.enc p.1.2.2.1, sqA 4 SFan.enc p.1.2.2.2.1, sqA 3 aC.enc p.1.2.2.2.2.1]), (64, .var [sqA 1 (eI .i64) p.1.2.2.2.2.2.1, sqA 1 (eI .i64) p.1.2.2.2.2.2.2]), (320, rowA 0 1 3 (eI .i64) p.2.2.2)], 1920⟩, fun f v => xg f.1 f.2.1 f.2.2.1 f.2.2.2.1 f.2.2.2.2.1 f.2.2.2.2.2.1 f.2.2.2.2.2.2 v.1 v.2.1 v.2.2, true, (.exit 2), (fun x a => ⟨[(13, .int .i64 a.1)], [(0, blkS x 0), (64, blkS x 64), (320, rowA 0 1 3 (eI .i64) a.2)], 1920⟩), .ret, (fun _ _ => ⟨[], [], 0⟩), c1, c1k⟩
def Ng (u12_0 : Int) (u12_3 : Sq ay) (u12_4 : Sq aB) (u12_5 : Sq SFan) (u12_6 : Sq aC) (u12_7 u12_8 : Sq Int) (u12_1 u12_2 : Int) (u12_9 : Sq Int) : Option ((Int × (Sq Int)) ⊕ (Unit)) := yA.val ((u12_0, u12_3, u12_4, u12_5, u12_6, u12_7, u12_8), (u12_1, u12_2, u12_9))
theorem Y8 (u12_0 : Int) (u12_3 : Sq ay) (u12_4 : Sq aB) (u12_5 : Sq SFan) (u12_6 : Sq aC) (u12_7 u12_8 : Sq Int) (u12_1 u12_2 : Int) (u12_9 : Sq Int) : Ng u12_0 u12_3 u12_4 u12_5 u12_6 u12_7 u12_8 u12_1 u12_2 u12_9 = fixO (fun v : Int × Int × (Sq Int) => xg u12_0 u12_3 u12_4 u12_5 u12_6 u12_7 u12_8 v.1 v.2.1 v.2.2) (u12_1, u12_2, u12_9) := yA.val_eq (fun x => ((intA (aget x.tm 3), sqD ay.dec (cellS x 0 0), sqD aB.dec (cellS x 0 1), sqD SFan.dec (cellS x 0 2), sqD aC.dec (cellS x 0 3), sqD dI (cellS x 64 0), sqD dI (cellS x 64 1)), (intA (aget x.tm 11), intA (aget x.tm 13), sqB dI (blkS x 320)))) (fun p => by kernel_rfl) ((u12_0, u12_3, u12_4, u12_5, u12_6, u12_7, u12_8), (u12_1, u12_2, u12_9))
def Vp (a : SAir) (s : au) (pressures : Sq Int) (place : Int) : DT (Int × Bool) :=
 .ite (decide (pressures.n * 8 ≤ 140737488355328 ∧ pressures.n ≤ 1099511627776)) (
 .bind (zo a s pressures place) fun z2 =>
 .ite (decide (z2 ≥ (0 : Int))) (
 .ite (decide ((0 : Int) ≤ place ∧ place < ((pressures.n : Nat) : Int))) (.leaf ((pressures.f (Int.toNat place)), true)) (.fail)) (
 .ite (decide ((0 : Int) ≤ place ∧ place < ((pressures.n : Nat) : Int))) (
 .sum (Rn place a.Mine.Places a.Mine.Roads a.Fans a.Doors s.Fans s.Doors (pressures.f (Int.toNat place)) pressures (1 : Int)) (fun y0 =>
 .ite (decide ((0 : Int) ≤ place ∧ place < ((y0.2.n : Nat) : Int))) (
 .sum (Ng place a.Mine.Places a.Mine.Roads a.Fans a.Doors s.Fans s.Doors y0.1 (y0.2.f (Int.toNat place)) y0.2) (fun y1 =>
 .leaf (y1.1, true)) (fun _ => .fail)) (
 .fail)) (fun _ => .leaf ((0 : Int), false))) (
 .fail))) (
 .fail)
def zq : FnM := flM (SAir × au × (Sq Int) × Int) (Int × Bool) (fun p => ([.agg (SAir.enc p.1), .agg (au.enc p.2.1), sqA 1 (eI .i64) p.2.2.1, .int .i64 p.2.2.2], [])) (fun p => Vp p.1 p.2.1 p.2.2.1 p.2.2.2) (fun r => .tup [.int .i64 r.1, .bool r.2]) (fun _ => rfl)
def V8 : Env := envM [(78, qg.c)] [(5, [3, 4, 5, 10, 11, 12], [3, 4, 5, 8, 9, 10, 11]), (12, [3, 4, 5, 10, 11, 13], [13])] [(5, zR.c), (12, yA.c)] [] [(5, [0, 64, 320]), (12, [0, 64, 320])] 0
def aaT : Env := { V8 with nt := 86 }
theorem Vo : aG aaT (aH 5 Tryz.f58) zR.c := zR.tells 1600 (fun _ => by kernel_rfl) (fun _ _ _ _ => by kernel_rfl) (fun _ _ _ _ => by kernel_rfl) fun R f v N K => by kernel_rfl
theorem TD : aG aaT (aH 12 Tryz.f58) yA.c := yA.tells 1920 (fun _ => by kernel_rfl) (fun _ _ _ _ => by kernel_rfl) (fun _ _ _ _ => by kernel_rfl) fun R f v N K => by kernel_rfl
theorem P5 : aN Tryz.prog 58 zq.c := zq.tells Tryz.func58 (show ∀ p, arun V8 Tryz.f58 (zq.enc p).1 (zq.enc p).2 = _ from fun p => by kernel_rfl) (bf [aH 5 Tryz.f58, aH 12 Tryz.f58] (by kernel_rfl) ⟨lpT (by kernel_rfl) Vo, ⟨lpT (by kernel_rfl) TD, trivial⟩⟩) (.cons TB .nil)
def Og (a : SAir) (s : au) (pressures : Sq Int) (place : Int) : Option (Int × Bool) := zq.val (a, s, pressures, place)
theorem aeO (a : SAir) (s : au) (pressures : Sq Int) (place : Int) : Og a s pressures place = (Vp a s pressures place).get := zq.val_eq (fun x => (SAir.dec (aggL (gd x.1 0)), au.dec (aggL (gd x.1 1)), sqD dI (gd x.1 2), intA (gd x.1 3))) (fun p => by kernel_rfl) (a, s, pressures, place)
def vD (u5_0 : Int) (u5_2 : Sq ay) (u5_3 : Sq aB) (u5_4 : Sq SFan) (u5_5 : Sq aC) (u5_6 u5_7 : Sq Int) (u5_1 : Int) (u5_8 : Sq Int) (u5_9 : Int) : DT (LR (Int × (Sq Int) × Int) (Int × (Sq Int)) (Int × (Sq Int))) :=
 .ite (decide ((0 : Int) ≤ u5_0 ∧ u5_0 < ((u5_8.n : Nat) : Int))) (
 .bind (w9 (SAir.mk (aL.mk u5_2 u5_3) u5_4 u5_5) (au.mk u5_6 u5_7) (Sq.mk u5_8.n (fun k0 => (cond (Nat.beq k0 (Int.toNat u5_0)) (if (wr (u5_1 - u5_9)) < (-70368744177664 : Int) then (-70368744177664 : Int) else (wr (u5_1 - u5_9))) (u5_8.f k0)))) u5_0) fun z0 =>
 .ite (decide (z0 ≤ (0 : Int))) (
 .leaf (.l (u5_1, (Sq.mk u5_8.n (fun k1 => (cond (Nat.beq k1 (Int.toNat u5_0)) (if (wr (u5_1 - u5_9)) < (-70368744177664 : Int) then (-70368744177664 : Int) else (wr (u5_1 - u5_9))) (u5_8.f k1))))))) (
 .ite (decide ((0 : Int) ≤ u5_0 ∧ u5_0 < ((u5_8.n : Nat) : Int))) (
 .ite ((cond (Nat.beq (Int.toNat u5_0) (Int.toNat u5_0)) (if (wr (u5_1 - u5_9)) < (-70368744177664 : Int) then (-70368744177664 : Int) else (wr (u5_1 - u5_9))) (u5_8.f (Int.toNat u5_0))) == (-70368744177664 : Int)) (
 .leaf (.r (u5_1, (Sq.mk u5_8.n (fun k2 => (cond (Nat.beq k2 (Int.toNat u5_0)) (if (wr (u5_1 - u5_9)) < (-70368744177664 : Int) then (-70368744177664 : Int) else (wr (u5_1 - u5_9))) (u5_8.f k2))))))) (
 .ite (decide ((0 : Int) ≤ u5_0 ∧ u5_0 < ((u5_8.n : Nat) : Int))) (
 .leaf (.next ((cond (Nat.beq (Int.toNat u5_0) (Int.toNat u5_0)) (if (wr (u5_1 - u5_9)) < (-70368744177664 : Int) then (-70368744177664 : Int) else (wr (u5_1 - u5_9))) (u5_8.f (Int.toNat u5_0))), (Sq.mk u5_8.n (fun k3 => (cond (Nat.beq k3 (Int.toNat u5_0)) (if (wr (u5_1 - u5_9)) < (-70368744177664 : Int) then (-70368744177664 : Int) else (wr (u5_1 - u5_9))) (u5_8.f k3)))), (wr (u5_9 * (2 : Int)))))) (
 .fail))) (
 .fail))) (
 .fail)
def wF : LpM := ⟨Int × (Sq ay) × (Sq aB) × (Sq SFan) × (Sq aC) × (Sq Int) × (Sq Int), Int × (Sq Int) × Int, Int × (Sq Int), Int × (Sq Int), fun p => ⟨[(3, .int .i64 p.1.1), (4, .ptr 0 0), (5, .ptr 64 0), (10, .own 320 0), (11, .int .i64 p.2.1), (12, .int .i64 p.2.2.2)], [(0, .var [sqA 2 ay.enc p.1.2.1, sqA 10 aB.enc p.1.2.2.1, sqA 4 SFan.enc p.1.2.2.2.1, sqA 3 aC.enc p.1.2.2.2.2.1]), (64, .var [sqA 1 (eI .i64) p.1.2.2.2.2.2.1, sqA 1 (eI .i64) p.1.2.2.2.2.2.2]), (320, rowA 0 1 3 (eI .i64) p.2.2.1)], 1600⟩, fun f v => vD f.1 f.2.1 f.2.2.1 f.2.2.2.1 f.2.2.2.2.1 f.2.2.2.2.2.1 f.2.2.2.2.2.2 v.1 v.2.1 v.2.2, false, (.exit 0), (fun x a => ⟨[(3, aget x.tm 3), (4, .ptr 0 0), (5, .ptr 64 0), (8, .undef), (9, .undef), (10, .own 320 0), (11, .int .i64 a.1)], [(0, blkS x 0), (64, blkS x 64), (320, rowA 0 1 3 (eI .i64) a.2)], 1600⟩), .ret, (fun x a => ⟨[(3, aget x.tm 3), (4, .ptr 0 0), (5, .ptr 64 0), (8, .int .i64 (0 : Int)), (9, .bool false), (10, .own 320 0), (11, .int .i64 a.1)], [(0, blkS x 0), (64, blkS x 64), (320, rowA 0 1 3 (eI .i64) a.2)], 1600⟩), c1, c1k⟩
def JO (u5_0 : Int) (u5_2 : Sq ay) (u5_3 : Sq aB) (u5_4 : Sq SFan) (u5_5 : Sq aC) (u5_6 u5_7 : Sq Int) (u5_1 : Int) (u5_8 : Sq Int) (u5_9 : Int) : Option ((Int × (Sq Int)) ⊕ (Int × (Sq Int))) := wF.val ((u5_0, u5_2, u5_3, u5_4, u5_5, u5_6, u5_7), (u5_1, u5_8, u5_9))
theorem Xu (u5_0 : Int) (u5_2 : Sq ay) (u5_3 : Sq aB) (u5_4 : Sq SFan) (u5_5 : Sq aC) (u5_6 u5_7 : Sq Int) (u5_1 : Int) (u5_8 : Sq Int) (u5_9 : Int) : JO u5_0 u5_2 u5_3 u5_4 u5_5 u5_6 u5_7 u5_1 u5_8 u5_9 = fixO (fun v : Int × (Sq Int) × Int => vD u5_0 u5_2 u5_3 u5_4 u5_5 u5_6 u5_7 v.1 v.2.1 v.2.2) (u5_1, u5_8, u5_9) := wF.val_eq (fun x => ((intA (aget x.tm 3), sqD ay.dec (cellS x 0 0), sqD aB.dec (cellS x 0 1), sqD SFan.dec (cellS x 0 2), sqD aC.dec (cellS x 0 3), sqD dI (cellS x 64 0), sqD dI (cellS x 64 1)), (intA (aget x.tm 11), sqB dI (blkS x 320), intA (aget x.tm 12)))) (fun p => by kernel_rfl) ((u5_0, u5_2, u5_3, u5_4, u5_5, u5_6, u5_7), (u5_1, u5_8, u5_9))
def sZ (u12_0 : Int) (u12_3 : Sq ay) (u12_4 : Sq aB) (u12_5 : Sq SFan) (u12_6 : Sq aC) (u12_7 u12_8 : Sq Int) (u12_1 u12_2 : Int) (u12_9 : Sq Int) : DT (LR (Int × Int × (Sq Int)) (Int × (Sq Int)) (Unit)) :=
 .ite (decide ((wr (u12_2 + (1 : Int))) < u12_1)) (
 .ite (decide ((0 : Int) ≤ u12_0 ∧ u12_0 < ((u12_9.n : Nat) : Int))) (
 .bind (w9 (SAir.mk (aL.mk u12_3 u12_4) u12_5 u12_6) (au.mk u12_7 u12_8) (Sq.mk u12_9.n (fun k4 => (cond (Nat.beq k4 (Int.toNat u12_0)) (wr (u12_2 + (wr (Int.tdiv (wr (u12_1 - u12_2)) (2 : Int))))) (u12_9.f k4)))) u12_0) fun z1 =>
 .ite (decide (z1 ≤ (0 : Int))) (
 .ite (decide ((0 : Int) ≤ u12_0 ∧ u12_0 < ((u12_9.n : Nat) : Int))) (
 .leaf (.next (u12_1, (cond (Nat.beq (Int.toNat u12_0) (Int.toNat u12_0)) (wr (u12_2 + (wr (Int.tdiv (wr (u12_1 - u12_2)) (2 : Int))))) (u12_9.f (Int.toNat u12_0))), (Sq.mk u12_9.n (fun k5 => (cond (Nat.beq k5 (Int.toNat u12_0)) (wr (u12_2 + (wr (Int.tdiv (wr (u12_1 - u12_2)) (2 : Int))))) (u12_9.f k5))))))) (
 .fail)) (
 .ite (decide ((0 : Int) ≤ u12_0 ∧ u12_0 < ((u12_9.n : Nat) : Int))) (
 .leaf (.next ((cond (Nat.beq (Int.toNat u12_0) (Int.toNat u12_0)) (wr (u12_2 + (wr (Int.tdiv (wr (u12_1 - u12_2)) (2 : Int))))) (u12_9.f (Int.toNat u12_0))), u12_2, (Sq.mk u12_9.n (fun k6 => (cond (Nat.beq k6 (Int.toNat u12_0)) (wr (u12_2 + (wr (Int.tdiv (wr (u12_1 - u12_2)) (2 : Int))))) (u12_9.f k6))))))) (
 .fail))) (
 .fail)) (
 .leaf (.l (u12_2, u12_9)))
def uD : LpM := ⟨Int × (Sq ay) × (Sq aB) × (Sq SFan) × (Sq aC) × (Sq Int) × (Sq Int), Int × Int × (Sq Int), Int × (Sq Int), Unit, fun p => ⟨[(3, .int .i64 p.1.1), (4, .ptr 0 0), (5, .ptr 64 0), (10, .own 320 0), (11, .int .i64 p.2.1), (13, .int .i64 p.2.2.1)], [(0, .var [sqA 2 ay.enc p.1.2.1, sqA 10 aB.enc p.1.2.2.1, sqA 4 SFan.enc p.1.2.2.2.1, sqA 3 aC.enc p.1.2.2.2.2.1]), (64, .var [sqA 1 (eI .i64) p.1.2.2.2.2.2.1, sqA 1 (eI .i64) p.1.2.2.2.2.2.2]), (320, rowA 0 1 3 (eI .i64) p.2.2.2)], 1920⟩, fun f v => sZ f.1 f.2.1 f.2.2.1 f.2.2.2.1 f.2.2.2.2.1 f.2.2.2.2.2.1 f.2.2.2.2.2.2 v.1 v.2.1 v.2.2, true, (.exit 2), (fun x a => ⟨[(13, .int .i64 a.1)], [(0, blkS x 0), (64, blkS x 64), (320, rowA 0 1 3 (eI .i64) a.2)], 1920⟩), .ret, (fun _ _ => ⟨[], [], 0⟩), c1, c1k⟩
def Gq (u12_0 : Int) (u12_3 : Sq ay) (u12_4 : Sq aB) (u12_5 : Sq SFan) (u12_6 : Sq aC) (u12_7 u12_8 : Sq Int) (u12_1 u12_2 : Int) (u12_9 : Sq Int) : Option ((Int × (Sq Int)) ⊕ (Unit)) := uD.val ((u12_0, u12_3, u12_4, u12_5, u12_6, u12_7, u12_8), (u12_1, u12_2, u12_9))
theorem Vn (u12_0 : Int) (u12_3 : Sq ay) (u12_4 : Sq aB) (u12_5 : Sq SFan) (u12_6 : Sq aC) (u12_7 u12_8 : Sq Int) (u12_1 u12_2 : Int) (u12_9 : Sq Int) : Gq u12_0 u12_3 u12_4 u12_5 u12_6 u12_7 u12_8 u12_1 u12_2 u12_9 = fixO (fun v : Int × Int × (Sq Int) => sZ u12_0 u12_3 u12_4 u12_5 u12_6 u12_7 u12_8 v.1 v.2.1 v.2.2) (u12_1, u12_2, u12_9) := uD.val_eq (fun x => ((intA (aget x.tm 3), sqD ay.dec (cellS x 0 0), sqD aB.dec (cellS x 0 1), sqD SFan.dec (cellS x 0 2), sqD aC.dec (cellS x 0 3), sqD dI (cellS x 64 0), sqD dI (cellS x 64 1)), (intA (aget x.tm 11), intA (aget x.tm 13), sqB dI (blkS x 320)))) (fun p => by kernel_rfl) ((u12_0, u12_3, u12_4, u12_5, u12_6, u12_7, u12_8), (u12_1, u12_2, u12_9))
def Nb (a : SAir) (s : au) (pressures : Sq Int) (place : Int) : DT (Int × Bool) :=
 .ite (decide (pressures.n * 8 ≤ 140737488355328 ∧ pressures.n ≤ 1099511627776)) (
 .bind (w9 a s pressures place) fun z2 =>
 .ite (decide (z2 ≤ (0 : Int))) (
 .ite (decide ((0 : Int) ≤ place ∧ place < ((pressures.n : Nat) : Int))) (.leaf ((pressures.f (Int.toNat place)), true)) (.fail)) (
 .ite (decide ((0 : Int) ≤ place ∧ place < ((pressures.n : Nat) : Int))) (
 .sum (JO place a.Mine.Places a.Mine.Roads a.Fans a.Doors s.Fans s.Doors (pressures.f (Int.toNat place)) pressures (1 : Int)) (fun y0 =>
 .ite (decide ((0 : Int) ≤ place ∧ place < ((y0.2.n : Nat) : Int))) (
 .sum (Gq place a.Mine.Places a.Mine.Roads a.Fans a.Doors s.Fans s.Doors y0.1 (y0.2.f (Int.toNat place)) y0.2) (fun y1 =>
 .leaf (y1.1, true)) (fun _ => .fail)) (
 .fail)) (fun _ => .leaf ((0 : Int), false))) (
 .fail))) (
 .fail)
def rG : FnM := flM (SAir × au × (Sq Int) × Int) (Int × Bool) (fun p => ([.agg (SAir.enc p.1), .agg (au.enc p.2.1), sqA 1 (eI .i64) p.2.2.1, .int .i64 p.2.2.2], [])) (fun p => Nb p.1 p.2.1 p.2.2.1 p.2.2.2) (fun r => .tup [.int .i64 r.1, .bool r.2]) (fun _ => rfl)
def PY : Env := envM [(79, nH.c)] [(5, [3, 4, 5, 10, 11, 12], [3, 4, 5, 8, 9, 10, 11]), (12, [3, 4, 5, 10, 11, 13], [13])] [(5, wF.c), (12, uD.c)] [] [(5, [0, 64, 320]), (12, [0, 64, 320])] 0
def V7 : Env := { PY with nt := 86 }
theorem Rk : aG V7 (aH 5 Tryz.f59) wF.c := wF.tells 1600 (fun _ => by kernel_rfl) (fun _ _ _ _ => by kernel_rfl) (fun _ _ _ _ => by kernel_rfl) fun R f v N K => by kernel_rfl
theorem O5 : aG V7 (aH 12 Tryz.f59) uD.c := uD.tells 1920 (fun _ => by kernel_rfl) (fun _ _ _ _ => by kernel_rfl) (fun _ _ _ _ => by kernel_rfl) fun R f v N K => by kernel_rfl
theorem KJ : aN Tryz.prog 59 rG.c := rG.tells Tryz.func59 (show ∀ p, arun PY Tryz.f59 (rG.enc p).1 (rG.enc p).2 = _ from fun p => by kernel_rfl) (bf [aH 5 Tryz.f59, aH 12 Tryz.f59] (by kernel_rfl) ⟨lpT (by kernel_rfl) Rk, ⟨lpT (by kernel_rfl) O5, trivial⟩⟩) (.cons Rm .nil)
def C9 (a : SAir) (s : au) (pressures : Sq Int) (place : Int) : Option (Int × Bool) := rG.val (a, s, pressures, place)
theorem ab7 (a : SAir) (s : au) (pressures : Sq Int) (place : Int) : C9 a s pressures place = (Nb a s pressures place).get := rG.val_eq (fun x => (SAir.dec (aggL (gd x.1 0)), au.dec (aggL (gd x.1 1)), sqD dI (gd x.1 2), intA (gd x.1 3))) (fun p => by kernel_rfl) (a, s, pressures, place)
end
end Go.Proofs.YtmfiagdelnddkaaGreat.Ab
