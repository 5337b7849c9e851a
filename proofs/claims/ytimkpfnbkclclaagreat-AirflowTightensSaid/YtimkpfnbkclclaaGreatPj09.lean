/- A part of the proof, what is needed of it. -/
import Derived.Test.YtimkpfnbkclclaaGreatPj08
namespace Go.Proofs.YtimkpfnbkclclaaGreat.Ab
noncomputable section
open Go
attribute [local irreducible] arun
def Oa (n low high : Int) : DT (Bool) :=
 .ite (decide (low ≤ n)) (.leaf (decide (n ≤ high))) (.leaf false)
def vP : FnM := flM (Int × Int × Int) (Bool) (fun p => ([.int .i64 p.1, .int .i64 p.2.1, .int .i64 p.2.2], [])) (fun p => Oa p.1 p.2.1 p.2.2) (fun r => .bool r) (fun _ => rfl)
def V3 : Env := envM [] [] [] [] [] 0
theorem RP : aI Tryz.prog 182 vP.c := vP.tells Tryz.func182 (show ∀ p, arun V3 Tryz.f182 (vP.enc p).1 (vP.enc p).2 = _ from fun p => by kernel_rfl) p8 .nil
def Li (n low high : Int) : Option (Bool) := vP.val (n, low, high)
theorem afv (n low high : Int) : Li n low high = (Oa n low high).get := vP.val_eq (fun x => (intA (gd x.1 0), intA (gd x.1 1), intA (gd x.1 2))) (fun p => by kernel_rfl) (n, low, high)
def FL (u4_0 : Sq Int) (u4_2 : Int) : DT (LR (Int) (Unit) (Unit)) :=
 .ite (decide (u4_2 < ((u4_0.n : Nat) : Int))) (
 .ite (decide ((0 : Int) ≤ u4_2 ∧ u4_2 < ((u4_0.n : Nat) : Int))) (
 .bind (Li (u4_0.f (Int.toNat u4_2)) (-70368744177664 : Int) (70368744177664 : Int)) fun z0 =>
 .ite (!z0) (
 .leaf (.r ())) (
 .leaf (.next (wr (u4_2 + (1 : Int)))))) (
 .fail)) (
 .leaf (.l ()))
def wT : LpM := ⟨(Sq Int), Int, Unit, Unit, fun p => ⟨[(32, sqA 1 (eI .i64) p.1), (33, .int .i64 ((p.1.n : Nat) : Int)), (34, .int .i64 p.2)], [], 1792⟩, fun f v => FL f v, false, (.exit 0), (fun _ _ => ⟨[(8, .undef)], [], 1792⟩), .ret, (fun _ _ => ⟨[(8, .bool false)], [], 1792⟩), c1, c1k⟩
def LY (u4_0 : Sq Int) (u4_2 : Int) : Option ((Unit) ⊕ (Unit)) := wT.val (u4_0, u4_2)
theorem aei (u4_0 : Sq Int) (u4_2 : Int) : LY u4_0 u4_2 = fixO (fun v : Int => FL u4_0 v) u4_2 := wT.val_eq (fun x => (sqD dI (aget x.tm 32), intA (aget x.tm 34))) (fun p => by kernel_rfl) (u4_0, u4_2)
def N9 (a : SAir) (s : qz) (pressures : Sq Int) (place : Int) : DT (Bool) :=
 .bind (GA a s) fun z1 =>
 .ite (!z1) (
 .leaf false) (
 .ite (((pressures.n : Nat) : Int) != ((a.Mine.Places.n : Nat) : Int)) (
 .leaf false) (
 .bind (Li place (0 : Int) (wr (((pressures.n : Nat) : Int) - (1 : Int)))) fun z2 =>
 .ite (!z2) (
 .leaf false) (
 .sum (LY pressures (0 : Int)) (fun _ =>
 .leaf true) (fun _ => .leaf false))))
def tV : FnM := flM (SAir × qz × (Sq Int) × Int) (Bool) (fun p => ([.agg (SAir.enc p.1), .agg (qz.enc p.2.1), sqA 1 (eI .i64) p.2.2.1, .int .i64 p.2.2.2], [])) (fun p => N9 p.1 p.2.1 p.2.2.1 p.2.2.2) (fun r => .bool r) (fun _ => rfl)
def KA : Env := envM [(38, uD.c), (182, vP.c)] [(4, [32, 33, 34], [8])] [(4, wT.c)] [] [(4, [])] 0
def ZL : Env := { KA with nt := 42 }
theorem Ng : aQ ZL (qd 4 Tryz.f168) wT.c := wT.tells 1792 (fun _ => by kernel_rfl) (fun _ _ _ _ => by kernel_rfl) (fun _ _ _ _ => by kernel_rfl) fun R f v N K => by kernel_rfl
theorem DC : aI Tryz.prog 168 tV.c := tV.tells Tryz.func168 (show ∀ p, arun KA Tryz.f168 (tV.enc p).1 (tV.enc p).2 = _ from fun p => by kernel_rfl) (qg [qd 4 Tryz.f168] (by kernel_rfl) ⟨lpT (by kernel_rfl) Ng, trivial⟩) (.cons BN (.cons RP .nil))
def Gq (a : SAir) (s : qz) (pressures : Sq Int) (place : Int) : Option (Bool) := tV.val (a, s, pressures, place)
theorem afu (a : SAir) (s : qz) (pressures : Sq Int) (place : Int) : Gq a s pressures place = (N9 a s pressures place).get := tV.val_eq (fun x => (SAir.dec (aggL (gd x.1 0)), qz.dec (aggL (gd x.1 1)), sqD dI (gd x.1 2), intA (gd x.1 3))) (fun p => by kernel_rfl) (a, s, pressures, place)
def KO (u3_0 : Int) (u3_1 : Sq qC) (u3_3 : Sq Int) (u3_4 : Int) : DT (LR ((Sq Int) × Int) ((Sq Int)) (Unit)) :=
 .ite (decide (u3_4 < ((u3_1.n : Nat) : Int))) (
 .ite (decide ((0 : Int) ≤ u3_4 ∧ u3_4 < ((u3_1.n : Nat) : Int))) (
 .ite ((u3_1.f (Int.toNat u3_4)).From == u3_0) (
 .ite (decide ((u3_3.n + 1) * 8 ≤ 140737488355328 ∧ (u3_3.n + 1) ≤ 1099511627776)) (
 .leaf (.next ((Sq.mk (u3_3.n + 1) (fun k0 => (cond (Nat.blt k0 u3_3.n) (u3_3.f k0) u3_4))), (wr (u3_4 + (1 : Int)))))) (
 .fail)) (
 .ite ((u3_1.f (Int.toNat u3_4)).To == u3_0) (
 .ite (decide ((u3_3.n + 1) * 8 ≤ 140737488355328 ∧ (u3_3.n + 1) ≤ 1099511627776)) (
 .leaf (.next ((Sq.mk (u3_3.n + 1) (fun k1 => (cond (Nat.blt k1 u3_3.n) (u3_3.f k1) u3_4))), (wr (u3_4 + (1 : Int)))))) (
 .fail)) (
 .leaf (.next (u3_3, (wr (u3_4 + (1 : Int)))))))) (
 .fail)) (
 .leaf (.l u3_3))
def Cv : LpM := ⟨Int × (Sq qC), (Sq Int) × Int, (Sq Int), Unit, fun p => ⟨[(1, .int .i64 p.1.1), (5, .own 128 0), (9, sqA 10 qC.enc p.1.2), (10, .int .i64 ((p.1.2.n : Nat) : Int)), (11, .int .i64 p.2.2)], [(128, rowA 0 1 3 (eI .i64) p.2.1)], 448⟩, fun f v => KO f.1 f.2 v.1 v.2, true, (.exit 0), (fun _ a => ⟨[(5, .own 128 0)], [(128, rowA 0 1 3 (eI .i64) a)], 448⟩), .ret, (fun _ _ => ⟨[], [], 0⟩), c1, c1k⟩
def WK (u3_0 : Int) (u3_1 : Sq qC) (u3_3 : Sq Int) (u3_4 : Int) : Option (((Sq Int)) ⊕ (Unit)) := Cv.val ((u3_0, u3_1), (u3_3, u3_4))
theorem ags (u3_0 : Int) (u3_1 : Sq qC) (u3_3 : Sq Int) (u3_4 : Int) : WK u3_0 u3_1 u3_3 u3_4 = fixO (fun v : (Sq Int) × Int => KO u3_0 u3_1 v.1 v.2) (u3_3, u3_4) := Cv.val_eq (fun x => ((intA (aget x.tm 1), sqD qC.dec (aget x.tm 9)), (sqB dI (blkS x 128), intA (aget x.tm 11)))) (fun p => by kernel_rfl) ((u3_0, u3_1), (u3_3, u3_4))
def Y8 (m : qI) (place : Int) : DT ((Sq Int)) :=
 .sum (WK place m.Roads (Sq.mk 0 (fun _ => (0 : Int))) (0 : Int)) (fun y0 =>
 .leaf y0) (fun _ => .fail)
def zO : FnM := nfM (qI × Int) ((Sq Int)) (fun p => ([.agg (qI.enc p.1), .int .i64 p.2], [])) (fun p => Y8 p.1 p.2) (fun _ => .own 0 0) (fun _ r => [rowA 0 1 3 (eI .i64) r])
def TN : Env := envM [] [(3, [1, 5, 9, 10, 11], [5])] [(3, Cv.c)] [(1000003, [.asrow 128 3 1 (fun _ => (eI .i64) (0 : Int))])] [(3, [128])] 0
def adZ : Env := { TN with nt := 32 }
theorem Vi : aQ adZ (qd 3 Tryz.f171) Cv.c := Cv.tells 448 (fun _ => by kernel_rfl) (fun _ _ _ _ => by kernel_rfl) (fun _ _ _ _ => by kernel_rfl) fun R f v N K => by kernel_rfl
theorem Ox : aI Tryz.prog 171 zO.c := zO.tells Tryz.func171 (show ∀ p, arun TN Tryz.f171 (zO.enc p).1 (zO.enc p).2 = _ from fun p => by kernel_rfl) (qg [qd 3 Tryz.f171] (by kernel_rfl) ⟨lpT (by kernel_rfl) Vi, trivial⟩) .nil
def Yi (m : qI) (place : Int) : Option ((Sq Int)) := zO.val (m, place)
theorem ah3 (m : qI) (place : Int) : Yi m place = (Y8 m place).get := zO.val_eq (fun x => (qI.dec (aggL (gd x.1 0)), intA (gd x.1 1))) (fun p => by kernel_rfl) (m, place)
def II (u2_0 : Sq Int) (u2_1 u2_3 : Int) : DT (LR (Int) (Unit) (Int)) :=
 .ite (decide (u2_3 < ((u2_0.n : Nat) : Int))) (
 .ite (decide ((0 : Int) ≤ u2_3 ∧ u2_3 < ((u2_0.n : Nat) : Int))) (
 .ite (u2_1 == (u2_0.f (Int.toNat u2_3))) (
 .leaf (.r u2_3)) (
 .leaf (.next (wr (u2_3 + (1 : Int)))))) (
 .fail)) (
 .leaf (.l ()))
def zJ : LpM := ⟨(Sq Int) × Int, Int, Unit, Int, fun p => ⟨[(0, sqA 1 (eI .i64) p.1.1), (1, .int .i64 p.1.2), (7, .int .i64 ((p.1.1.n : Nat) : Int)), (8, .int .i64 p.2)], [], 256⟩, fun f v => II f.1 f.2 v, false, (.exit 0), (fun _ _ => ⟨[(4, .undef)], [], 256⟩), .ret, (fun _ a => ⟨[(4, .int .i64 a)], [], 256⟩), c1, c1k⟩
def Rw (u2_0 : Sq Int) (u2_1 u2_3 : Int) : Option ((Unit) ⊕ (Int)) := zJ.val ((u2_0, u2_1), u2_3)
theorem afk (u2_0 : Sq Int) (u2_1 u2_3 : Int) : Rw u2_0 u2_1 u2_3 = fixO (fun v : Int => II u2_0 u2_1 v) u2_3 := zJ.val_eq (fun x => ((sqD dI (aget x.tm 0), intA (aget x.tm 1)), intA (aget x.tm 8))) (fun p => by kernel_rfl) ((u2_0, u2_1), u2_3)
def Uz (s : Sq Int) (v : Int) : DT (Int) :=
 .sum (Rw s v (0 : Int)) (fun _ =>
 .leaf (-1 : Int)) (fun y0 => .leaf y0)
def wM : FnM := flM ((Sq Int) × Int) (Int) (fun p => ([sqA 1 (eI .i64) p.1, .int .i64 p.2], [])) (fun p => Uz p.1 p.2) (fun r => .int .i64 r) (fun _ => rfl)
def OQ : Env := envM [] [(2, [0, 1, 7, 8], [4])] [(2, zJ.c)] [] [(2, [])] 0
def acs : Env := { OQ with nt := 19 }
theorem Rx : aQ acs (qd 2 Tryz.f110) zJ.c := zJ.tells 256 (fun _ => by kernel_rfl) (fun _ _ _ _ => by kernel_rfl) (fun _ _ _ _ => by kernel_rfl) fun R f v N K => by kernel_rfl
theorem K9 : aI Tryz.prog 110 wM.c := wM.tells Tryz.func110 (show ∀ p, arun OQ Tryz.f110 (wM.enc p).1 (wM.enc p).2 = _ from fun p => by kernel_rfl) (qg [qd 2 Tryz.f110] (by kernel_rfl) ⟨lpT (by kernel_rfl) Rx, trivial⟩) .nil
def slices_Index (s : Sq Int) (v : Int) : Option (Int) := wM.val (s, v)
theorem aha (s : Sq Int) (v : Int) : slices_Index s v = (Uz s v).get := wM.val_eq (fun x => (sqD dI (gd x.1 0), intA (gd x.1 1))) (fun p => by kernel_rfl) (s, v)
def Dm (_u5_1 : Sq qA) (u5_2 : Sq qC) (_u5_3 : Sq SFan) (_u5_4 : Sq qD) (_u5_5 _u5_6 _u5_8 : Sq Int) (_u5_9 : Int) (u5_10 : Sq Int) (u5_7 : Sq qC) (u5_11 : Int) : DT (LR ((Sq qC) × Int) ((Sq qC)) (Unit)) :=
 .ite (decide (u5_11 < ((u5_10.n : Nat) : Int))) (
 .ite (decide ((0 : Int) ≤ u5_11 ∧ u5_11 < ((u5_10.n : Nat) : Int))) (
 .ite (decide ((0 : Int) ≤ (u5_10.f (Int.toNat u5_11)) ∧ (u5_10.f (Int.toNat u5_11)) < ((u5_2.n : Nat) : Int))) (
 .ite (decide ((u5_7.n + 1) * 72 ≤ 140737488355328 ∧ (u5_7.n + 1) ≤ 1099511627776)) (
 .leaf (.next ((Sq.mk (u5_7.n + 1) (fun k0 => (qC.mk (cond (Nat.blt k0 u5_7.n) (u5_7.f k0).From (u5_2.f (Int.toNat (u5_10.f (Int.toNat u5_11)))).From) (cond (Nat.blt k0 u5_7.n) (u5_7.f k0).To (u5_2.f (Int.toNat (u5_10.f (Int.toNat u5_11)))).To) (cond (Nat.blt k0 u5_7.n) (u5_7.f k0).Length (u5_2.f (Int.toNat (u5_10.f (Int.toNat u5_11)))).Length) (cond (Nat.blt k0 u5_7.n) (u5_7.f k0).Area (u5_2.f (Int.toNat (u5_10.f (Int.toNat u5_11)))).Area) (cond (Nat.blt k0 u5_7.n) (u5_7.f k0).Walk (u5_2.f (Int.toNat (u5_10.f (Int.toNat u5_11)))).Walk) (cond (Nat.blt k0 u5_7.n) (u5_7.f k0).Closed (u5_2.f (Int.toNat (u5_10.f (Int.toNat u5_11)))).Closed) (qB.mk (cond (Nat.blt k0 u5_7.n) (u5_7.f k0).Rest.Low (u5_2.f (Int.toNat (u5_10.f (Int.toNat u5_11)))).Rest.Low) (cond (Nat.blt k0 u5_7.n) (u5_7.f k0).Rest.High (u5_2.f (Int.toNat (u5_10.f (Int.toNat u5_11)))).Rest.High)) (qB.mk (cond (Nat.blt k0 u5_7.n) (u5_7.f k0).Lift.Low (u5_2.f (Int.toNat (u5_10.f (Int.toNat u5_11)))).Lift.Low) (cond (Nat.blt k0 u5_7.n) (u5_7.f k0).Lift.High (u5_2.f (Int.toNat (u5_10.f (Int.toNat u5_11)))).Lift.High))))), (wr (u5_11 + (1 : Int)))))) (
 .fail)) (
 .fail)) (
 .fail)) (
 .leaf (.l u5_7))
def uH : LpM := ⟨(Sq qA) × (Sq qC) × (Sq SFan) × (Sq qD) × (Sq Int) × (Sq Int) × (Sq Int) × Int × (Sq Int), (Sq qC) × Int, (Sq qC), Unit, fun p => ⟨[(4, .ptr 0 0), (5, .ptr 64 0), (9, .ptr 384 0), (10, .own 1280 0), (33, .own 1280 0), (34, .int .i64 ((p.1.2.2.2.2.2.2.2.2.n : Nat) : Int)), (35, .int .i64 p.2.2)], [(0, .var [sqA 2 qA.enc p.1.1, sqA 10 qC.enc p.1.2.1, sqA 4 SFan.enc p.1.2.2.1, sqA 3 qD.enc p.1.2.2.2.1]), (64, .var [sqA 1 (eI .i64) p.1.2.2.2.2.1, sqA 1 (eI .i64) p.1.2.2.2.2.2.1]), (321, rowA 0 10 81 qC.enc p.2.1), (322, .nilrow 0), (323, .nilrow 0), (324, .nilrow 0), (325, .nilrow 0), (384, .var [sqA 2 qA.enc p.1.1, .own 321 0, .own 322 0, .own 323 0, .own 324 0, .own 325 0, sqA 1 (eI .i64) p.1.2.2.2.2.2.2.1, .int .i64 p.1.2.2.2.2.2.2.2.1]), (1280, rowA 0 1 3 (eI .i64) p.1.2.2.2.2.2.2.2.2)], 1600⟩, fun f v => Dm f.1 f.2.1 f.2.2.1 f.2.2.2.1 f.2.2.2.2.1 f.2.2.2.2.2.1 f.2.2.2.2.2.2.1 f.2.2.2.2.2.2.2.1 f.2.2.2.2.2.2.2.2 v.1 v.2, true, (.exit 0), (fun x a => ⟨[(4, .ptr 0 0), (5, .ptr 64 0), (9, .ptr 384 0), (10, .own 1280 0)], [(0, blkS x 0), (64, blkS x 64), (321, rowA 0 10 81 qC.enc a), (322, .nilrow 0), (323, .nilrow 0), (324, .nilrow 0), (325, .nilrow 0), (384, blkS x 384), (1280, blkS x 1280)], 1600⟩), .ret, (fun _ _ => ⟨[], [], 0⟩), c1, c1k⟩
def Gy (u5_1 : Sq qA) (u5_2 : Sq qC) (u5_3 : Sq SFan) (u5_4 : Sq qD) (u5_5 u5_6 u5_8 : Sq Int) (u5_9 : Int) (u5_10 : Sq Int) (u5_7 : Sq qC) (u5_11 : Int) : Option (((Sq qC)) ⊕ (Unit)) := uH.val ((u5_1, u5_2, u5_3, u5_4, u5_5, u5_6, u5_8, u5_9, u5_10), (u5_7, u5_11))
theorem acv (u5_1 : Sq qA) (u5_2 : Sq qC) (u5_3 : Sq SFan) (u5_4 : Sq qD) (u5_5 u5_6 u5_8 : Sq Int) (u5_9 : Int) (u5_10 : Sq Int) (u5_7 : Sq qC) (u5_11 : Int) : Gy u5_1 u5_2 u5_3 u5_4 u5_5 u5_6 u5_8 u5_9 u5_10 u5_7 u5_11 = fixO (fun v : (Sq qC) × Int => Dm u5_1 u5_2 u5_3 u5_4 u5_5 u5_6 u5_8 u5_9 u5_10 v.1 v.2) (u5_7, u5_11) := uH.val_eq (fun x => ((sqD qA.dec (cellS x 0 0), sqD qC.dec (cellS x 0 1), sqD SFan.dec (cellS x 0 2), sqD qD.dec (cellS x 0 3), sqD dI (cellS x 64 0), sqD dI (cellS x 64 1), sqD dI (cellS x 384 6), intA (cellS x 384 7), sqB dI (blkS x 1280)), (sqB qC.dec (blkS x 321), intA (aget x.tm 35)))) (fun p => by kernel_rfl) ((u5_1, u5_2, u5_3, u5_4, u5_5, u5_6, u5_8, u5_9, u5_10), (u5_7, u5_11))
def Ce (u10_0 : Sq SFan) (_u10_2 : Sq qA) (_u10_3 : Sq qC) (_u10_4 : Sq qD) (u10_5 _u10_6 : Sq Int) (_u10_7 : Sq qC) (_u10_10 : Sq Int) (_u10_11 : Int) (u10_12 : Sq Int) (u10_8 : Sq SFan) (u10_9 : Sq Int) (u10_13 : Int) : DT (LR ((Sq SFan) × (Sq Int) × Int) ((Sq SFan) × (Sq Int)) (Unit)) :=
 .ite (decide (u10_13 < ((u10_0.n : Nat) : Int))) (
 .ite (decide ((0 : Int) ≤ u10_13 ∧ u10_13 < ((u10_0.n : Nat) : Int))) (
 .bind (slices_Index u10_12 (u10_0.f (Int.toNat u10_13)).Road) fun z0 =>
 .ite (decide (z0 ≥ (0 : Int))) (
 .ite (decide ((u10_8.n + 1) * 40 ≤ 140737488355328 ∧ (u10_8.n + 1) ≤ 1099511627776)) (
 .ite (decide ((0 : Int) ≤ u10_13 ∧ u10_13 < ((u10_5.n : Nat) : Int))) (
 .ite (decide ((u10_9.n + 1) * 8 ≤ 140737488355328 ∧ (u10_9.n + 1) ≤ 1099511627776)) (
 .leaf (.next ((Sq.mk (u10_8.n + 1) (fun k1 => (SFan.mk (cond (Nat.blt k1 u10_8.n) (u10_8.f k1).Road z0) (cond (Nat.blt k1 u10_8.n) (u10_8.f k1).Back (u10_0.f (Int.toNat u10_13)).Back) (cond (Nat.blt k1 u10_8.n) (u10_8.f k1).Auxiliary (u10_0.f (Int.toNat u10_13)).Auxiliary) (Sq.mk (cond (Nat.blt k1 u10_8.n) (u10_8.f k1).Curve.n (u10_0.f (Int.toNat u10_13)).Curve.n) (fun k2 => (qH.mk (cond (Nat.blt k1 u10_8.n) ((u10_8.f k1).Curve.f k2).Flow ((u10_0.f (Int.toNat u10_13)).Curve.f k2).Flow) (cond (Nat.blt k1 u10_8.n) ((u10_8.f k1).Curve.f k2).Pressure ((u10_0.f (Int.toNat u10_13)).Curve.f k2).Pressure))))))), (Sq.mk (u10_9.n + 1) (fun k3 => (cond (Nat.blt k3 u10_9.n) (u10_9.f k3) (u10_5.f (Int.toNat u10_13))))), (wr (u10_13 + (1 : Int)))))) (
 .fail)) (
 .fail)) (
 .fail)) (
 .leaf (.next (u10_8, u10_9, (wr (u10_13 + (1 : Int))))))) (
 .fail)) (
 .leaf (.l (u10_8, u10_9)))
def uq : LpM := ⟨(Sq SFan) × (Sq qA) × (Sq qC) × (Sq qD) × (Sq Int) × (Sq Int) × (Sq qC) × (Sq Int) × Int × (Sq Int), (Sq SFan) × (Sq Int) × Int, (Sq SFan) × (Sq Int), Unit, fun p => ⟨[(4, .ptr 0 0), (5, .ptr 64 0), (9, .ptr 384 0), (10, .own 1280 0), (60, sqA 4 SFan.enc p.1.1), (61, .int .i64 ((p.1.1.n : Nat) : Int)), (62, .int .i64 p.2.2.2)], [(0, .var [sqA 2 qA.enc p.1.2.1, sqA 10 qC.enc p.1.2.2.1, sqA 4 SFan.enc p.1.1, sqA 3 qD.enc p.1.2.2.2.1]), (64, .var [sqA 1 (eI .i64) p.1.2.2.2.2.1, sqA 1 (eI .i64) p.1.2.2.2.2.2.1]), (321, rowA 0 10 81 qC.enc p.1.2.2.2.2.2.2.1), (322, rowA 0 4 117 SFan.enc p.2.1), (323, .nilrow 0), (324, rowA 0 1 3 (eI .i64) p.2.2.1), (325, .nilrow 0), (384, .var [sqA 2 qA.enc p.1.2.1, .own 321 0, .own 322 0, .own 323 0, .own 324 0, .own 325 0, sqA 1 (eI .i64) p.1.2.2.2.2.2.2.2.1, .int .i64 p.1.2.2.2.2.2.2.2.2.1]), (1280, rowA 0 1 3 (eI .i64) p.1.2.2.2.2.2.2.2.2.2)], 1856⟩, fun f v => Ce f.1 f.2.1 f.2.2.1 f.2.2.2.1 f.2.2.2.2.1 f.2.2.2.2.2.1 f.2.2.2.2.2.2.1 f.2.2.2.2.2.2.2.1 f.2.2.2.2.2.2.2.2.1 f.2.2.2.2.2.2.2.2.2 v.1 v.2.1 v.2.2, true, (.exit 2), (fun x a => ⟨[(4, .ptr 0 0), (5, .ptr 64 0), (9, .ptr 384 0), (10, .own 1280 0)], [(0, blkS x 0), (64, blkS x 64), (321, blkS x 321), (322, rowA 0 4 117 SFan.enc a.1), (323, .nilrow 0), (324, rowA 0 1 3 (eI .i64) a.2), (325, .nilrow 0), (384, blkS x 384), (1280, blkS x 1280)], 1856⟩), .ret, (fun _ _ => ⟨[], [], 0⟩), c1, c1k⟩
def FH (u10_0 : Sq SFan) (u10_2 : Sq qA) (u10_3 : Sq qC) (u10_4 : Sq qD) (u10_5 u10_6 : Sq Int) (u10_7 : Sq qC) (u10_10 : Sq Int) (u10_11 : Int) (u10_12 : Sq Int) (u10_8 : Sq SFan) (u10_9 : Sq Int) (u10_13 : Int) : Option (((Sq SFan) × (Sq Int)) ⊕ (Unit)) := uq.val ((u10_0, u10_2, u10_3, u10_4, u10_5, u10_6, u10_7, u10_10, u10_11, u10_12), (u10_8, u10_9, u10_13))
theorem abQ (u10_0 : Sq SFan) (u10_2 : Sq qA) (u10_3 : Sq qC) (u10_4 : Sq qD) (u10_5 u10_6 : Sq Int) (u10_7 : Sq qC) (u10_10 : Sq Int) (u10_11 : Int) (u10_12 : Sq Int) (u10_8 : Sq SFan) (u10_9 : Sq Int) (u10_13 : Int) : FH u10_0 u10_2 u10_3 u10_4 u10_5 u10_6 u10_7 u10_10 u10_11 u10_12 u10_8 u10_9 u10_13 = fixO (fun v : (Sq SFan) × (Sq Int) × Int => Ce u10_0 u10_2 u10_3 u10_4 u10_5 u10_6 u10_7 u10_10 u10_11 u10_12 v.1 v.2.1 v.2.2) (u10_8, u10_9, u10_13) := uq.val_eq (fun x => ((sqD SFan.dec (aget x.tm 60), sqD qA.dec (cellS x 0 0), sqD qC.dec (cellS x 0 1), sqD qD.dec (cellS x 0 3), sqD dI (cellS x 64 0), sqD dI (cellS x 64 1), sqB qC.dec (blkS x 321), sqD dI (cellS x 384 6), intA (cellS x 384 7), sqB dI (blkS x 1280)), (sqB SFan.dec (blkS x 322), sqB dI (blkS x 324), intA (aget x.tm 62)))) (fun p => by kernel_rfl) ((u10_0, u10_2, u10_3, u10_4, u10_5, u10_6, u10_7, u10_10, u10_11, u10_12), (u10_8, u10_9, u10_13))
def Cg (u18_0 : Sq qD) (_u18_2 u18_3 : Sq Int) (_u18_4 : Sq qC) (_u18_5 : Sq SFan) (_u18_7 : Sq Int) (_u18_9 : Sq qA) (_u18_10 : Sq Int) (_u18_11 : Int) (u18_12 : Sq Int) (u18_6 : Sq qD) (u18_8 : Sq Int) (u18_13 : Int) : DT (LR ((Sq qD) × (Sq Int) × Int) ((Sq qD) × (Sq Int)) (Unit)) :=
 .ite (decide (u18_13 < ((u18_0.n : Nat) : Int))) (
 .ite (decide ((0 : Int) ≤ u18_13 ∧ u18_13 < ((u18_0.n : Nat) : Int))) (
 .bind (slices_Index u18_12 (u18_0.f (Int.toNat u18_13)).Road) fun z1 =>
 .ite (decide (z1 ≥ (0 : Int))) (
 .ite (decide ((u18_6.n + 1) * 40 ≤ 140737488355328 ∧ (u18_6.n + 1) ≤ 1099511627776)) (
 .ite (decide ((0 : Int) ≤ u18_13 ∧ u18_13 < ((u18_3.n : Nat) : Int))) (
 .ite (decide ((u18_8.n + 1) * 8 ≤ 140737488355328 ∧ (u18_8.n + 1) ≤ 1099511627776)) (
 .leaf (.next ((Sq.mk (u18_6.n + 1) (fun k4 => (qD.mk (cond (Nat.blt k4 u18_6.n) (u18_6.f k4).Road z1) (cond (Nat.blt k4 u18_6.n) (u18_6.f k4).Other (-1 : Int)) (Sq.mk (cond (Nat.blt k4 u18_6.n) (u18_6.f k4).Rests.n (u18_0.f (Int.toNat u18_13)).Rests.n) (fun k5 => (cond (Nat.blt k4 u18_6.n) ((u18_6.f k4).Rests.f k5) ((u18_0.f (Int.toNat u18_13)).Rests.f k5))))))), (Sq.mk (u18_8.n + 1) (fun k6 => (cond (Nat.blt k6 u18_8.n) (u18_8.f k6) (u18_3.f (Int.toNat u18_13))))), (wr (u18_13 + (1 : Int)))))) (
 .fail)) (
 .fail)) (
 .fail)) (
 .leaf (.next (u18_6, u18_8, (wr (u18_13 + (1 : Int))))))) (
 .fail)) (
 .leaf (.l (u18_6, u18_8)))
def uw : LpM := ⟨(Sq qD) × (Sq Int) × (Sq Int) × (Sq qC) × (Sq SFan) × (Sq Int) × (Sq qA) × (Sq Int) × Int × (Sq Int), (Sq qD) × (Sq Int) × Int, (Sq qD) × (Sq Int), Unit, fun p => ⟨[(5, .ptr 64 0), (9, .ptr 384 0), (10, .own 1280 0), (105, sqA 3 qD.enc p.1.1), (106, .int .i64 ((p.1.1.n : Nat) : Int)), (107, .int .i64 p.2.2.2)], [(64, .var [sqA 1 (eI .i64) p.1.2.1, sqA 1 (eI .i64) p.1.2.2.1]), (321, rowA 0 10 81 qC.enc p.1.2.2.2.1), (322, rowA 0 4 117 SFan.enc p.1.2.2.2.2.1), (323, rowA 0 3 91 qD.enc p.2.1), (324, rowA 0 1 3 (eI .i64) p.1.2.2.2.2.2.1), (325, rowA 0 1 3 (eI .i64) p.2.2.1), (384, .var [sqA 2 qA.enc p.1.2.2.2.2.2.2.1, .own 321 0, .own 322 0, .own 323 0, .own 324 0, .own 325 0, sqA 1 (eI .i64) p.1.2.2.2.2.2.2.2.1, .int .i64 p.1.2.2.2.2.2.2.2.2.1]), (1280, rowA 0 1 3 (eI .i64) p.1.2.2.2.2.2.2.2.2.2)], 2112⟩, fun f v => Cg f.1 f.2.1 f.2.2.1 f.2.2.2.1 f.2.2.2.2.1 f.2.2.2.2.2.1 f.2.2.2.2.2.2.1 f.2.2.2.2.2.2.2.1 f.2.2.2.2.2.2.2.2.1 f.2.2.2.2.2.2.2.2.2 v.1 v.2.1 v.2.2, true, (.exit 4), (fun x a => ⟨[(9, .ptr 384 0)], [(64, blkS x 64), (321, blkS x 321), (322, blkS x 322), (323, rowA 0 3 91 qD.enc a.1), (324, blkS x 324), (325, rowA 0 1 3 (eI .i64) a.2), (384, blkS x 384), (1280, blkS x 1280)], 2112⟩), .ret, (fun _ _ => ⟨[], [], 0⟩), c1, c1k⟩
def FI (u18_0 : Sq qD) (u18_2 u18_3 : Sq Int) (u18_4 : Sq qC) (u18_5 : Sq SFan) (u18_7 : Sq Int) (u18_9 : Sq qA) (u18_10 : Sq Int) (u18_11 : Int) (u18_12 : Sq Int) (u18_6 : Sq qD) (u18_8 : Sq Int) (u18_13 : Int) : Option (((Sq qD) × (Sq Int)) ⊕ (Unit)) := uw.val ((u18_0, u18_2, u18_3, u18_4, u18_5, u18_7, u18_9, u18_10, u18_11, u18_12), (u18_6, u18_8, u18_13))
theorem abR (u18_0 : Sq qD) (u18_2 u18_3 : Sq Int) (u18_4 : Sq qC) (u18_5 : Sq SFan) (u18_7 : Sq Int) (u18_9 : Sq qA) (u18_10 : Sq Int) (u18_11 : Int) (u18_12 : Sq Int) (u18_6 : Sq qD) (u18_8 : Sq Int) (u18_13 : Int) : FI u18_0 u18_2 u18_3 u18_4 u18_5 u18_7 u18_9 u18_10 u18_11 u18_12 u18_6 u18_8 u18_13 = fixO (fun v : (Sq qD) × (Sq Int) × Int => Cg u18_0 u18_2 u18_3 u18_4 u18_5 u18_7 u18_9 u18_10 u18_11 u18_12 v.1 v.2.1 v.2.2) (u18_6, u18_8, u18_13) := uw.val_eq (fun x => ((sqD qD.dec (aget x.tm 105), sqD dI (cellS x 64 0), sqD dI (cellS x 64 1), sqB qC.dec (blkS x 321), sqB SFan.dec (blkS x 322), sqB dI (blkS x 324), sqD qA.dec (cellS x 384 0), sqD dI (cellS x 384 6), intA (cellS x 384 7), sqB dI (blkS x 1280)), (sqB qD.dec (blkS x 323), sqB dI (blkS x 325), intA (aget x.tm 107)))) (fun p => by kernel_rfl) ((u18_0, u18_2, u18_3, u18_4, u18_5, u18_7, u18_9, u18_10, u18_11, u18_12), (u18_6, u18_8, u18_13))
def H6 (a : SAir) (s : qz) (pressures : Sq Int) (place : Int) : DT (qM) :=
 .bind (Yi a.Mine place) fun z2 =>
 .sum (Gy a.Mine.Places a.Mine.Roads a.Fans a.Doors s.Fans s.Doors pressures place z2 (Sq.mk 0 (fun _ => (qC.mk (0 : Int) (0 : Int) (0 : Int) (0 : Int) false false (qB.mk (0 : Int) (0 : Int)) (qB.mk (0 : Int) (0 : Int))))) (0 : Int)) (fun y0 =>
 .sum (FH a.Fans a.Mine.Places a.Mine.Roads a.Doors s.Fans s.Doors y0 pressures place z2 (Sq.mk 0 (fun _ => (SFan.mk (0 : Int) false false (Sq.mk 0 (fun _ => (qH.mk (0 : Int) (0 : Int))))))) (Sq.mk 0 (fun _ => (0 : Int))) (0 : Int)) (fun y1 =>
 .sum (FI a.Doors s.Fans s.Doors y0 y1.1 y1.2 a.Mine.Places pressures place z2 (Sq.mk 0 (fun _ => (qD.mk (0 : Int) (0 : Int) (Sq.mk 0 (fun _ => (0 : Int)))))) (Sq.mk 0 (fun _ => (0 : Int))) (0 : Int)) (fun y2 =>
 .leaf (qM.mk (SAir.mk (qI.mk a.Mine.Places y0) y1.1 y2.1) (qz.mk y1.2 y2.2) pressures place)) (fun _ => .fail)) (fun _ => .fail)) (fun _ => .fail)
def rC : FnM := nfM (SAir × qz × (Sq Int) × Int) (qM) (fun p => ([.agg (SAir.enc p.1), .agg (qz.enc p.2.1), sqA 1 (eI .i64) p.2.2.1, .int .i64 p.2.2.2], [])) (fun p => H6 p.1 p.2.1 p.2.2.1 p.2.2.2) (fun _ => .ptr 0 0) (fun _ r => [.var [sqA 2 qA.enc r.air_.Mine.Places, .own 1 0, .own 2 0, .own 3 0, .own 4 0, .own 5 0, sqA 1 (eI .i64) r.pressures_, .int .i64 r.place_], rowA 0 10 81 qC.enc r.air_.Mine.Roads, rowA 0 4 117 SFan.enc r.air_.Fans, rowA 0 3 91 qD.enc r.air_.Doors, rowA 0 1 3 (eI .i64) r.setting_.Fans, rowA 0 1 3 (eI .i64) r.setting_.Doors])
def FE : Env := envM [(171, zO.c), (110, wM.c)] [(5, [4, 5, 9, 10, 33, 34, 35], [4, 5, 9, 10]), (10, [4, 5, 9, 10, 60, 61, 62], [4, 5, 9, 10]), (18, [5, 9, 10, 105, 106, 107], [9])] [(5, uH.c), (10, uq.c), (18, uw.c)] [(1000005, [.asrow 321 81 10 (fun _ => qC.enc (qC.mk (0 : Int) (0 : Int) (0 : Int) (0 : Int) false false (qB.mk (0 : Int) (0 : Int)) (qB.mk (0 : Int) (0 : Int))))]), (1000010, [.asrow 322 117 4 (fun _ => SFan.enc (SFan.mk (0 : Int) false false (Sq.mk 0 (fun _ => (qH.mk (0 : Int) (0 : Int)))))), .asrow 324 3 1 (fun _ => (eI .i64) (0 : Int))]), (1000018, [.asrow 323 91 3 (fun _ => qD.enc (qD.mk (0 : Int) (0 : Int) (Sq.mk 0 (fun _ => (0 : Int))))), .asrow 325 3 1 (fun _ => (eI .i64) (0 : Int))])] [(5, [0, 64, 321, 322, 323, 324, 325, 384, 1280]), (10, [0, 64, 321, 322, 323, 324, 325, 384, 1280]), (18, [64, 321, 322, 323, 324, 325, 384, 1280])] 0
def Dz : Env := { FE with nt := 151 }
theorem Jh : aQ Dz (qd 5 Tryz.f169) uH.c := uH.tells 1600 (fun _ => by kernel_rfl) (fun _ _ _ _ => by kernel_rfl) (fun _ _ _ _ => by kernel_rfl) fun R f v N K => by kernel_rfl
theorem IJ : aQ Dz (qd 10 Tryz.f169) uq.c := uq.tells 1856 (fun _ => by kernel_rfl) (fun _ _ _ _ => by kernel_rfl) (fun _ _ _ _ => by kernel_rfl) fun R f v N K => by kernel_rfl
theorem IK : aQ Dz (qd 18 Tryz.f169) uw.c := uw.tells 2112 (fun _ => by kernel_rfl) (fun _ _ _ _ => by kernel_rfl) (fun _ _ _ _ => by kernel_rfl) fun R f v N K => by kernel_rfl
theorem zh : aI Tryz.prog 169 rC.c := rC.tells Tryz.func169 (show ∀ p, arun FE Tryz.f169 (rC.enc p).1 (rC.enc p).2 = _ from fun p => by kernel_rfl) (qg [qd 5 Tryz.f169, qd 10 Tryz.f169, qd 18 Tryz.f169] (by kernel_rfl) ⟨lpT (by kernel_rfl) Jh, ⟨lpT (by kernel_rfl) IJ, ⟨lpT (by kernel_rfl) IK, trivial⟩⟩⟩) (.cons Ox (.cons K9 .nil))
def BL (a : SAir) (s : qz) (pressures : Sq Int) (place : Int) : Option (qM) := rC.val (a, s, pressures, place)
theorem adH (a : SAir) (s : qz) (pressures : Sq Int) (place : Int) : BL a s pressures place = (H6 a s pressures place).get := rC.val_eq (fun x => (SAir.dec (aggL (gd x.1 0)), qz.dec (aggL (gd x.1 1)), sqD dI (gd x.1 2), intA (gd x.1 3))) (fun p => by kernel_rfl) (a, s, pressures, place)
def TQ (m : qI) (road : Int) : DT (Bool) :=
 .bind (Es road (0 : Int) (wr (((m.Roads.n : Nat) : Int) - (1 : Int)))) fun z0 =>
 .leaf z0
def yS : FnM := flM (qI × Int) (Bool) (fun p => ([.agg (qI.enc p.1), .int .i64 p.2], [])) (fun p => TQ p.1 p.2) (fun r => .bool r) (fun _ => rfl)
def Z0 : Env := envM [(96, wE.c)] [] [] [] [] 0
theorem WM : aI Tryz.prog 184 yS.c := yS.tells Tryz.func184 (show ∀ p, arun Z0 Tryz.f184 (yS.enc p).1 (yS.enc p).2 = _ from fun p => by kernel_rfl) p8 (.cons Gb .nil)
def Za (m : qI) (road : Int) : Option (Bool) := yS.val (m, road)
theorem agZ (m : qI) (road : Int) : Za m road = (TQ m road).get := yS.val_eq (fun x => (qI.dec (aggL (gd x.1 0)), intA (gd x.1 1))) (fun p => by kernel_rfl) (m, road)
def Y6 (m : qI) (road place : Int) : DT (Int) :=
 .bind (Za m road) fun z0 =>
 .ite (!z0) (
 .leaf (-1 : Int)) (
 .ite (decide ((0 : Int) ≤ road ∧ road < ((m.Roads.n : Nat) : Int))) (
 .ite (place == (m.Roads.f (Int.toNat road)).From) (
 .leaf (m.Roads.f (Int.toNat road)).To) (
 .ite (place == (m.Roads.f (Int.toNat road)).To) (.leaf (m.Roads.f (Int.toNat road)).From) (.leaf (-1 : Int)))) (
 .fail))
def zN : FnM := flM (qI × Int × Int) (Int) (fun p => ([.agg (qI.enc p.1), .int .i64 p.2.1, .int .i64 p.2.2], [])) (fun p => Y6 p.1 p.2.1 p.2.2) (fun r => .int .i64 r) (fun _ => rfl)
def ab1 : Env := envM [(184, yS.c)] [] [] [] [] 0
theorem Ow : aI Tryz.prog 172 zN.c := zN.tells Tryz.func172 (show ∀ p, arun ab1 Tryz.f172 (zN.enc p).1 (zN.enc p).2 = _ from fun p => by kernel_rfl) p8 (.cons WM .nil)
def Yh (m : qI) (road place : Int) : Option (Int) := zN.val (m, road, place)
theorem ah1 (m : qI) (road place : Int) : Yh m road place = (Y6 m road place).get := zN.val_eq (fun x => (qI.dec (aggL (gd x.1 0)), intA (gd x.1 1), intA (gd x.1 2))) (fun p => by kernel_rfl) (m, road, place)
def aaI (d : qD) (state : Int) : DT (qB) :=
 .bind (ac7 ((d.Rests.n : Nat) : Int) state) fun z0 =>
 .ite z0 (
 .ite (decide ((0 : Int) ≤ state ∧ state < ((d.Rests.n : Nat) : Int))) (
 .ite (decide ((0 : Int) ≤ state ∧ state < ((d.Rests.n : Nat) : Int))) (.leaf (qB.mk (d.Rests.f (Int.toNat state)) (d.Rests.f (Int.toNat state)))) (.fail)) (
 .fail)) (
 .ite (state == (-1 : Int)) (
 .ite (decide (((d.Rests.n : Nat) : Int) > (0 : Int))) (
 .bind (acV d.Rests) fun z1 =>
 .bind (acU d.Rests) fun z2 =>
 .leaf (qB.mk z1 z2)) (
 .leaf (qB.mk (0 : Int) (0 : Int)))) (
 .leaf (qB.mk (0 : Int) (0 : Int))))
def En : FnM := flM (qD × Int) (qB) (fun p => ([.agg (qD.enc p.1), .int .i64 p.2], [])) (fun p => aaI p.1 p.2) (fun r => .agg (qB.enc r)) (fun _ => rfl)
def ac6 : Env := envM [(180, EB.c), (188, Df.c), (189, Db.c)] [] [] [] [] 0
theorem aaJ : aI Tryz.prog 186 En.c := En.tells Tryz.func186 (show ∀ p, arun ac6 Tryz.f186 (En.enc p).1 (En.enc p).2 = _ from fun p => by kernel_rfl) p8 (.cons TA (.cons aak (.cons aaj .nil)))
def adR (d : qD) (state : Int) : Option (qB) := En.val (d, state)
theorem aiu (d : qD) (state : Int) : adR d state = (aaI d state).get := En.val_eq (fun x => (qD.dec (aggL (gd x.1 0)), intA (gd x.1 1))) (fun p => by kernel_rfl) (d, state)
def Wj (s t : qB) : DT (qB) :=
 .leaf (qB.mk (wr (s.Low + t.Low)) (wr (s.High + t.High)))
def Ad : FnM := flM (qB × qB) (qB) (fun p => ([.agg (qB.enc p.1), .agg (qB.enc p.2)], [])) (fun p => Wj p.1 p.2) (fun r => .agg (qB.enc r)) (fun _ => rfl)
def aaD : Env := envM [] [] [] [] [] 0
theorem X7 : aI Tryz.prog 185 Ad.c := Ad.tells Tryz.func185 (show ∀ p, arun aaD Tryz.f185 (Ad.enc p).1 (Ad.enc p).2 = _ from fun p => by kernel_rfl) p8 .nil
def aaC (s t : qB) : Option (qB) := Ad.val (s, t)
theorem ahl (s t : qB) : aaC s t = (Wj s t).get := Ad.val_eq (fun x => (qB.dec (aggL (gd x.1 0)), qB.dec (aggL (gd x.1 1)))) (fun p => by kernel_rfl) (s, t)
def EU (u3_0 : Int) (u3_1 : Sq qD) (_u3_3 : Sq qA) (_u3_4 : Sq qC) (_u3_5 : Sq SFan) (_u3_6 u3_7 : Sq Int) (_u3_8 _u3_9 _u3_10 _u3_11 : Int) (_u3_12 _u3_13 : Bool) (_u3_16 _u3_17 u3_14 u3_15 u3_18 : Int) : DT (LR (Int × Int × Int) (Int × Int) (Unit)) :=
 .ite (decide (u3_18 < ((u3_1.n : Nat) : Int))) (
 .ite (decide ((0 : Int) ≤ u3_18 ∧ u3_18 < ((u3_1.n : Nat) : Int))) (
 .ite ((u3_1.f (Int.toNat u3_18)).Road == u3_0) (
 .ite (decide ((0 : Int) ≤ u3_18 ∧ u3_18 < ((u3_7.n : Nat) : Int))) (
 .bind (adR (u3_1.f (Int.toNat u3_18)) (u3_7.f (Int.toNat u3_18))) fun z0 =>
 .bind (aaC (qB.mk u3_14 u3_15) z0) fun z1 =>
 .leaf (.next (z1.Low, z1.High, (wr (u3_18 + (1 : Int)))))) (
 .fail)) (
 .leaf (.next (u3_14, u3_15, (wr (u3_18 + (1 : Int))))))) (
 .fail)) (
 .leaf (.l (u3_14, u3_15)))
def wo : LpM := ⟨Int × (Sq qD) × (Sq qA) × (Sq qC) × (Sq SFan) × (Sq Int) × (Sq Int) × Int × Int × Int × Int × Bool × Bool × Int × Int, Int × Int × Int, Int × Int, Unit, fun p => ⟨[(2, .int .i64 p.1.1), (3, .ptr 0 0), (4, .ptr 64 0), (6, .ptr 128 0), (7, .ptr 640 0), (20, sqA 3 qD.enc p.1.2.1), (21, .int .i64 ((p.1.2.1.n : Nat) : Int)), (22, .int .i64 p.2.2.2)], [(0, .var [sqA 2 qA.enc p.1.2.2.1, sqA 10 qC.enc p.1.2.2.2.1, sqA 4 SFan.enc p.1.2.2.2.2.1, sqA 3 qD.enc p.1.2.1]), (64, .var [sqA 1 (eI .i64) p.1.2.2.2.2.2.1, sqA 1 (eI .i64) p.1.2.2.2.2.2.2.1]), (128, .var [.int .i64 (0 : Int), .int .i64 (0 : Int), .int .i64 (0 : Int), .int .i64 (0 : Int), .bool false, .bool false, .int .i64 (0 : Int), .int .i64 (0 : Int), .int .i64 (0 : Int), .int .i64 (0 : Int), .own 129 0]), (129, .nilrow 0), (576, .nilrow 0), (640, .var [.int .i64 p.1.2.2.2.2.2.2.2.1, .int .i64 p.1.2.2.2.2.2.2.2.2.1, .int .i64 p.1.2.2.2.2.2.2.2.2.2.1, .int .i64 p.1.2.2.2.2.2.2.2.2.2.2.1, .bool p.1.2.2.2.2.2.2.2.2.2.2.2.1, .bool p.1.2.2.2.2.2.2.2.2.2.2.2.2.1, .int .i64 p.2.1, .int .i64 p.2.2.1, .int .i64 p.1.2.2.2.2.2.2.2.2.2.2.2.2.2.1, .int .i64 p.1.2.2.2.2.2.2.2.2.2.2.2.2.2.2, .own 576 0])], 1024⟩, fun f v => EU f.1 f.2.1 f.2.2.1 f.2.2.2.1 f.2.2.2.2.1 f.2.2.2.2.2.1 f.2.2.2.2.2.2.1 f.2.2.2.2.2.2.2.1 f.2.2.2.2.2.2.2.2.1 f.2.2.2.2.2.2.2.2.2.1 f.2.2.2.2.2.2.2.2.2.2.1 f.2.2.2.2.2.2.2.2.2.2.2.1 f.2.2.2.2.2.2.2.2.2.2.2.2.1 f.2.2.2.2.2.2.2.2.2.2.2.2.2.1 f.2.2.2.2.2.2.2.2.2.2.2.2.2.2 v.1 v.2.1 v.2.2, true, (.exit 0), (fun x a => ⟨[(2, aget x.tm 2), (3, .ptr 0 0), (4, .ptr 64 0), (6, .ptr 128 0), (7, .ptr 640 0)], [(0, blkS x 0), (64, blkS x 64), (128, .var [.int .i64 (0 : Int), .int .i64 (0 : Int), .int .i64 (0 : Int), .int .i64 (0 : Int), .bool false, .bool false, .int .i64 (0 : Int), .int .i64 (0 : Int), .int .i64 (0 : Int), .int .i64 (0 : Int), .own 129 0]), (129, .nilrow 0), (576, .nilrow 0), (640, .var [cellS x 640 0, cellS x 640 1, cellS x 640 2, cellS x 640 3, cellS x 640 4, cellS x 640 5, .int .i64 a.1, .int .i64 a.2, cellS x 640 8, cellS x 640 9, .own 576 0])], 1024⟩), .ret, (fun _ _ => ⟨[], [], 0⟩), c1, c1k⟩
def KD (u3_0 : Int) (u3_1 : Sq qD) (u3_3 : Sq qA) (u3_4 : Sq qC) (u3_5 : Sq SFan) (u3_6 u3_7 : Sq Int) (u3_8 u3_9 u3_10 u3_11 : Int) (u3_12 u3_13 : Bool) (u3_16 u3_17 u3_14 u3_15 u3_18 : Int) : Option ((Int × Int) ⊕ (Unit)) := wo.val ((u3_0, u3_1, u3_3, u3_4, u3_5, u3_6, u3_7, u3_8, u3_9, u3_10, u3_11, u3_12, u3_13, u3_16, u3_17), (u3_14, u3_15, u3_18))
theorem adJ (u3_0 : Int) (u3_1 : Sq qD) (u3_3 : Sq qA) (u3_4 : Sq qC) (u3_5 : Sq SFan) (u3_6 u3_7 : Sq Int) (u3_8 u3_9 u3_10 u3_11 : Int) (u3_12 u3_13 : Bool) (u3_16 u3_17 u3_14 u3_15 u3_18 : Int) : KD u3_0 u3_1 u3_3 u3_4 u3_5 u3_6 u3_7 u3_8 u3_9 u3_10 u3_11 u3_12 u3_13 u3_16 u3_17 u3_14 u3_15 u3_18 = fixO (fun v : Int × Int × Int => EU u3_0 u3_1 u3_3 u3_4 u3_5 u3_6 u3_7 u3_8 u3_9 u3_10 u3_11 u3_12 u3_13 u3_16 u3_17 v.1 v.2.1 v.2.2) (u3_14, u3_15, u3_18) := wo.val_eq (fun x => ((intA (aget x.tm 2), sqD qD.dec (aget x.tm 20), sqD qA.dec (cellS x 0 0), sqD qC.dec (cellS x 0 1), sqD SFan.dec (cellS x 0 2), sqD dI (cellS x 64 0), sqD dI (cellS x 64 1), intA (cellS x 640 0), intA (cellS x 640 1), intA (cellS x 640 2), intA (cellS x 640 3), pU (cellS x 640 4), pU (cellS x 640 5), intA (cellS x 640 8), intA (cellS x 640 9)), (intA (cellS x 640 6), intA (cellS x 640 7), intA (aget x.tm 22)))) (fun p => by kernel_rfl) ((u3_0, u3_1, u3_3, u3_4, u3_5, u3_6, u3_7, u3_8, u3_9, u3_10, u3_11, u3_12, u3_13, u3_16, u3_17), (u3_14, u3_15, u3_18))
def EW (u9_0 : Int) (u9_1 : Sq SFan) (u9_3 _u9_4 : Sq Int) (_u9_6 _u9_7 _u9_8 _u9_9 : Int) (_u9_10 _u9_11 : Bool) (_u9_12 _u9_13 _u9_14 _u9_15 : Int) (u9_5 : Sq qK) (u9_16 : Int) : DT (LR ((Sq qK) × Int) ((Sq qK)) (Unit)) :=
 .ite (decide (u9_16 < ((u9_1.n : Nat) : Int))) (
 .ite (decide ((0 : Int) ≤ u9_16 ∧ u9_16 < ((u9_1.n : Nat) : Int))) (
 .ite ((u9_1.f (Int.toNat u9_16)).Road == u9_0) (
 .ite (decide ((0 : Int) ≤ u9_16 ∧ u9_16 < ((u9_3.n : Nat) : Int))) (
 .ite (decide ((u9_5.n + 1) * 48 ≤ 140737488355328 ∧ (u9_5.n + 1) ≤ 1099511627776)) (
 .leaf (.next ((Sq.mk (u9_5.n + 1) (fun k0 => (qK.mk (SFan.mk (cond (Nat.blt k0 u9_5.n) (u9_5.f k0).Fan.Road (u9_1.f (Int.toNat u9_16)).Road) (cond (Nat.blt k0 u9_5.n) (u9_5.f k0).Fan.Back (u9_1.f (Int.toNat u9_16)).Back) (cond (Nat.blt k0 u9_5.n) (u9_5.f k0).Fan.Auxiliary (u9_1.f (Int.toNat u9_16)).Auxiliary) (Sq.mk (cond (Nat.blt k0 u9_5.n) (u9_5.f k0).Fan.Curve.n (u9_1.f (Int.toNat u9_16)).Curve.n) (fun k1 => (qH.mk (cond (Nat.blt k0 u9_5.n) ((u9_5.f k0).Fan.Curve.f k1).Flow ((u9_1.f (Int.toNat u9_16)).Curve.f k1).Flow) (cond (Nat.blt k0 u9_5.n) ((u9_5.f k0).Fan.Curve.f k1).Pressure ((u9_1.f (Int.toNat u9_16)).Curve.f k1).Pressure))))) (cond (Nat.blt k0 u9_5.n) (u9_5.f k0).state_ (u9_3.f (Int.toNat u9_16)))))), (wr (u9_16 + (1 : Int)))))) (
 .fail)) (
 .fail)) (
 .leaf (.next (u9_5, (wr (u9_16 + (1 : Int))))))) (
 .fail)) (
 .leaf (.l u9_5))
def wu : LpM := ⟨Int × (Sq SFan) × (Sq Int) × (Sq Int) × Int × Int × Int × Int × Bool × Bool × Int × Int × Int × Int, (Sq qK) × Int, (Sq qK), Unit, fun p => ⟨[(2, .int .i64 p.1.1), (4, .ptr 64 0), (6, .ptr 128 0), (7, .ptr 640 0), (46, sqA 4 SFan.enc p.1.2.1), (47, .int .i64 ((p.1.2.1.n : Nat) : Int)), (48, .int .i64 p.2.2)], [(64, .var [sqA 1 (eI .i64) p.1.2.2.1, sqA 1 (eI .i64) p.1.2.2.2.1]), (128, .var [.int .i64 (0 : Int), .int .i64 (0 : Int), .int .i64 (0 : Int), .int .i64 (0 : Int), .bool false, .bool false, .int .i64 (0 : Int), .int .i64 (0 : Int), .int .i64 (0 : Int), .int .i64 (0 : Int), .own 129 0]), (129, .nilrow 0), (576, rowA 0 5 211 qK.enc p.2.1), (640, .var [.int .i64 p.1.2.2.2.2.1, .int .i64 p.1.2.2.2.2.2.1, .int .i64 p.1.2.2.2.2.2.2.1, .int .i64 p.1.2.2.2.2.2.2.2.1, .bool p.1.2.2.2.2.2.2.2.2.1, .bool p.1.2.2.2.2.2.2.2.2.2.1, .int .i64 p.1.2.2.2.2.2.2.2.2.2.2.1, .int .i64 p.1.2.2.2.2.2.2.2.2.2.2.2.1, .int .i64 p.1.2.2.2.2.2.2.2.2.2.2.2.2.1, .int .i64 p.1.2.2.2.2.2.2.2.2.2.2.2.2.2, .own 576 0])], 1280⟩, fun f v => EW f.1 f.2.1 f.2.2.1 f.2.2.2.1 f.2.2.2.2.1 f.2.2.2.2.2.1 f.2.2.2.2.2.2.1 f.2.2.2.2.2.2.2.1 f.2.2.2.2.2.2.2.2.1 f.2.2.2.2.2.2.2.2.2.1 f.2.2.2.2.2.2.2.2.2.2.1 f.2.2.2.2.2.2.2.2.2.2.2.1 f.2.2.2.2.2.2.2.2.2.2.2.2.1 f.2.2.2.2.2.2.2.2.2.2.2.2.2 v.1 v.2, true, (.exit 2), (fun x a => ⟨[(6, .ptr 128 0), (7, .ptr 640 0)], [(64, blkS x 64), (128, .var [.int .i64 (0 : Int), .int .i64 (0 : Int), .int .i64 (0 : Int), .int .i64 (0 : Int), .bool false, .bool false, .int .i64 (0 : Int), .int .i64 (0 : Int), .int .i64 (0 : Int), .int .i64 (0 : Int), .own 129 0]), (129, .nilrow 0), (576, rowA 0 5 211 qK.enc a), (640, blkS x 640)], 1280⟩), .ret, (fun _ _ => ⟨[], [], 0⟩), c1, c1k⟩
def KE (u9_0 : Int) (u9_1 : Sq SFan) (u9_3 u9_4 : Sq Int) (u9_6 u9_7 u9_8 u9_9 : Int) (u9_10 u9_11 : Bool) (u9_12 u9_13 u9_14 u9_15 : Int) (u9_5 : Sq qK) (u9_16 : Int) : Option (((Sq qK)) ⊕ (Unit)) := wu.val ((u9_0, u9_1, u9_3, u9_4, u9_6, u9_7, u9_8, u9_9, u9_10, u9_11, u9_12, u9_13, u9_14, u9_15), (u9_5, u9_16))
theorem adK (u9_0 : Int) (u9_1 : Sq SFan) (u9_3 u9_4 : Sq Int) (u9_6 u9_7 u9_8 u9_9 : Int) (u9_10 u9_11 : Bool) (u9_12 u9_13 u9_14 u9_15 : Int) (u9_5 : Sq qK) (u9_16 : Int) : KE u9_0 u9_1 u9_3 u9_4 u9_6 u9_7 u9_8 u9_9 u9_10 u9_11 u9_12 u9_13 u9_14 u9_15 u9_5 u9_16 = fixO (fun v : (Sq qK) × Int => EW u9_0 u9_1 u9_3 u9_4 u9_6 u9_7 u9_8 u9_9 u9_10 u9_11 u9_12 u9_13 u9_14 u9_15 v.1 v.2) (u9_5, u9_16) := wu.val_eq (fun x => ((intA (aget x.tm 2), sqD SFan.dec (aget x.tm 46), sqD dI (cellS x 64 0), sqD dI (cellS x 64 1), intA (cellS x 640 0), intA (cellS x 640 1), intA (cellS x 640 2), intA (cellS x 640 3), pU (cellS x 640 4), pU (cellS x 640 5), intA (cellS x 640 6), intA (cellS x 640 7), intA (cellS x 640 8), intA (cellS x 640 9)), (sqB qK.dec (blkS x 576), intA (aget x.tm 48)))) (fun p => by kernel_rfl) ((u9_0, u9_1, u9_3, u9_4, u9_6, u9_7, u9_8, u9_9, u9_10, u9_11, u9_12, u9_13, u9_14, u9_15), (u9_5, u9_16))
def Ma (a : SAir) (s : qz) (road : Int) : DT (qN) :=
 .ite (decide ((0 : Int) ≤ road ∧ road < ((a.Mine.Roads.n : Nat) : Int))) (
 .sum (KD road a.Doors a.Mine.Places a.Mine.Roads a.Fans s.Fans s.Doors (a.Mine.Roads.f (Int.toNat road)).From (a.Mine.Roads.f (Int.toNat road)).To (a.Mine.Roads.f (Int.toNat road)).Length (a.Mine.Roads.f (Int.toNat road)).Area (a.Mine.Roads.f (Int.toNat road)).Walk (a.Mine.Roads.f (Int.toNat road)).Closed (a.Mine.Roads.f (Int.toNat road)).Lift.Low (a.Mine.Roads.f (Int.toNat road)).Lift.High (a.Mine.Roads.f (Int.toNat road)).Rest.Low (a.Mine.Roads.f (Int.toNat road)).Rest.High (0 : Int)) (fun y0 =>
 .sum (KE road a.Fans s.Fans s.Doors (a.Mine.Roads.f (Int.toNat road)).From (a.Mine.Roads.f (Int.toNat road)).To (a.Mine.Roads.f (Int.toNat road)).Length (a.Mine.Roads.f (Int.toNat road)).Area (a.Mine.Roads.f (Int.toNat road)).Walk (a.Mine.Roads.f (Int.toNat road)).Closed y0.1 y0.2 (a.Mine.Roads.f (Int.toNat road)).Lift.Low (a.Mine.Roads.f (Int.toNat road)).Lift.High (Sq.mk 0 (fun _ => (qK.mk (SFan.mk (0 : Int) false false (Sq.mk 0 (fun _ => (qH.mk (0 : Int) (0 : Int))))) (0 : Int)))) (0 : Int)) (fun y1 =>
 .leaf (qN.mk (qC.mk (a.Mine.Roads.f (Int.toNat road)).From (a.Mine.Roads.f (Int.toNat road)).To (a.Mine.Roads.f (Int.toNat road)).Length (a.Mine.Roads.f (Int.toNat road)).Area (a.Mine.Roads.f (Int.toNat road)).Walk (a.Mine.Roads.f (Int.toNat road)).Closed (qB.mk y0.1 y0.2) (a.Mine.Roads.f (Int.toNat road)).Lift) y1)) (fun _ => .fail)) (fun _ => .fail)) (
 .fail)
def uZ : FnM := nfM (SAir × qz × Int) (qN) (fun p => ([.agg (SAir.enc p.1), .agg (qz.enc p.2.1), .int .i64 p.2.2], [])) (fun p => Ma p.1 p.2.1 p.2.2) (fun r => .agg [.int .i64 r.Road.From, .int .i64 r.Road.To, .int .i64 r.Road.Length, .int .i64 r.Road.Area, .bool r.Road.Walk, .bool r.Road.Closed, .int .i64 r.Road.Rest.Low, .int .i64 r.Road.Rest.High, .int .i64 r.Road.Lift.Low, .int .i64 r.Road.Lift.High, .own 0 0]) (fun _ r => [rowA 0 5 211 qK.enc r.blowers_])
def Jk : Env := envM [(186, En.c), (185, Ad.c)] [(3, [2, 3, 4, 6, 7, 20, 21, 22], [2, 3, 4, 6, 7]), (9, [2, 4, 6, 7, 46, 47, 48], [6, 7])] [(3, wo.c), (9, wu.c)] [(1000009, [.asrow 576 211 5 (fun _ => qK.enc (qK.mk (SFan.mk (0 : Int) false false (Sq.mk 0 (fun _ => (qH.mk (0 : Int) (0 : Int))))) (0 : Int)))])] [(3, [0, 64, 128, 129, 576, 640]), (9, [64, 128, 129, 576, 640])] 0
def L6 : Env := { Jk with nt := 71 }
theorem L8 : aQ L6 (qd 3 Tryz.f173) wo.c := wo.tells 1024 (fun _ => by kernel_rfl) (fun _ _ _ _ => by kernel_rfl) (fun _ _ _ _ => by kernel_rfl) fun R f v N K => by kernel_rfl
theorem L9 : aQ L6 (qd 9 Tryz.f173) wu.c := wu.tells 1280 (fun _ => by kernel_rfl) (fun _ _ _ _ => by kernel_rfl) (fun _ _ _ _ => by kernel_rfl) fun R f v N K => by kernel_rfl
theorem P6 : aI Tryz.prog 173 uZ.c := uZ.tells Tryz.func173 (show ∀ p, arun Jk Tryz.f173 (uZ.enc p).1 (uZ.enc p).2 = _ from fun p => by kernel_rfl) (qg [qd 3 Tryz.f173, qd 9 Tryz.f173] (by kernel_rfl) ⟨lpT (by kernel_rfl) L8, ⟨lpT (by kernel_rfl) L9, trivial⟩⟩) (.cons aaJ (.cons X7 .nil))
def P5 (a : SAir) (s : qz) (road : Int) : Option (qN) := uZ.val (a, s, road)
theorem aeW (a : SAir) (s : qz) (road : Int) : P5 a s road = (Ma a s road).get := uZ.val_eq (fun x => (SAir.dec (aggL (gd x.1 0)), qz.dec (aggL (gd x.1 1)), intA (gd x.1 2))) (fun p => by kernel_rfl) (a, s, road)
def Wi (a : SAir) (s : qz) (road : Int) : DT (qN × Bool) :=
 .bind (GA a s) fun z0 =>
 .ite (!z0) (
 .leaf ((qN.mk (qC.mk (0 : Int) (0 : Int) (0 : Int) (0 : Int) false false (qB.mk (0 : Int) (0 : Int)) (qB.mk (0 : Int) (0 : Int))) (Sq.mk 0 (fun _ => (qK.mk (SFan.mk (0 : Int) false false (Sq.mk 0 (fun _ => (qH.mk (0 : Int) (0 : Int))))) (0 : Int))))), false)) (
 .bind (Gs a road) fun z1 =>
 .ite (!z1) (
 .leaf ((qN.mk (qC.mk (0 : Int) (0 : Int) (0 : Int) (0 : Int) false false (qB.mk (0 : Int) (0 : Int)) (qB.mk (0 : Int) (0 : Int))) (Sq.mk 0 (fun _ => (qK.mk (SFan.mk (0 : Int) false false (Sq.mk 0 (fun _ => (qH.mk (0 : Int) (0 : Int))))) (0 : Int))))), false)) (
 .ite (decide ((0 : Int) ≤ road ∧ road < ((a.Mine.Roads.n : Nat) : Int))) (
 .ite (a.Mine.Roads.f (Int.toNat road)).Closed (
 .leaf ((qN.mk (qC.mk (0 : Int) (0 : Int) (0 : Int) (0 : Int) false false (qB.mk (0 : Int) (0 : Int)) (qB.mk (0 : Int) (0 : Int))) (Sq.mk 0 (fun _ => (qK.mk (SFan.mk (0 : Int) false false (Sq.mk 0 (fun _ => (qH.mk (0 : Int) (0 : Int))))) (0 : Int))))), false)) (
 .bind (P5 a s road) fun z2 =>
 .leaf (z2, true))) (
 .fail)))
def Ac : FnM := nfM (SAir × qz × Int) (qN × Bool) (fun p => ([.agg (SAir.enc p.1), .agg (qz.enc p.2.1), .int .i64 p.2.2], [])) (fun p => Wi p.1 p.2.1 p.2.2) (fun r => .tup [.agg [.int .i64 r.1.Road.From, .int .i64 r.1.Road.To, .int .i64 r.1.Road.Length, .int .i64 r.1.Road.Area, .bool r.1.Road.Walk, .bool r.1.Road.Closed, .int .i64 r.1.Road.Rest.Low, .int .i64 r.1.Road.Rest.High, .int .i64 r.1.Road.Lift.Low, .int .i64 r.1.Road.Lift.High, .own 0 0], .bool r.2]) (fun _ r => [rowA 0 5 211 qK.enc r.1.blowers_])
def aaB : Env := envM [(38, uD.c), (99, tX.c), (173, uZ.c)] [] [] [(2000000, [.asrow 1472 211 5 (fun _ => qK.enc (qK.mk (SFan.mk (0 : Int) false false (Sq.mk 0 (fun _ => (qH.mk (0 : Int) (0 : Int))))) (0 : Int)))])] [] 0
theorem X6 : aI Tryz.prog 148 Ac.c := Ac.tells Tryz.func148 (show ∀ p, arun aaB Tryz.f148 (Ac.enc p).1 (Ac.enc p).2 = _ from fun p => by kernel_rfl) p8 (.cons BN (.cons DF (.cons P6 .nil)))
def aaA (a : SAir) (s : qz) (road : Int) : Option (qN × Bool) := Ac.val (a, s, road)
theorem ahk (a : SAir) (s : qz) (road : Int) : aaA a s road = (Wi a s road).get := Ac.val_eq (fun x => (SAir.dec (aggL (gd x.1 0)), qz.dec (aggL (gd x.1 1)), intA (gd x.1 2))) (fun p => by kernel_rfl) (a, s, road)
def Tq (s : qB) (n : Int) : DT (qB) :=
 .leaf (qB.mk (if (wr (s.High * n)) < (wr (s.Low * n)) then (wr (s.High * n)) else (wr (s.Low * n))) (if (wr (s.Low * n)) < (wr (s.High * n)) then (wr (s.High * n)) else (wr (s.Low * n))))
def yO : FnM := flM (qB × Int) (qB) (fun p => ([.agg (qB.enc p.1), .int .i64 p.2], [])) (fun p => Tq p.1 p.2) (fun r => .agg (qB.enc r)) (fun _ => rfl)
def ZP : Env := envM [] [] [] [] [] 0
theorem Wl : aI Tryz.prog 177 yO.c := yO.tells Tryz.func177 (show ∀ p, arun ZP Tryz.f177 (yO.enc p).1 (yO.enc p).2 = _ from fun p => by kernel_rfl) p8 .nil
def YV (s : qB) (n : Int) : Option (qB) := yO.val (s, n)
theorem agS (s : qB) (n : Int) : YV s n = (Tq s n).get := yO.val_eq (fun x => (qB.dec (aggL (gd x.1 0)), intA (gd x.1 1))) (fun p => by kernel_rfl) (s, n)
def Wh (s t : qB) : DT (qB) :=
 .leaf (qB.mk (wr (s.Low - t.High)) (wr (s.High - t.Low)))
def Aa : FnM := flM (qB × qB) (qB) (fun p => ([.agg (qB.enc p.1), .agg (qB.enc p.2)], [])) (fun p => Wh p.1 p.2) (fun r => .agg (qB.enc r)) (fun _ => rfl)
def aaz : Env := envM [] [] [] [] [] 0
theorem X5 : aI Tryz.prog 176 Aa.c := Aa.tells Tryz.func176 (show ∀ p, arun aaz Tryz.f176 (Aa.enc p).1 (Aa.enc p).2 = _ from fun p => by kernel_rfl) p8 .nil
def U7 (s t : qB) : Option (qB) := Aa.val (s, t)
theorem ahj (s t : qB) : U7 s t = (Wh s t).get := Aa.val_eq (fun x => (qB.dec (aggL (gd x.1 0)), qB.dec (aggL (gd x.1 1)))) (fun p => by kernel_rfl) (s, t)
def Oo (p : qH) (x : Int) : DT (Bool) :=
 .leaf (decide (p.Flow ≥ x))
def vU : FnM := nfM (qH × Int) (Bool) (fun p => ([.agg (qH.enc p.1), .ptr 0 0], [.var [.int .i64 p.2]])) (fun p => Oo p.1 p.2) (fun r => .bool r) (fun ins _ => [dB ins 0])
def Wy : Env := envM [] [] [] [] [] 1
theorem R4 : aI Tryz.prog 192 vU.c := vU.tells Tryz.func192 (show ∀ p, arun Wy Tryz.f192 (vU.enc p).1 (vU.enc p).2 = _ from fun p => by kernel_rfl) p8 .nil
def TB (p : qH) (x : Int) : Option (Bool) := vU.val (p, x)
theorem afC (p : qH) (x : Int) : TB p x = (Oo p x).get := vU.val_eq (fun x => (qH.dec (aggL (gd x.1 0)), intA (gd (varL (dB x.2 0)) 0))) (fun p => by kernel_rfl) (p, x)
def zU (u2_0 : Sq qH) (u2_2 u2_3 : Int) : DT (LR (Int) (Unit) (Int)) :=
 .ite (decide (u2_3 < ((u2_0.n : Nat) : Int))) (
 .ite (decide ((0 : Int) ≤ u2_3 ∧ u2_3 < ((u2_0.n : Nat) : Int))) (
 .bind (TB (u2_0.f (Int.toNat u2_3)) u2_2) fun z0 =>
 .ite z0 (
 .leaf (.r u2_3)) (
 .leaf (.next (wr (u2_3 + (1 : Int)))))) (
 .fail)) (
 .leaf (.l ()))
def sZ : LpM := ⟨(Sq qH) × Int, Int, Unit, Int, fun p => ⟨[(0, sqA 2 qH.enc p.1.1), (1, .fn 192 [.ptr 0 0]), (7, .int .i64 ((p.1.1.n : Nat) : Int)), (8, .int .i64 p.2)], [(0, .var [.int .i64 p.1.2])], 257⟩, fun f v => zU f.1 f.2 v, false, (.exit 0), (fun x _ => ⟨[(4, .undef)], [(0, blkS x 0)], 257⟩), .ret, (fun x a => ⟨[(4, .int .i64 a)], [(0, blkS x 0)], 257⟩), c1, c1k⟩
def Ee (u2_0 : Sq qH) (u2_2 u2_3 : Int) : Option ((Unit) ⊕ (Int)) := sZ.val ((u2_0, u2_2), u2_3)
theorem aaq (u2_0 : Sq qH) (u2_2 u2_3 : Int) : Ee u2_0 u2_2 u2_3 = fixO (fun v : Int => zU u2_0 u2_2 v) u2_3 := sZ.val_eq (fun x => ((sqD qH.dec (aget x.tm 0), intA (cellS x 0 0)), intA (aget x.tm 8))) (fun p => by kernel_rfl) ((u2_0, u2_2), u2_3)
def EJ (s : Sq qH) (y0 : Int) : DT (Int) :=
 .sum (Ee s y0 (0 : Int)) (fun _ =>
 .leaf (-1 : Int)) (fun y1 => .leaf y1)
def rG : FnM := nfM ((Sq qH) × Int) (Int) (fun p => ([sqA 2 qH.enc p.1, .fn 192 [.ptr 0 0]], [.var [.int .i64 p.2]])) (fun p => EJ p.1 p.2) (fun r => .int .i64 r) (fun ins _ => [dB ins 0])
def Dy : Env := envM [(192, vU.c)] [(2, [0, 1, 7, 8], [4])] [(2, sZ.c)] [] [(2, [0])] 1
def MZ : Env := { Dy with nt := 19 }
theorem Gn : aQ MZ (qd 2 Tryz.f191) sZ.c := sZ.tells 257 (fun _ => by kernel_rfl) (fun _ _ _ _ => by kernel_rfl) (fun _ _ _ _ => by kernel_rfl) fun R f v N K => by kernel_rfl
theorem IZ : aI Tryz.prog 191 rG.c := rG.tells Tryz.func191 (show ∀ p, arun Dy Tryz.f191 (rG.enc p).1 (rG.enc p).2 = _ from fun p => by kernel_rfl) (qg [qd 2 Tryz.f191] (by kernel_rfl) ⟨lpT (by kernel_rfl) Gn, trivial⟩) (.cons R4 .nil)
def FY (s : Sq qH) (y0 : Int) : Option (Int) := rG.val (s, y0)
theorem acr (s : Sq qH) (y0 : Int) : FY s y0 = (EJ s y0).get := rG.val_eq (fun x => (sqD qH.dec (gd x.1 0), intA (gd (varL (dB x.2 0)) 0))) (fun p => by kernel_rfl) (s, y0)
def Wx (n : Int) : DT (qB) :=
 .leaf (qB.mk n n)
def yx : FnM := flM (Int) (qB) (fun p => ([.int .i64 p], [])) (fun p => Wx p) (fun r => .agg (qB.enc r)) (fun _ => rfl)
def aaR : Env := envM [] [] [] [] [] 0
theorem Mq : aI Tryz.prog 193 yx.c := yx.tells Tryz.func193 (show ∀ p, arun aaR Tryz.f193 (yx.enc p).1 (yx.enc p).2 = _ from fun p => by kernel_rfl) p8 .nil
def Np (n : Int) : Option (qB) := yx.val n
theorem ahp (n : Int) : Np n = (Wx n).get := yx.val_eq (fun x => intA (gd x.1 0)) (fun p => by kernel_rfl) n
def Wv (from_ to_ : qH) (flow : Int) : DT (qB) :=
 .ite ((wr (to_.Flow - from_.Flow)) != 0) (
 .bind (Np (wr (from_.Pressure - (wr (Int.tdiv (wr ((wr (from_.Pressure - to_.Pressure)) * (wr (flow - from_.Flow)))) (wr (to_.Flow - from_.Flow))))))) fun z0 =>
 .ite ((wr (to_.Flow - from_.Flow)) != 0) (
 .ite (decide ((Int.tmod (wr ((wr (from_.Pressure - to_.Pressure)) * (wr (flow - from_.Flow)))) (wr (to_.Flow - from_.Flow))) > (0 : Int))) (.leaf (qB.mk (wr (z0.Low - (1 : Int))) z0.High)) (.leaf z0)) (
 .fail)) (
 .fail)
def Af : FnM := flM (qH × qH × Int) (qB) (fun p => ([.agg (qH.enc p.1), .agg (qH.enc p.2.1), .int .i64 p.2.2], [])) (fun p => Wv p.1 p.2.1 p.2.2) (fun r => .agg (qB.enc r)) (fun _ => rfl)
def aaP : Env := envM [(193, yx.c)] [] [] [] [] 0
theorem Yb : aI Tryz.prog 194 Af.c := Af.tells Tryz.func194 (show ∀ p, arun aaP Tryz.f194 (Af.enc p).1 (Af.enc p).2 = _ from fun p => by kernel_rfl) p8 (.cons Mq .nil)
def aaO (from_ to_ : qH) (flow : Int) : Option (qB) := Af.val (from_, to_, flow)
theorem ahn (from_ to_ : qH) (flow : Int) : aaO from_ to_ flow = (Wv from_ to_ flow).get := Af.val_eq (fun x => (qH.dec (aggL (gd x.1 0)), qH.dec (aggL (gd x.1 1)), intA (gd x.1 2))) (fun p => by kernel_rfl) (from_, to_, flow)
def TD (curve : Sq qH) (flow : Int) : DT (qB) :=
 .bind (FY curve flow) fun z0 =>
 .ite (z0 == (0 : Int)) (
 .ite (decide ((0 : Int) ≤ (0 : Int) ∧ (0 : Int) < ((curve.n : Nat) : Int))) (
 .bind (Np (curve.f 0).Pressure) fun z1 =>
 .leaf z1) (
 .fail)) (
 .ite (z0 == (-1 : Int)) (
 .ite (decide ((0 : Int) ≤ (wr (((curve.n : Nat) : Int) - (1 : Int))) ∧ (wr (((curve.n : Nat) : Int) - (1 : Int))) < ((curve.n : Nat) : Int))) (
 .bind (Np (curve.f (Int.toNat (wr (((curve.n : Nat) : Int) - (1 : Int))))).Pressure) fun z2 =>
 .leaf z2) (
 .fail)) (
 .ite (decide ((0 : Int) ≤ (wr (z0 - (1 : Int))) ∧ (wr (z0 - (1 : Int))) < ((curve.n : Nat) : Int))) (
 .ite (decide ((0 : Int) ≤ z0 ∧ z0 < ((curve.n : Nat) : Int))) (
 .bind (aaO (curve.f (Int.toNat (wr (z0 - (1 : Int))))) (curve.f (Int.toNat z0)) flow) fun z3 =>
 .leaf z3) (
 .fail)) (
 .fail)))
def yR : FnM := flM ((Sq qH) × Int) (qB) (fun p => ([sqA 2 qH.enc p.1, .int .i64 p.2], [])) (fun p => TD p.1 p.2) (fun r => .agg (qB.enc r)) (fun _ => rfl)
def ZU : Env := envM [(191, rG.c), (193, yx.c), (194, Af.c)] [] [] [] [] 0
theorem Wz : aI Tryz.prog 190 yR.c := yR.tells Tryz.func190 (show ∀ p, arun ZU Tryz.f190 (yR.enc p).1 (yR.enc p).2 = _ from fun p => by kernel_rfl) p8 (.cons IZ (.cons Mq (.cons Yb .nil)))
def Qi (curve : Sq qH) (flow : Int) : Option (qB) := yR.val (curve, flow)
theorem agW (curve : Sq qH) (flow : Int) : Qi curve flow = (TD curve flow).get := yR.val_eq (fun x => (sqD qH.dec (gd x.1 0), intA (gd x.1 1))) (fun p => by kernel_rfl) (curve, flow)
def Ww (curve : Sq qH) (back : Bool) (flow : Int) : DT (qB) :=
 .ite (!back) (
 .bind (Qi curve flow) fun z0 =>
 .leaf z0) (
 .bind (Qi curve (wr (0 - flow))) fun z1 =>
 .leaf (qB.mk (wr (0 - z1.High)) (wr (0 - z1.Low))))
def Ag : FnM := flM ((Sq qH) × Bool × Int) (qB) (fun p => ([sqA 2 qH.enc p.1, .bool p.2.1, .int .i64 p.2.2], [])) (fun p => Ww p.1 p.2.1 p.2.2) (fun r => .agg (qB.enc r)) (fun _ => rfl)
def aaQ : Env := envM [(190, yR.c)] [] [] [] [] 0
theorem Yc : aI Tryz.prog 187 Ag.c := Ag.tells Tryz.func187 (show ∀ p, arun aaQ Tryz.f187 (Ag.enc p).1 (Ag.enc p).2 = _ from fun p => by kernel_rfl) p8 (.cons Wz .nil)
def Js (curve : Sq qH) (back : Bool) (flow : Int) : Option (qB) := Ag.val (curve, back, flow)
theorem aho (curve : Sq qH) (back : Bool) (flow : Int) : Js curve back flow = (Ww curve back flow).get := Ag.val_eq (fun x => (sqD qH.dec (gd x.1 0), pU (gd x.1 1), intA (gd x.1 2))) (fun p => by kernel_rfl) (curve, back, flow)
def ae1 (f : SFan) (state flow : Int) : DT (qB) :=
 .bind (aaM f) fun z0 =>
 .ite (z0 != (0 : Int)) (
 .leaf (qB.mk (0 : Int) (0 : Int))) (
 .bind (RA flow (-1048577 : Int) (1048577 : Int)) fun z1 =>
 .ite (!z1) (
 .leaf (qB.mk (0 : Int) (0 : Int))) (
 .ite (state == (1 : Int)) (
 .bind (Js f.Curve f.Back flow) fun z2 =>
 .leaf z2) (
 .ite (state == (2 : Int)) (
 .bind (Js f.Curve (!f.Back) flow) fun z3 =>
 .leaf z3) (
 .ite (state == (-1 : Int)) (
 .bind (Js f.Curve f.Back flow) fun z4 =>
 .bind (Js f.Curve (!f.Back) flow) fun z5 =>
 .leaf (qB.mk (if z5.Low < (if z4.Low < (0 : Int) then z4.Low else (0 : Int)) then z5.Low else (if z4.Low < (0 : Int) then z4.Low else (0 : Int))) (if (if (0 : Int) < z4.High then z4.High else (0 : Int)) < z5.High then z5.High else (if (0 : Int) < z4.High then z4.High else (0 : Int))))) (
 .leaf (qB.mk (0 : Int) (0 : Int)))))))
def Nn : FnM := flM (SFan × Int × Int) (qB) (fun p => ([.agg (SFan.enc p.1), .int .i64 p.2.1, .int .i64 p.2.2], [])) (fun p => ae1 p.1 p.2.1 p.2.2) (fun r => .agg (qB.enc r)) (fun _ => rfl)
def afB : Env := envM [(98, Ck.c), (135, zL.c), (187, Ag.c)] [] [] [] [] 0
theorem adT : aI Tryz.prog 178 Nn.c := Nn.tells Tryz.func178 (show ∀ p, arun afB Tryz.f178 (Nn.enc p).1 (Nn.enc p).2 = _ from fun p => by kernel_rfl) p8 (.cons Qh (.cons Oq (.cons Yc .nil)))
def aiv (f : SFan) (state flow : Int) : Option (qB) := Nn.val (f, state, flow)
theorem aiL (f : SFan) (state flow : Int) : aiv f state flow = (ae1 f state flow).get := Nn.val_eq (fun x => (SFan.dec (aggL (gd x.1 0)), intA (gd x.1 1), intA (gd x.1 2))) (fun p => by kernel_rfl) (f, state, flow)
def Dp (u4_0 _u4_2 _u4_3 _u4_4 _u4_5 : Int) (_u4_6 _u4_7 : Bool) (_u4_8 _u4_9 _u4_10 _u4_11 : Int) (u4_12 : Sq qK) (u4_13 u4_14 u4_15 : Int) : DT (LR (Int × Int × Int) (Int × Int) (Unit)) :=
 .ite (decide (u4_15 < ((u4_12.n : Nat) : Int))) (
 .ite (decide ((0 : Int) ≤ u4_15 ∧ u4_15 < ((u4_12.n : Nat) : Int))) (
 .bind (aiv (u4_12.f (Int.toNat u4_15)).Fan (u4_12.f (Int.toNat u4_15)).state_ u4_0) fun z0 =>
 .bind (U7 (qB.mk u4_13 u4_14) z0) fun z1 =>
 .leaf (.next (z1.Low, z1.High, (wr (u4_15 + (1 : Int)))))) (
 .fail)) (
 .leaf (.l (u4_13, u4_14)))
def uI : LpM := ⟨Int × Int × Int × Int × Int × Bool × Bool × Int × Int × Int × Int × (Sq qK), Int × Int × Int, Int × Int, Unit, fun p => ⟨[(1, .int .i64 p.1.1), (4, .ptr 2 0), (6, .ptr 1346 0), (31, .own 1 0), (32, .int .i64 ((p.1.2.2.2.2.2.2.2.2.2.2.2.n : Nat) : Int)), (33, .int .i64 p.2.2.2)], [(0, .var [.int .i64 p.1.2.1, .int .i64 p.1.2.2.1, .int .i64 p.1.2.2.2.1, .int .i64 p.1.2.2.2.2.1, .bool p.1.2.2.2.2.2.1, .bool p.1.2.2.2.2.2.2.1, .int .i64 p.1.2.2.2.2.2.2.2.1, .int .i64 p.1.2.2.2.2.2.2.2.2.1, .int .i64 p.1.2.2.2.2.2.2.2.2.2.1, .int .i64 p.1.2.2.2.2.2.2.2.2.2.2.1, .own 1 0]), (1, rowA 0 5 211 qK.enc p.1.2.2.2.2.2.2.2.2.2.2.2), (2, .var [.int .i64 (0 : Int), .int .i64 (0 : Int)]), (1346, .var [.int .i64 p.2.1, .int .i64 p.2.2.1])], 1858⟩, fun f v => Dp f.1 f.2.1 f.2.2.1 f.2.2.2.1 f.2.2.2.2.1 f.2.2.2.2.2.1 f.2.2.2.2.2.2.1 f.2.2.2.2.2.2.2.1 f.2.2.2.2.2.2.2.2.1 f.2.2.2.2.2.2.2.2.2.1 f.2.2.2.2.2.2.2.2.2.2.1 f.2.2.2.2.2.2.2.2.2.2.2 v.1 v.2.1 v.2.2, true, (.exit 0), (fun x a => ⟨[(4, .ptr 2 0), (6, .ptr 1346 0)], [(0, blkS x 0), (1, blkS x 1), (2, .var [.int .i64 (0 : Int), .int .i64 (0 : Int)]), (1346, .var [.int .i64 a.1, .int .i64 a.2])], 1858⟩), .ret, (fun _ _ => ⟨[], [], 0⟩), c1, c1k⟩
def GD (u4_0 u4_2 u4_3 u4_4 u4_5 : Int) (u4_6 u4_7 : Bool) (u4_8 u4_9 u4_10 u4_11 : Int) (u4_12 : Sq qK) (u4_13 u4_14 u4_15 : Int) : Option ((Int × Int) ⊕ (Unit)) := uI.val ((u4_0, u4_2, u4_3, u4_4, u4_5, u4_6, u4_7, u4_8, u4_9, u4_10, u4_11, u4_12), (u4_13, u4_14, u4_15))
theorem acw (u4_0 u4_2 u4_3 u4_4 u4_5 : Int) (u4_6 u4_7 : Bool) (u4_8 u4_9 u4_10 u4_11 : Int) (u4_12 : Sq qK) (u4_13 u4_14 u4_15 : Int) : GD u4_0 u4_2 u4_3 u4_4 u4_5 u4_6 u4_7 u4_8 u4_9 u4_10 u4_11 u4_12 u4_13 u4_14 u4_15 = fixO (fun v : Int × Int × Int => Dp u4_0 u4_2 u4_3 u4_4 u4_5 u4_6 u4_7 u4_8 u4_9 u4_10 u4_11 u4_12 v.1 v.2.1 v.2.2) (u4_13, u4_14, u4_15) := uI.val_eq (fun x => ((intA (aget x.tm 1), intA (cellS x 0 0), intA (cellS x 0 1), intA (cellS x 0 2), intA (cellS x 0 3), pU (cellS x 0 4), pU (cellS x 0 5), intA (cellS x 0 6), intA (cellS x 0 7), intA (cellS x 0 8), intA (cellS x 0 9), sqB qK.dec (blkS x 1)), (intA (cellS x 1346 0), intA (cellS x 1346 1), intA (aget x.tm 33)))) (fun p => by kernel_rfl) ((u4_0, u4_2, u4_3, u4_4, u4_5, u4_6, u4_7, u4_8, u4_9, u4_10, u4_11, u4_12), (u4_13, u4_14, u4_15))
def H9 (w : qN) (flow : Int) : DT (qB) :=
 .bind (YV w.Road.Rest (wr (flow * (if flow < (wr (0 - flow)) then (wr (0 - flow)) else flow)))) fun z2 =>
 .bind (U7 z2 w.Road.Lift) fun z3 =>
 .sum (GD flow w.Road.From w.Road.To w.Road.Length w.Road.Area w.Road.Walk w.Road.Closed w.Road.Rest.Low w.Road.Rest.High w.Road.Lift.Low w.Road.Lift.High w.blowers_ z3.Low z3.High (0 : Int)) (fun y0 =>
 .leaf (qB.mk y0.1 y0.2)) (fun _ => .fail)
def rU : FnM := nfM (qN × Int) (qB) (fun p => ([.ptr 0 0, .int .i64 p.2], [.var [.int .i64 p.1.Road.From, .int .i64 p.1.Road.To, .int .i64 p.1.Road.Length, .int .i64 p.1.Road.Area, .bool p.1.Road.Walk, .bool p.1.Road.Closed, .int .i64 p.1.Road.Rest.Low, .int .i64 p.1.Road.Rest.High, .int .i64 p.1.Road.Lift.Low, .int .i64 p.1.Road.Lift.High, .own 1 0], rowA 0 5 211 qK.enc p.1.blowers_])) (fun p => H9 p.1 p.2) (fun r => .agg (qB.enc r)) (fun ins _ => [dB ins 0, dB ins 1])
def FM : Env := envM [(177, yO.c), (176, Aa.c), (178, Nn.c)] [(4, [1, 4, 6, 31, 32, 33], [4, 6])] [(4, uI.c)] [] [(4, [0, 1, 2, 1346])] 2
def RU : Env := { FM with nt := 47 }
theorem Jl : aQ RU (qd 4 Tryz.f151) uI.c := uI.tells 1858 (fun _ => by kernel_rfl) (fun _ _ _ _ => by kernel_rfl) (fun _ _ _ _ => by kernel_rfl) fun R f v N K => by kernel_rfl
theorem Ez : aI Tryz.prog 151 rU.c := rU.tells Tryz.func151 (show ∀ p, arun FM Tryz.f151 (rU.enc p).1 (rU.enc p).2 = _ from fun p => by kernel_rfl) (qg [qd 4 Tryz.f151] (by kernel_rfl) ⟨lpT (by kernel_rfl) Jl, trivial⟩) (.cons Wl (.cons X5 (.cons adT .nil)))
def EX (w : qN) (flow : Int) : Option (qB) := rU.val (w, flow)
theorem adL (w : qN) (flow : Int) : EX w flow = (H9 w flow).get := rU.val_eq (fun x => (⟨⟨intA (gd (varL (dB x.2 0)) 0), intA (gd (varL (dB x.2 0)) 1), intA (gd (varL (dB x.2 0)) 2), intA (gd (varL (dB x.2 0)) 3), pU (gd (varL (dB x.2 0)) 4), pU (gd (varL (dB x.2 0)) 5), ⟨intA (gd (varL (dB x.2 0)) 6), intA (gd (varL (dB x.2 0)) 7)⟩, ⟨intA (gd (varL (dB x.2 0)) 8), intA (gd (varL (dB x.2 0)) 9)⟩⟩, sqB qK.dec (dB x.2 1)⟩, intA (gd x.1 1))) (fun p => by kernel_rfl) (w, flow)
def PY (flow : Int) (x : qN) (x2 : Int) : DT (Bool) :=
 .bind (EX x flow) fun z0 =>
 .leaf (decide (z0.High > x2))
def wU : FnM := nfM (Int × qN × Int) (Bool) (fun p => ([.int .i64 p.1, .ptr 0 0, .ptr 1 0], [.var [.int .i64 p.2.1.Road.From, .int .i64 p.2.1.Road.To, .int .i64 p.2.1.Road.Length, .int .i64 p.2.1.Road.Area, .bool p.2.1.Road.Walk, .bool p.2.1.Road.Closed, .int .i64 p.2.1.Road.Rest.Low, .int .i64 p.2.1.Road.Rest.High, .int .i64 p.2.1.Road.Lift.Low, .int .i64 p.2.1.Road.Lift.High, .own 2 0], .var [.int .i64 p.2.2], rowA 0 5 211 qK.enc p.2.1.blowers_])) (fun p => PY p.1 p.2.1 p.2.2) (fun r => .bool r) (fun ins _ => [dB ins 0, dB ins 1, dB ins 2])
def X3 : Env := envM [(151, rU.c)] [] [] [] [] 3
theorem U3 : aI Tryz.prog 150 wU.c := wU.tells Tryz.func150 (show ∀ p, arun X3 Tryz.f150 (wU.enc p).1 (wU.enc p).2 = _ from fun p => by kernel_rfl) p8 (.cons Ez .nil)
def V4 (flow : Int) (x : qN) (x2 : Int) : Option (Bool) := wU.val (flow, x, x2)
theorem agd (flow : Int) (x : qN) (x2 : Int) : V4 flow x x2 = (PY flow x x2).get := wU.val_eq (fun x => (intA (gd x.1 0), ⟨⟨intA (gd (varL (dB x.2 0)) 0), intA (gd (varL (dB x.2 0)) 1), intA (gd (varL (dB x.2 0)) 2), intA (gd (varL (dB x.2 0)) 3), pU (gd (varL (dB x.2 0)) 4), pU (gd (varL (dB x.2 0)) 5), ⟨intA (gd (varL (dB x.2 0)) 6), intA (gd (varL (dB x.2 0)) 7)⟩, ⟨intA (gd (varL (dB x.2 0)) 8), intA (gd (varL (dB x.2 0)) 9)⟩⟩, sqB qK.dec (dB x.2 2)⟩, intA (gd (varL (dB x.2 1)) 0))) (fun p => by kernel_rfl) (flow, x, x2)
def Oe (i : Int) (y0 : qN) (y1 : Int) : DT (Bool) :=
 .bind (V4 (wr (i - (1048576 : Int))) y0 y1) fun z0 =>
 .leaf z0
def vR : FnM := nfM (Int × qN × Int) (Bool) (fun p => ([.int .i64 p.1, .ptr 0 0], [.var [.fn 150 [.ptr 1 0, .ptr 2 0]], .var [.int .i64 p.2.1.Road.From, .int .i64 p.2.1.Road.To, .int .i64 p.2.1.Road.Length, .int .i64 p.2.1.Road.Area, .bool p.2.1.Road.Walk, .bool p.2.1.Road.Closed, .int .i64 p.2.1.Road.Rest.Low, .int .i64 p.2.1.Road.Rest.High, .int .i64 p.2.1.Road.Lift.Low, .int .i64 p.2.1.Road.Lift.High, .own 3 0], .var [.int .i64 p.2.2], rowA 0 5 211 qK.enc p.2.1.blowers_])) (fun p => Oe p.1 p.2.1 p.2.2) (fun r => .bool r) (fun ins _ => [dB ins 0, dB ins 1, dB ins 2, dB ins 3])
def V8 : Env := envM [(150, wU.c)] [] [] [] [] 4
theorem RX : aI Tryz.prog 175 vR.c := vR.tells Tryz.func175 (show ∀ p, arun V8 Tryz.f175 (vR.enc p).1 (vR.enc p).2 = _ from fun p => by kernel_rfl) p8 (.cons U3 .nil)
def Tn (i : Int) (y0 : qN) (y1 : Int) : Option (Bool) := vR.val (i, y0, y1)
theorem afx (i : Int) (y0 : qN) (y1 : Int) : Tn i y0 y1 = (Oe i y0 y1).get := vR.val_eq (fun x => (intA (gd x.1 0), ⟨⟨intA (gd (varL (dB x.2 1)) 0), intA (gd (varL (dB x.2 1)) 1), intA (gd (varL (dB x.2 1)) 2), intA (gd (varL (dB x.2 1)) 3), pU (gd (varL (dB x.2 1)) 4), pU (gd (varL (dB x.2 1)) 5), ⟨intA (gd (varL (dB x.2 1)) 6), intA (gd (varL (dB x.2 1)) 7)⟩, ⟨intA (gd (varL (dB x.2 1)) 8), intA (gd (varL (dB x.2 1)) 9)⟩⟩, sqB qK.dec (dB x.2 3)⟩, intA (gd (varL (dB x.2 2)) 0))) (fun p => by kernel_rfl) (i, y0, y1)
def Kc (u2_1 u2_2 u2_3 u2_4 : Int) (u2_5 u2_6 : Bool) (u2_7 u2_8 u2_9 u2_10 u2_11 : Int) (u2_12 : Sq qK) (u2_0 u2_13 : Int) : DT (LR (Int × Int) (Int) (Unit)) :=
 .ite (decide (u2_13 < u2_0)) (
 .bind (Tn (wr ((IntKind.u64.wrap (wr (u2_13 + u2_0))) / 2 ^ (Int.toNat (1 : Int)))) (qN.mk (qC.mk u2_1 u2_2 u2_3 u2_4 u2_5 u2_6 (qB.mk u2_7 u2_8) (qB.mk u2_9 u2_10)) u2_12) u2_11) fun z0 =>
 .ite (!z0) (
 .leaf (.next (u2_0, (wr ((wr ((IntKind.u64.wrap (wr (u2_13 + u2_0))) / 2 ^ (Int.toNat (1 : Int)))) + (1 : Int)))))) (
 .leaf (.next ((wr ((IntKind.u64.wrap (wr (u2_13 + u2_0))) / 2 ^ (Int.toNat (1 : Int)))), u2_13)))) (
 .leaf (.l u2_13))
def BJ : LpM := ⟨Int × Int × Int × Int × Bool × Bool × Int × Int × Int × Int × Int × (Sq qK), Int × Int, Int, Unit, fun p => ⟨[(1, .fn 175 [.ptr 0 0]), (5, .int .i64 p.2.2), (6, .int .i64 p.2.1)], [(0, .var [.fn 150 [.ptr 1 0, .ptr 2 0]]), (1, .var [.int .i64 p.1.1, .int .i64 p.1.2.1, .int .i64 p.1.2.2.1, .int .i64 p.1.2.2.2.1, .bool p.1.2.2.2.2.1, .bool p.1.2.2.2.2.2.1, .int .i64 p.1.2.2.2.2.2.2.1, .int .i64 p.1.2.2.2.2.2.2.2.1, .int .i64 p.1.2.2.2.2.2.2.2.2.1, .int .i64 p.1.2.2.2.2.2.2.2.2.2.1, .own 3 0]), (2, .var [.int .i64 p.1.2.2.2.2.2.2.2.2.2.2.1]), (3, rowA 0 5 211 qK.enc p.1.2.2.2.2.2.2.2.2.2.2.2)], 260⟩, fun f v => Kc f.1 f.2.1 f.2.2.1 f.2.2.2.1 f.2.2.2.2.1 f.2.2.2.2.2.1 f.2.2.2.2.2.2.1 f.2.2.2.2.2.2.2.1 f.2.2.2.2.2.2.2.2.1 f.2.2.2.2.2.2.2.2.2.1 f.2.2.2.2.2.2.2.2.2.2.1 f.2.2.2.2.2.2.2.2.2.2.2 v.1 v.2, true, (.exit 0), (fun x a => ⟨[(5, .int .i64 a)], [(0, .var [.fn 150 [.ptr 1 0, .ptr 2 0]]), (1, blkS x 1), (2, blkS x 2), (3, blkS x 3)], 260⟩), .ret, (fun _ _ => ⟨[], [], 0⟩), c1, c1k⟩
def UD (u2_1 u2_2 u2_3 u2_4 : Int) (u2_5 u2_6 : Bool) (u2_7 u2_8 u2_9 u2_10 u2_11 : Int) (u2_12 : Sq qK) (u2_0 u2_13 : Int) : Option ((Int) ⊕ (Unit)) := BJ.val ((u2_1, u2_2, u2_3, u2_4, u2_5, u2_6, u2_7, u2_8, u2_9, u2_10, u2_11, u2_12), (u2_0, u2_13))
theorem af0 (u2_1 u2_2 u2_3 u2_4 : Int) (u2_5 u2_6 : Bool) (u2_7 u2_8 u2_9 u2_10 u2_11 : Int) (u2_12 : Sq qK) (u2_0 u2_13 : Int) : UD u2_1 u2_2 u2_3 u2_4 u2_5 u2_6 u2_7 u2_8 u2_9 u2_10 u2_11 u2_12 u2_0 u2_13 = fixO (fun v : Int × Int => Kc u2_1 u2_2 u2_3 u2_4 u2_5 u2_6 u2_7 u2_8 u2_9 u2_10 u2_11 u2_12 v.1 v.2) (u2_0, u2_13) := BJ.val_eq (fun x => ((intA (cellS x 1 0), intA (cellS x 1 1), intA (cellS x 1 2), intA (cellS x 1 3), pU (cellS x 1 4), pU (cellS x 1 5), intA (cellS x 1 6), intA (cellS x 1 7), intA (cellS x 1 8), intA (cellS x 1 9), intA (cellS x 2 0), sqB qK.dec (blkS x 3)), (intA (aget x.tm 6), intA (aget x.tm 5)))) (fun p => by kernel_rfl) ((u2_1, u2_2, u2_3, u2_4, u2_5, u2_6, u2_7, u2_8, u2_9, u2_10, u2_11, u2_12), (u2_0, u2_13))
def XP (n : Int) (y0 : qN) (y1 : Int) : DT (Int) :=
 .sum (UD y0.Road.From y0.Road.To y0.Road.Length y0.Road.Area y0.Road.Walk y0.Road.Closed y0.Road.Rest.Low y0.Road.Rest.High y0.Road.Lift.Low y0.Road.Lift.High y1 y0.blowers_ n (0 : Int)) (fun y2 =>
 .leaf y2) (fun _ => .fail)
def AJ : FnM := nfM (Int × qN × Int) (Int) (fun p => ([.int .i64 p.1, .fn 175 [.ptr 0 0]], [.var [.fn 150 [.ptr 1 0, .ptr 2 0]], .var [.int .i64 p.2.1.Road.From, .int .i64 p.2.1.Road.To, .int .i64 p.2.1.Road.Length, .int .i64 p.2.1.Road.Area, .bool p.2.1.Road.Walk, .bool p.2.1.Road.Closed, .int .i64 p.2.1.Road.Rest.Low, .int .i64 p.2.1.Road.Rest.High, .int .i64 p.2.1.Road.Lift.Low, .int .i64 p.2.1.Road.Lift.High, .own 3 0], .var [.int .i64 p.2.2], rowA 0 5 211 qK.enc p.2.1.blowers_])) (fun p => XP p.1 p.2.1 p.2.2) (fun r => .int .i64 r) (fun ins _ => [dB ins 0, dB ins 1, dB ins 2, dB ins 3])
def Ry : Env := envM [(175, vR.c)] [(2, [1, 5, 6], [5])] [(2, BJ.c)] [] [(2, [0, 1, 2, 3])] 4
def adu : Env := { Ry with nt := 26 }
theorem SG : aQ adu (qd 2 Tryz.f174) BJ.c := BJ.tells 260 (fun _ => by kernel_rfl) (fun _ _ _ _ => by kernel_rfl) (fun _ _ _ _ => by kernel_rfl) fun R f v N K => by kernel_rfl
theorem YL : aI Tryz.prog 174 AJ.c := AJ.tells Tryz.func174 (show ∀ p, arun Ry Tryz.f174 (AJ.enc p).1 (AJ.enc p).2 = _ from fun p => by kernel_rfl) (qg [qd 2 Tryz.f174] (by kernel_rfl) ⟨lpT (by kernel_rfl) SG, trivial⟩) (.cons RX .nil)
def sort_Search (n : Int) (y0 : qN) (y1 : Int) : Option (Int) := AJ.val (n, y0, y1)
theorem ahR (n : Int) (y0 : qN) (y1 : Int) : sort_Search n y0 y1 = (XP n y0 y1).get := AJ.val_eq (fun x => (intA (gd x.1 0), ⟨⟨intA (gd (varL (dB x.2 1)) 0), intA (gd (varL (dB x.2 1)) 1), intA (gd (varL (dB x.2 1)) 2), intA (gd (varL (dB x.2 1)) 3), pU (gd (varL (dB x.2 1)) 4), pU (gd (varL (dB x.2 1)) 5), ⟨intA (gd (varL (dB x.2 1)) 6), intA (gd (varL (dB x.2 1)) 7)⟩, ⟨intA (gd (varL (dB x.2 1)) 8), intA (gd (varL (dB x.2 1)) 9)⟩⟩, sqB qK.dec (dB x.2 3)⟩, intA (gd (varL (dB x.2 2)) 0))) (fun p => by kernel_rfl) (n, y0, y1)
def Tp (y0 : qN) (y1 : Int) : DT (Int) :=
 .bind (sort_Search (2097153 : Int) y0 y1) fun z0 =>
 .leaf (wr (z0 - (1048576 : Int)))
def yN : FnM := nfM (qN × Int) (Int) (fun p => ([.fn 150 [.ptr 0 0, .ptr 1 0]], [.var [.int .i64 p.1.Road.From, .int .i64 p.1.Road.To, .int .i64 p.1.Road.Length, .int .i64 p.1.Road.Area, .bool p.1.Road.Walk, .bool p.1.Road.Closed, .int .i64 p.1.Road.Rest.Low, .int .i64 p.1.Road.Rest.High, .int .i64 p.1.Road.Lift.Low, .int .i64 p.1.Road.Lift.High, .own 2 0], .var [.int .i64 p.2], rowA 0 5 211 qK.enc p.1.blowers_])) (fun p => Tp p.1 p.2) (fun r => .int .i64 r) (fun ins _ => [dB ins 0, dB ins 1, dB ins 2])
def ZO : Env := envM [(174, AJ.c)] [] [] [] [] 3
theorem V9 : aI Tryz.prog 149 yN.c := yN.tells Tryz.func149 (show ∀ p, arun ZO Tryz.f149 (yN.enc p).1 (yN.enc p).2 = _ from fun p => by kernel_rfl) p8 (.cons YL .nil)
def YU (y0 : qN) (y1 : Int) : Option (Int) := yN.val (y0, y1)
theorem agR (y0 : qN) (y1 : Int) : YU y0 y1 = (Tp y0 y1).get := yN.val_eq (fun x => (⟨⟨intA (gd (varL (dB x.2 0)) 0), intA (gd (varL (dB x.2 0)) 1), intA (gd (varL (dB x.2 0)) 2), intA (gd (varL (dB x.2 0)) 3), pU (gd (varL (dB x.2 0)) 4), pU (gd (varL (dB x.2 0)) 5), ⟨intA (gd (varL (dB x.2 0)) 6), intA (gd (varL (dB x.2 0)) 7)⟩, ⟨intA (gd (varL (dB x.2 0)) 8), intA (gd (varL (dB x.2 0)) 9)⟩⟩, sqB qK.dec (dB x.2 2)⟩, intA (gd (varL (dB x.2 1)) 0))) (fun p => by kernel_rfl) (y0, y1)
def PZ (flow : Int) (x : qN) (x2 : Int) : DT (Bool) :=
 .bind (EX x flow) fun z0 =>
 .leaf (decide (z0.Low ≥ x2))
def wV : FnM := nfM (Int × qN × Int) (Bool) (fun p => ([.int .i64 p.1, .ptr 0 0, .ptr 1 0], [.var [.int .i64 p.2.1.Road.From, .int .i64 p.2.1.Road.To, .int .i64 p.2.1.Road.Length, .int .i64 p.2.1.Road.Area, .bool p.2.1.Road.Walk, .bool p.2.1.Road.Closed, .int .i64 p.2.1.Road.Rest.Low, .int .i64 p.2.1.Road.Rest.High, .int .i64 p.2.1.Road.Lift.Low, .int .i64 p.2.1.Road.Lift.High, .own 2 0], .var [.int .i64 p.2.2], rowA 0 5 211 qK.enc p.2.1.blowers_])) (fun p => PZ p.1 p.2.1 p.2.2) (fun r => .bool r) (fun ins _ => [dB ins 0, dB ins 1, dB ins 2])
def X4 : Env := envM [(151, rU.c)] [] [] [] [] 3
theorem U4 : aI Tryz.prog 152 wV.c := wV.tells Tryz.func152 (show ∀ p, arun X4 Tryz.f152 (wV.enc p).1 (wV.enc p).2 = _ from fun p => by kernel_rfl) p8 (.cons Ez .nil)
def V5 (flow : Int) (x : qN) (x2 : Int) : Option (Bool) := wV.val (flow, x, x2)
theorem agf (flow : Int) (x : qN) (x2 : Int) : V5 flow x x2 = (PZ flow x x2).get := wV.val_eq (fun x => (intA (gd x.1 0), ⟨⟨intA (gd (varL (dB x.2 0)) 0), intA (gd (varL (dB x.2 0)) 1), intA (gd (varL (dB x.2 0)) 2), intA (gd (varL (dB x.2 0)) 3), pU (gd (varL (dB x.2 0)) 4), pU (gd (varL (dB x.2 0)) 5), ⟨intA (gd (varL (dB x.2 0)) 6), intA (gd (varL (dB x.2 0)) 7)⟩, ⟨intA (gd (varL (dB x.2 0)) 8), intA (gd (varL (dB x.2 0)) 9)⟩⟩, sqB qK.dec (dB x.2 2)⟩, intA (gd (varL (dB x.2 1)) 0))) (fun p => by kernel_rfl) (flow, x, x2)
def Jp (i : Int) (y0 : qN) (y1 : Int) : DT (Bool) :=
 .bind (V5 (wr (i - (1048576 : Int))) y0 y1) fun z0 =>
 .leaf z0
def uh : FnM := nfM (Int × qN × Int) (Bool) (fun p => ([.int .i64 p.1, .ptr 0 0], [.var [.fn 152 [.ptr 1 0, .ptr 2 0]], .var [.int .i64 p.2.1.Road.From, .int .i64 p.2.1.Road.To, .int .i64 p.2.1.Road.Length, .int .i64 p.2.1.Road.Area, .bool p.2.1.Road.Walk, .bool p.2.1.Road.Closed, .int .i64 p.2.1.Road.Rest.Low, .int .i64 p.2.1.Road.Rest.High, .int .i64 p.2.1.Road.Lift.Low, .int .i64 p.2.1.Road.Lift.High, .own 3 0], .var [.int .i64 p.2.2], rowA 0 5 211 qK.enc p.2.1.blowers_])) (fun p => Jp p.1 p.2.1 p.2.2) (fun r => .bool r) (fun ins _ => [dB ins 0, dB ins 1, dB ins 2, dB ins 3])
def P7 : Env := envM [(152, wV.c)] [] [] [] [] 4
theorem Nj : aI Tryz.prog 175 uh.c := uh.tells Tryz.func175 (show ∀ p, arun P7 Tryz.f175 (uh.enc p).1 (uh.enc p).2 = _ from fun p => by kernel_rfl) p8 (.cons U4 .nil)
def Mf (i : Int) (y0 : qN) (y1 : Int) : Option (Bool) := uh.val (i, y0, y1)
theorem ael (i : Int) (y0 : qN) (y1 : Int) : Mf i y0 y1 = (Jp i y0 y1).get := uh.val_eq (fun x => (intA (gd x.1 0), ⟨⟨intA (gd (varL (dB x.2 1)) 0), intA (gd (varL (dB x.2 1)) 1), intA (gd (varL (dB x.2 1)) 2), intA (gd (varL (dB x.2 1)) 3), pU (gd (varL (dB x.2 1)) 4), pU (gd (varL (dB x.2 1)) 5), ⟨intA (gd (varL (dB x.2 1)) 6), intA (gd (varL (dB x.2 1)) 7)⟩, ⟨intA (gd (varL (dB x.2 1)) 8), intA (gd (varL (dB x.2 1)) 9)⟩⟩, sqB qK.dec (dB x.2 3)⟩, intA (gd (varL (dB x.2 2)) 0))) (fun p => by kernel_rfl) (i, y0, y1)
def F4 (u2_1 u2_2 u2_3 u2_4 : Int) (u2_5 u2_6 : Bool) (u2_7 u2_8 u2_9 u2_10 u2_11 : Int) (u2_12 : Sq qK) (u2_0 u2_13 : Int) : DT (LR (Int × Int) (Int) (Unit)) :=
 .ite (decide (u2_13 < u2_0)) (
 .bind (Mf (wr ((IntKind.u64.wrap (wr (u2_13 + u2_0))) / 2 ^ (Int.toNat (1 : Int)))) (qN.mk (qC.mk u2_1 u2_2 u2_3 u2_4 u2_5 u2_6 (qB.mk u2_7 u2_8) (qB.mk u2_9 u2_10)) u2_12) u2_11) fun z0 =>
 .ite (!z0) (
 .leaf (.next (u2_0, (wr ((wr ((IntKind.u64.wrap (wr (u2_13 + u2_0))) / 2 ^ (Int.toNat (1 : Int)))) + (1 : Int)))))) (
 .leaf (.next ((wr ((IntKind.u64.wrap (wr (u2_13 + u2_0))) / 2 ^ (Int.toNat (1 : Int)))), u2_13)))) (
 .leaf (.l u2_13))
def xU : LpM := ⟨Int × Int × Int × Int × Bool × Bool × Int × Int × Int × Int × Int × (Sq qK), Int × Int, Int, Unit, fun p => ⟨[(1, .fn 175 [.ptr 0 0]), (5, .int .i64 p.2.2), (6, .int .i64 p.2.1)], [(0, .var [.fn 152 [.ptr 1 0, .ptr 2 0]]), (1, .var [.int .i64 p.1.1, .int .i64 p.1.2.1, .int .i64 p.1.2.2.1, .int .i64 p.1.2.2.2.1, .bool p.1.2.2.2.2.1, .bool p.1.2.2.2.2.2.1, .int .i64 p.1.2.2.2.2.2.2.1, .int .i64 p.1.2.2.2.2.2.2.2.1, .int .i64 p.1.2.2.2.2.2.2.2.2.1, .int .i64 p.1.2.2.2.2.2.2.2.2.2.1, .own 3 0]), (2, .var [.int .i64 p.1.2.2.2.2.2.2.2.2.2.2.1]), (3, rowA 0 5 211 qK.enc p.1.2.2.2.2.2.2.2.2.2.2.2)], 260⟩, fun f v => F4 f.1 f.2.1 f.2.2.1 f.2.2.2.1 f.2.2.2.2.1 f.2.2.2.2.2.1 f.2.2.2.2.2.2.1 f.2.2.2.2.2.2.2.1 f.2.2.2.2.2.2.2.2.1 f.2.2.2.2.2.2.2.2.2.1 f.2.2.2.2.2.2.2.2.2.2.1 f.2.2.2.2.2.2.2.2.2.2.2 v.1 v.2, true, (.exit 0), (fun x a => ⟨[(5, .int .i64 a)], [(0, .var [.fn 152 [.ptr 1 0, .ptr 2 0]]), (1, blkS x 1), (2, blkS x 2), (3, blkS x 3)], 260⟩), .ret, (fun _ _ => ⟨[], [], 0⟩), c1, c1k⟩
def M4 (u2_1 u2_2 u2_3 u2_4 : Int) (u2_5 u2_6 : Bool) (u2_7 u2_8 u2_9 u2_10 u2_11 : Int) (u2_12 : Sq qK) (u2_0 u2_13 : Int) : Option ((Int) ⊕ (Unit)) := xU.val ((u2_1, u2_2, u2_3, u2_4, u2_5, u2_6, u2_7, u2_8, u2_9, u2_10, u2_11, u2_12), (u2_0, u2_13))
theorem aeu (u2_1 u2_2 u2_3 u2_4 : Int) (u2_5 u2_6 : Bool) (u2_7 u2_8 u2_9 u2_10 u2_11 : Int) (u2_12 : Sq qK) (u2_0 u2_13 : Int) : M4 u2_1 u2_2 u2_3 u2_4 u2_5 u2_6 u2_7 u2_8 u2_9 u2_10 u2_11 u2_12 u2_0 u2_13 = fixO (fun v : Int × Int => F4 u2_1 u2_2 u2_3 u2_4 u2_5 u2_6 u2_7 u2_8 u2_9 u2_10 u2_11 u2_12 v.1 v.2) (u2_0, u2_13) := xU.val_eq (fun x => ((intA (cellS x 1 0), intA (cellS x 1 1), intA (cellS x 1 2), intA (cellS x 1 3), pU (cellS x 1 4), pU (cellS x 1 5), intA (cellS x 1 6), intA (cellS x 1 7), intA (cellS x 1 8), intA (cellS x 1 9), intA (cellS x 2 0), sqB qK.dec (blkS x 3)), (intA (aget x.tm 6), intA (aget x.tm 5)))) (fun p => by kernel_rfl) ((u2_1, u2_2, u2_3, u2_4, u2_5, u2_6, u2_7, u2_8, u2_9, u2_10, u2_11, u2_12), (u2_0, u2_13))
def OT (n : Int) (y0 : qN) (y1 : Int) : DT (Int) :=
 .sum (M4 y0.Road.From y0.Road.To y0.Road.Length y0.Road.Area y0.Road.Walk y0.Road.Closed y0.Road.Rest.Low y0.Road.Rest.High y0.Road.Lift.Low y0.Road.Lift.High y1 y0.blowers_ n (0 : Int)) (fun y2 =>
 .leaf y2) (fun _ => .fail)
def vW : FnM := nfM (Int × qN × Int) (Int) (fun p => ([.int .i64 p.1, .fn 175 [.ptr 0 0]], [.var [.fn 152 [.ptr 1 0, .ptr 2 0]], .var [.int .i64 p.2.1.Road.From, .int .i64 p.2.1.Road.To, .int .i64 p.2.1.Road.Length, .int .i64 p.2.1.Road.Area, .bool p.2.1.Road.Walk, .bool p.2.1.Road.Closed, .int .i64 p.2.1.Road.Rest.Low, .int .i64 p.2.1.Road.Rest.High, .int .i64 p.2.1.Road.Lift.Low, .int .i64 p.2.1.Road.Lift.High, .own 3 0], .var [.int .i64 p.2.2], rowA 0 5 211 qK.enc p.2.1.blowers_])) (fun p => OT p.1 p.2.1 p.2.2) (fun r => .int .i64 r) (fun ins _ => [dB ins 0, dB ins 1, dB ins 2, dB ins 3])
def Lc : Env := envM [(175, uh.c)] [(2, [1, 5, 6], [5])] [(2, xU.c)] [] [(2, [0, 1, 2, 3])] 4
def aal : Env := { Lc with nt := 26 }
theorem NN : aQ aal (qd 2 Tryz.f174) xU.c := xU.tells 260 (fun _ => by kernel_rfl) (fun _ _ _ _ => by kernel_rfl) (fun _ _ _ _ => by kernel_rfl) fun R f v N K => by kernel_rfl
theorem SH : aI Tryz.prog 174 vW.c := vW.tells Tryz.func174 (show ∀ p, arun Lc Tryz.f174 (vW.enc p).1 (vW.enc p).2 = _ from fun p => by kernel_rfl) (qg [qd 2 Tryz.f174] (by kernel_rfl) ⟨lpT (by kernel_rfl) NN, trivial⟩) (.cons Nj .nil)
def UE (n : Int) (y0 : qN) (y1 : Int) : Option (Int) := vW.val (n, y0, y1)
theorem af2 (n : Int) (y0 : qN) (y1 : Int) : UE n y0 y1 = (OT n y0 y1).get := vW.val_eq (fun x => (intA (gd x.1 0), ⟨⟨intA (gd (varL (dB x.2 1)) 0), intA (gd (varL (dB x.2 1)) 1), intA (gd (varL (dB x.2 1)) 2), intA (gd (varL (dB x.2 1)) 3), pU (gd (varL (dB x.2 1)) 4), pU (gd (varL (dB x.2 1)) 5), ⟨intA (gd (varL (dB x.2 1)) 6), intA (gd (varL (dB x.2 1)) 7)⟩, ⟨intA (gd (varL (dB x.2 1)) 8), intA (gd (varL (dB x.2 1)) 9)⟩⟩, sqB qK.dec (dB x.2 3)⟩, intA (gd (varL (dB x.2 2)) 0))) (fun p => by kernel_rfl) (n, y0, y1)
def Mg (y0 : qN) (y1 : Int) : DT (Int) :=
 .bind (UE (2097153 : Int) y0 y1) fun z0 =>
 .leaf (wr (z0 - (1048576 : Int)))
def u6 : FnM := nfM (qN × Int) (Int) (fun p => ([.fn 152 [.ptr 0 0, .ptr 1 0]], [.var [.int .i64 p.1.Road.From, .int .i64 p.1.Road.To, .int .i64 p.1.Road.Length, .int .i64 p.1.Road.Area, .bool p.1.Road.Walk, .bool p.1.Road.Closed, .int .i64 p.1.Road.Rest.Low, .int .i64 p.1.Road.Rest.High, .int .i64 p.1.Road.Lift.Low, .int .i64 p.1.Road.Lift.High, .own 2 0], .var [.int .i64 p.2], rowA 0 5 211 qK.enc p.1.blowers_])) (fun p => Mg p.1 p.2) (fun r => .int .i64 r) (fun ins _ => [dB ins 0, dB ins 1, dB ins 2])
def U6 : Env := envM [(174, vW.c)] [] [] [] [] 3
theorem P9 : aI Tryz.prog 149 u6.c := u6.tells Tryz.func149 (show ∀ p, arun U6 Tryz.f149 (u6.enc p).1 (u6.enc p).2 = _ from fun p => by kernel_rfl) p8 (.cons SH .nil)
def P8 (y0 : qN) (y1 : Int) : Option (Int) := u6.val (y0, y1)
theorem aeX (y0 : qN) (y1 : Int) : P8 y0 y1 = (Mg y0 y1).get := u6.val_eq (fun x => (⟨⟨intA (gd (varL (dB x.2 0)) 0), intA (gd (varL (dB x.2 0)) 1), intA (gd (varL (dB x.2 0)) 2), intA (gd (varL (dB x.2 0)) 3), pU (gd (varL (dB x.2 0)) 4), pU (gd (varL (dB x.2 0)) 5), ⟨intA (gd (varL (dB x.2 0)) 6), intA (gd (varL (dB x.2 0)) 7)⟩, ⟨intA (gd (varL (dB x.2 0)) 8), intA (gd (varL (dB x.2 0)) 9)⟩⟩, sqB qK.dec (dB x.2 2)⟩, intA (gd (varL (dB x.2 1)) 0))) (fun p => by kernel_rfl) (y0, y1)
def V6 (a : SAir) (s : qz) (road pressure : Int) : DT (qB) :=
 .bind (aaA a s road) fun z0 =>
 .ite (!z0.2) (
 .leaf (qB.mk (0 : Int) (0 : Int))) (
 .bind (YU z0.1 pressure) fun z1 =>
 .bind (P8 z0.1 pressure) fun z2 =>
 .leaf (qB.mk (wr (z1 - (1 : Int))) z2))
def yu : FnM := flM (SAir × qz × Int × Int) (qB) (fun p => ([.agg (SAir.enc p.1), .agg (qz.enc p.2.1), .int .i64 p.2.2.1, .int .i64 p.2.2.2], [])) (fun p => V6 p.1 p.2.1 p.2.2.1 p.2.2.2) (fun r => .agg (qB.enc r)) (fun _ => rfl)
def aay : Env := envM [(148, Ac.c), (149, orC [6, 150, 2, 5, 0, 0, 5, 1, 0, 10, 11, 1, 1, 1, 1, 2, 2, 1, 1, 1, 1, 4, 2, 0, 10, 1, 1, 11, 5] yN.c (u6.c))] [] [] [] [] 0
theorem LZ : aI Tryz.prog 111 yu.c := yu.tells Tryz.func111 (show ∀ p, arun aay Tryz.f111 (yu.enc p).1 (yu.enc p).2 = _ from fun p => by kernel_rfl) p8 (.cons X6 (.cons (pG V9 (P9)) .nil))
def Jj (a : SAir) (s : qz) (road pressure : Int) : Option (qB) := yu.val (a, s, road, pressure)
theorem ahi (a : SAir) (s : qz) (road pressure : Int) : Jj a s road pressure = (V6 a s road pressure).get := yu.val_eq (fun x => (SAir.dec (aggL (gd x.1 0)), qz.dec (aggL (gd x.1 1)), intA (gd x.1 2), intA (gd x.1 3))) (fun p => by kernel_rfl) (a, s, road, pressure)
def Dn (j : qM) (road pressure : Int) : DT (qB) :=
 .bind (Yh j.air_.Mine road j.place_) fun z0 =>
 .ite (decide ((0 : Int) ≤ z0 ∧ z0 < ((j.pressures_.n : Nat) : Int))) (
 .ite (decide ((0 : Int) ≤ road ∧ road < ((j.air_.Mine.Roads.n : Nat) : Int))) (
 .ite ((j.air_.Mine.Roads.f (Int.toNat road)).From == j.place_) (
 .bind (Jj j.air_ j.setting_ road (wr (pressure - (j.pressures_.f (Int.toNat z0))))) fun z1 =>
 .leaf z1) (
 .bind (Jj j.air_ j.setting_ road (wr ((j.pressures_.f (Int.toNat z0)) - pressure))) fun z2 =>
 .leaf (qB.mk (wr (0 - z2.High)) (wr (0 - z2.Low))))) (
 .fail)) (
 .fail)
def qU : FnM := nfM (qM × Int × Int) (qB) (fun p => ([.ptr 0 0, .int .i64 p.2.1, .int .i64 p.2.2], [.var [sqA 2 qA.enc p.1.air_.Mine.Places, .own 1 0, .own 2 0, .own 3 0, .own 4 0, .own 5 0, sqA 1 (eI .i64) p.1.pressures_, .int .i64 p.1.place_], rowA 0 10 81 qC.enc p.1.air_.Mine.Roads, rowA 0 4 117 SFan.enc p.1.air_.Fans, rowA 0 3 91 qD.enc p.1.air_.Doors, rowA 0 1 3 (eI .i64) p.1.setting_.Fans, rowA 0 1 3 (eI .i64) p.1.setting_.Doors])) (fun p => Dn p.1 p.2.1 p.2.2) (fun r => .agg (qB.enc r)) (fun ins _ => [dB ins 0, dB ins 1, dB ins 2, dB ins 3, dB ins 4, dB ins 5])
def IL : Env := envM [(172, zN.c), (111, yu.c)] [] [] [] [] 6
theorem Gz : aI Tryz.prog 183 qU.c := qU.tells Tryz.func183 (show ∀ p, arun IL Tryz.f183 (qU.enc p).1 (qU.enc p).2 = _ from fun p => by kernel_rfl) p8 (.cons Ow (.cons LZ .nil))
def Ew (j : qM) (road pressure : Int) : Option (qB) := qU.val (j, road, pressure)
theorem aax (j : qM) (road pressure : Int) : Ew j road pressure = (Dn j road pressure).get := qU.val_eq (fun x => (⟨⟨⟨sqD qA.dec (gd (varL (dB x.2 0)) 0), sqB qC.dec (dB x.2 1)⟩, sqB SFan.dec (dB x.2 2), sqB qD.dec (dB x.2 3)⟩, ⟨sqB dI (dB x.2 4), sqB dI (dB x.2 5)⟩, sqD dI (gd (varL (dB x.2 0)) 6), intA (gd (varL (dB x.2 0)) 7)⟩, intA (gd x.1 1), intA (gd x.1 2))) (fun p => by kernel_rfl) (j, road, pressure)
def BM (u3_0 : Int) (u3_2 : Sq qA) (u3_3 : Sq Int) (u3_4 : Int) (u3_5 : Sq qC) (u3_6 : Sq SFan) (u3_7 : Sq qD) (u3_8 u3_9 : Sq Int) (u3_10 u3_11 u3_12 : Int) : DT (LR (Int × Int × Int) (Int × Int) (Unit)) :=
 .ite (decide (u3_10 < ((u3_5.n : Nat) : Int))) (
 .bind (Ew (qM.mk (SAir.mk (qI.mk u3_2 u3_5) u3_6 u3_7) (qz.mk u3_8 u3_9) u3_3 u3_4) u3_10 u3_0) fun z0 =>
 .leaf (.next ((wr (u3_10 + (1 : Int))), (wr (u3_11 + z0.Low)), (wr (u3_12 + z0.High))))) (
 .leaf (.l (u3_11, u3_12)))
def tK : LpM := ⟨Int × (Sq qA) × (Sq Int) × Int × (Sq qC) × (Sq SFan) × (Sq qD) × (Sq Int) × (Sq Int), Int × Int × Int, Int × Int, Unit, fun p => ⟨[(0, .ptr 0 0), (1, .int .i64 p.1.1), (4, .ptr 6 0), (5, .ptr 70 0), (14, .int .i64 ((p.1.2.2.2.2.1.n : Nat) : Int)), (15, .int .i64 p.2.1)], [(0, .var [sqA 2 qA.enc p.1.2.1, .own 1 0, .own 2 0, .own 3 0, .own 4 0, .own 5 0, sqA 1 (eI .i64) p.1.2.2.1, .int .i64 p.1.2.2.2.1]), (1, rowA 0 10 81 qC.enc p.1.2.2.2.2.1), (2, rowA 0 4 117 SFan.enc p.1.2.2.2.2.2.1), (3, rowA 0 3 91 qD.enc p.1.2.2.2.2.2.2.1), (4, rowA 0 1 3 (eI .i64) p.1.2.2.2.2.2.2.2.1), (5, rowA 0 1 3 (eI .i64) p.1.2.2.2.2.2.2.2.2), (6, .var [.int .i64 (0 : Int), .int .i64 (0 : Int)]), (70, .var [.int .i64 p.2.2.1, .int .i64 p.2.2.2])], 646⟩, fun f v => BM f.1 f.2.1 f.2.2.1 f.2.2.2.1 f.2.2.2.2.1 f.2.2.2.2.2.1 f.2.2.2.2.2.2.1 f.2.2.2.2.2.2.2.1 f.2.2.2.2.2.2.2.2 v.1 v.2.1 v.2.2, true, (.exit 0), (fun x a => ⟨[(4, .ptr 6 0), (5, .ptr 70 0)], [(0, blkS x 0), (1, blkS x 1), (2, blkS x 2), (3, blkS x 3), (4, blkS x 4), (5, blkS x 5), (6, .var [.int .i64 (0 : Int), .int .i64 (0 : Int)]), (70, .var [.int .i64 a.1, .int .i64 a.2])], 646⟩), .ret, (fun _ _ => ⟨[], [], 0⟩), c1, c1k⟩
def ES (u3_0 : Int) (u3_2 : Sq qA) (u3_3 : Sq Int) (u3_4 : Int) (u3_5 : Sq qC) (u3_6 : Sq SFan) (u3_7 : Sq qD) (u3_8 u3_9 : Sq Int) (u3_10 u3_11 u3_12 : Int) : Option ((Int × Int) ⊕ (Unit)) := tK.val ((u3_0, u3_2, u3_3, u3_4, u3_5, u3_6, u3_7, u3_8, u3_9), (u3_10, u3_11, u3_12))
theorem abH (u3_0 : Int) (u3_2 : Sq qA) (u3_3 : Sq Int) (u3_4 : Int) (u3_5 : Sq qC) (u3_6 : Sq SFan) (u3_7 : Sq qD) (u3_8 u3_9 : Sq Int) (u3_10 u3_11 u3_12 : Int) : ES u3_0 u3_2 u3_3 u3_4 u3_5 u3_6 u3_7 u3_8 u3_9 u3_10 u3_11 u3_12 = fixO (fun v : Int × Int × Int => BM u3_0 u3_2 u3_3 u3_4 u3_5 u3_6 u3_7 u3_8 u3_9 v.1 v.2.1 v.2.2) (u3_10, u3_11, u3_12) := tK.val_eq (fun x => ((intA (aget x.tm 1), sqD qA.dec (cellS x 0 0), sqD dI (cellS x 0 6), intA (cellS x 0 7), sqB qC.dec (blkS x 1), sqB SFan.dec (blkS x 2), sqB qD.dec (blkS x 3), sqB dI (blkS x 4), sqB dI (blkS x 5)), (intA (aget x.tm 15), intA (cellS x 70 0), intA (cellS x 70 1)))) (fun p => by kernel_rfl) ((u3_0, u3_2, u3_3, u3_4, u3_5, u3_6, u3_7, u3_8, u3_9), (u3_10, u3_11, u3_12))
def FJ (j : qM) (pressure : Int) : DT (qB) :=
 .sum (ES pressure j.air_.Mine.Places j.pressures_ j.place_ j.air_.Mine.Roads j.air_.Fans j.air_.Doors j.setting_.Fans j.setting_.Doors (0 : Int) (0 : Int) (0 : Int)) (fun y0 =>
 .leaf (qB.mk y0.1 y0.2)) (fun _ => .fail)
def qR : FnM := nfM (qM × Int) (qB) (fun p => ([.ptr 0 0, .int .i64 p.2], [.var [sqA 2 qA.enc p.1.air_.Mine.Places, .own 1 0, .own 2 0, .own 3 0, .own 4 0, .own 5 0, sqA 1 (eI .i64) p.1.pressures_, .int .i64 p.1.place_], rowA 0 10 81 qC.enc p.1.air_.Mine.Roads, rowA 0 4 117 SFan.enc p.1.air_.Fans, rowA 0 3 91 qD.enc p.1.air_.Doors, rowA 0 1 3 (eI .i64) p.1.setting_.Fans, rowA 0 1 3 (eI .i64) p.1.setting_.Doors])) (fun p => FJ p.1 p.2) (fun r => .agg (qB.enc r)) (fun ins _ => [dB ins 0, dB ins 1, dB ins 2, dB ins 3, dB ins 4, dB ins 5])
def Ey : Env := envM [(183, qU.c)] [(3, [0, 1, 4, 5, 14, 15], [4, 5])] [(3, tK.c)] [] [(3, [0, 1, 2, 3, 4, 5, 6, 70])] 6
def O4 : Env := { Ey with nt := 36 }
theorem Hr : aQ O4 (qd 3 Tryz.f170) tK.c := tK.tells 646 (fun _ => by kernel_rfl) (fun _ _ _ _ => by kernel_rfl) (fun _ _ _ _ => by kernel_rfl) fun R f v N K => by kernel_rfl
theorem xY : aI Tryz.prog 170 qR.c := qR.tells Tryz.func170 (show ∀ p, arun Ey Tryz.f170 (qR.enc p).1 (qR.enc p).2 = _ from fun p => by kernel_rfl) (qg [qd 3 Tryz.f170] (by kernel_rfl) ⟨lpT (by kernel_rfl) Hr, trivial⟩) (.cons Gz .nil)
def yZ (j : qM) (pressure : Int) : Option (qB) := qR.val (j, pressure)
theorem ac2 (j : qM) (pressure : Int) : yZ j pressure = (FJ j pressure).get := qR.val_eq (fun x => (⟨⟨⟨sqD qA.dec (gd (varL (dB x.2 0)) 0), sqB qC.dec (dB x.2 1)⟩, sqB SFan.dec (dB x.2 2), sqB qD.dec (dB x.2 3)⟩, ⟨sqB dI (dB x.2 4), sqB dI (dB x.2 5)⟩, sqD dI (gd (varL (dB x.2 0)) 6), intA (gd (varL (dB x.2 0)) 7)⟩, intA (gd x.1 1))) (fun p => by kernel_rfl) (j, pressure)
def VZ (a : SAir) (s : qz) (pressures : Sq Int) (place : Int) : DT (qB) :=
 .bind (Gq a s pressures place) fun z0 =>
 .ite (!z0) (
 .leaf (qB.mk (0 : Int) (0 : Int))) (
 .bind (BL a s pressures place) fun z1 =>
 .ite (decide ((0 : Int) ≤ place ∧ place < ((pressures.n : Nat) : Int))) (
 .bind (yZ z1 (pressures.f (Int.toNat place))) fun z2 =>
 .leaf z2) (
 .fail))
def zZ : FnM := flM (SAir × qz × (Sq Int) × Int) (qB) (fun p => ([.agg (SAir.enc p.1), .agg (qz.enc p.2.1), sqA 1 (eI .i64) p.2.2.1, .int .i64 p.2.2.2], [])) (fun p => VZ p.1 p.2.1 p.2.2.1 p.2.2.2) (fun r => .agg (qB.enc r)) (fun _ => rfl)
def aaw : Env := envM [(168, tV.c), (169, rC.c), (170, qR.c)] [] [] [] [] 0
theorem X0 : aI Tryz.prog 145 zZ.c := zZ.tells Tryz.func145 (show ∀ p, arun aaw Tryz.f145 (zZ.enc p).1 (zZ.enc p).2 = _ from fun p => by kernel_rfl) p8 (.cons DC (.cons zh (.cons xY .nil)))
def U1 (a : SAir) (s : qz) (pressures : Sq Int) (place : Int) : Option (qB) := zZ.val (a, s, pressures, place)
theorem ahh (a : SAir) (s : qz) (pressures : Sq Int) (place : Int) : U1 a s pressures place = (VZ a s pressures place).get := zZ.val_eq (fun x => (SAir.dec (aggL (gd x.1 0)), qz.dec (aggL (gd x.1 1)), sqD dI (gd x.1 2), intA (gd x.1 3))) (fun p => by kernel_rfl) (a, s, pressures, place)
def JQ (u4_0 _u4_1 : Int) (_u4_2 : Sq qA) (_u4_3 : Sq qC) (_u4_4 : Sq SFan) (u4_5 : Sq qD) (_u4_6 u4_7 : Sq Int) (_u4_8 _u4_9 _u4_10 _u4_11 : Int) (_u4_12 _u4_13 : Bool) (_u4_14 _u4_15 _u4_16 _u4_17 u4_18 u4_19 u4_20 : Int) : DT (LR (Int × Int × Int) (Int × Int) (Unit)) :=
 .ite (decide (u4_18 < ((u4_5.n : Nat) : Int))) (
 .ite (decide ((0 : Int) ≤ u4_18 ∧ u4_18 < ((u4_5.n : Nat) : Int))) (
 .ite ((u4_5.f (Int.toNat u4_18)).Road == u4_0) (
 .ite (decide ((0 : Int) ≤ u4_18 ∧ u4_18 < ((u4_5.n : Nat) : Int))) (
 .ite (decide ((0 : Int) ≤ u4_18 ∧ u4_18 < ((u4_7.n : Nat) : Int))) (
 .bind (Yy (u4_5.f (Int.toNat u4_18)) (u4_7.f (Int.toNat u4_18))) fun z0 =>
 .leaf (.next ((wr (u4_18 + (1 : Int))), (wr (u4_19 + z0.Low)), (wr (u4_20 + z0.High))))) (
 .fail)) (
 .fail)) (
 .leaf (.next ((wr (u4_18 + (1 : Int))), u4_19, u4_20)))) (
 .fail)) (
 .leaf (.l (u4_19, u4_20)))
def Br : LpM := ⟨Int × Int × (Sq qA) × (Sq qC) × (Sq SFan) × (Sq qD) × (Sq Int) × (Sq Int) × Int × Int × Int × Int × Bool × Bool × Int × Int × Int × Int, Int × Int × Int, Int × Int, Unit, fun p => ⟨[(2, .int .i64 p.1.1), (3, .int .i64 p.1.2.1), (4, .ptr 0 0), (5, .ptr 64 0), (8, .ptr 128 0), (9, .ptr 576 0), (10, .ptr 832 0), (11, .int .i64 p.2.1)], [(0, .var [sqA 2 qA.enc p.1.2.2.1, sqA 10 qC.enc p.1.2.2.2.1, sqA 4 SFan.enc p.1.2.2.2.2.1, sqA 3 qD.enc p.1.2.2.2.2.2.1]), (64, .var [sqA 1 (eI .i64) p.1.2.2.2.2.2.2.1, sqA 1 (eI .i64) p.1.2.2.2.2.2.2.2.1]), (128, .var [.int .i64 (0 : Int), .int .i64 (0 : Int)]), (576, .var [.int .i64 p.1.2.2.2.2.2.2.2.2.1, .int .i64 p.1.2.2.2.2.2.2.2.2.2.1, .int .i64 p.1.2.2.2.2.2.2.2.2.2.2.1, .int .i64 p.1.2.2.2.2.2.2.2.2.2.2.2.1, .bool p.1.2.2.2.2.2.2.2.2.2.2.2.2.1, .bool p.1.2.2.2.2.2.2.2.2.2.2.2.2.2.1, .int .i64 p.1.2.2.2.2.2.2.2.2.2.2.2.2.2.2.1, .int .i64 p.1.2.2.2.2.2.2.2.2.2.2.2.2.2.2.2.1, .int .i64 p.1.2.2.2.2.2.2.2.2.2.2.2.2.2.2.2.2.1, .int .i64 p.1.2.2.2.2.2.2.2.2.2.2.2.2.2.2.2.2.2]), (832, .var [.int .i64 p.2.2.1, .int .i64 p.2.2.2])], 1024⟩, fun f v => JQ f.1 f.2.1 f.2.2.1 f.2.2.2.1 f.2.2.2.2.1 f.2.2.2.2.2.1 f.2.2.2.2.2.2.1 f.2.2.2.2.2.2.2.1 f.2.2.2.2.2.2.2.2.1 f.2.2.2.2.2.2.2.2.2.1 f.2.2.2.2.2.2.2.2.2.2.1 f.2.2.2.2.2.2.2.2.2.2.2.1 f.2.2.2.2.2.2.2.2.2.2.2.2.1 f.2.2.2.2.2.2.2.2.2.2.2.2.2.1 f.2.2.2.2.2.2.2.2.2.2.2.2.2.2.1 f.2.2.2.2.2.2.2.2.2.2.2.2.2.2.2.1 f.2.2.2.2.2.2.2.2.2.2.2.2.2.2.2.2.1 f.2.2.2.2.2.2.2.2.2.2.2.2.2.2.2.2.2 v.1 v.2.1 v.2.2, true, (.exit 0), (fun x a => ⟨[(2, aget x.tm 2), (3, aget x.tm 3), (4, .ptr 0 0), (5, .ptr 64 0), (8, .ptr 128 0), (9, .ptr 576 0), (10, .ptr 832 0)], [(0, blkS x 0), (64, blkS x 64), (128, .var [.int .i64 (0 : Int), .int .i64 (0 : Int)]), (576, blkS x 576), (832, .var [.int .i64 a.1, .int .i64 a.2])], 1024⟩), .ret, (fun _ _ => ⟨[], [], 0⟩), c1, c1k⟩
def Uj (u4_0 u4_1 : Int) (u4_2 : Sq qA) (u4_3 : Sq qC) (u4_4 : Sq SFan) (u4_5 : Sq qD) (u4_6 u4_7 : Sq Int) (u4_8 u4_9 u4_10 u4_11 : Int) (u4_12 u4_13 : Bool) (u4_14 u4_15 u4_16 u4_17 u4_18 u4_19 u4_20 : Int) : Option ((Int × Int) ⊕ (Unit)) := Br.val ((u4_0, u4_1, u4_2, u4_3, u4_4, u4_5, u4_6, u4_7, u4_8, u4_9, u4_10, u4_11, u4_12, u4_13, u4_14, u4_15, u4_16, u4_17), (u4_18, u4_19, u4_20))
theorem afQ (u4_0 u4_1 : Int) (u4_2 : Sq qA) (u4_3 : Sq qC) (u4_4 : Sq SFan) (u4_5 : Sq qD) (u4_6 u4_7 : Sq Int) (u4_8 u4_9 u4_10 u4_11 : Int) (u4_12 u4_13 : Bool) (u4_14 u4_15 u4_16 u4_17 u4_18 u4_19 u4_20 : Int) : Uj u4_0 u4_1 u4_2 u4_3 u4_4 u4_5 u4_6 u4_7 u4_8 u4_9 u4_10 u4_11 u4_12 u4_13 u4_14 u4_15 u4_16 u4_17 u4_18 u4_19 u4_20 = fixO (fun v : Int × Int × Int => JQ u4_0 u4_1 u4_2 u4_3 u4_4 u4_5 u4_6 u4_7 u4_8 u4_9 u4_10 u4_11 u4_12 u4_13 u4_14 u4_15 u4_16 u4_17 v.1 v.2.1 v.2.2) (u4_18, u4_19, u4_20) := Br.val_eq (fun x => ((intA (aget x.tm 2), intA (aget x.tm 3), sqD qA.dec (cellS x 0 0), sqD qC.dec (cellS x 0 1), sqD SFan.dec (cellS x 0 2), sqD qD.dec (cellS x 0 3), sqD dI (cellS x 64 0), sqD dI (cellS x 64 1), intA (cellS x 576 0), intA (cellS x 576 1), intA (cellS x 576 2), intA (cellS x 576 3), pU (cellS x 576 4), pU (cellS x 576 5), intA (cellS x 576 6), intA (cellS x 576 7), intA (cellS x 576 8), intA (cellS x 576 9)), (intA (aget x.tm 11), intA (cellS x 832 0), intA (cellS x 832 1)))) (fun p => by kernel_rfl) ((u4_0, u4_1, u4_2, u4_3, u4_4, u4_5, u4_6, u4_7, u4_8, u4_9, u4_10, u4_11, u4_12, u4_13, u4_14, u4_15, u4_16, u4_17), (u4_18, u4_19, u4_20))
def Im (u14_0 u14_1 : Int) (_u14_2 : Sq qA) (_u14_3 : Sq qC) (u14_4 : Sq SFan) (_u14_5 : Sq qD) (u14_6 _u14_7 : Sq Int) (u14_8 u14_9 u14_10 : Int) : DT (LR (Int × Int × Int) (Int × Int) (Unit)) :=
 .ite (decide (u14_10 < ((u14_4.n : Nat) : Int))) (
 .ite (decide ((0 : Int) ≤ u14_10 ∧ u14_10 < ((u14_4.n : Nat) : Int))) (
 .ite ((u14_4.f (Int.toNat u14_10)).Road == u14_0) (
 .ite (decide ((0 : Int) ≤ u14_10 ∧ u14_10 < ((u14_4.n : Nat) : Int))) (
 .ite (decide ((0 : Int) ≤ u14_10 ∧ u14_10 < ((u14_6.n : Nat) : Int))) (
 .bind (Vq (u14_4.f (Int.toNat u14_10)) (u14_6.f (Int.toNat u14_10)) u14_1) fun z1 =>
 .leaf (.next ((wr (u14_8 - z1.High)), (wr (u14_9 - z1.Low)), (wr (u14_10 + (1 : Int)))))) (
 .fail)) (
 .fail)) (
 .leaf (.next (u14_8, u14_9, (wr (u14_10 + (1 : Int))))))) (
 .fail)) (
 .leaf (.l (u14_8, u14_9)))
def zx : LpM := ⟨Int × Int × (Sq qA) × (Sq qC) × (Sq SFan) × (Sq qD) × (Sq Int) × (Sq Int), Int × Int × Int, Int × Int, Unit, fun p => ⟨[(2, .int .i64 p.1.1), (3, .int .i64 p.1.2.1), (4, .ptr 0 0), (5, .ptr 64 0), (8, .ptr 128 0), (13, .ptr 1856 0), (14, .int .i64 p.2.2.2)], [(0, .var [sqA 2 qA.enc p.1.2.2.1, sqA 10 qC.enc p.1.2.2.2.1, sqA 4 SFan.enc p.1.2.2.2.2.1, sqA 3 qD.enc p.1.2.2.2.2.2.1]), (64, .var [sqA 1 (eI .i64) p.1.2.2.2.2.2.2.1, sqA 1 (eI .i64) p.1.2.2.2.2.2.2.2]), (128, .var [.int .i64 (0 : Int), .int .i64 (0 : Int)]), (1856, .var [.int .i64 p.2.1, .int .i64 p.2.2.1])], 3712⟩, fun f v => Im f.1 f.2.1 f.2.2.1 f.2.2.2.1 f.2.2.2.2.1 f.2.2.2.2.2.1 f.2.2.2.2.2.2.1 f.2.2.2.2.2.2.2 v.1 v.2.1 v.2.2, true, (.exit 2), (fun x a => ⟨[(8, .ptr 128 0), (13, .ptr 1856 0)], [(0, blkS x 0), (64, blkS x 64), (128, .var [.int .i64 (0 : Int), .int .i64 (0 : Int)]), (1856, .var [.int .i64 a.1, .int .i64 a.2])], 3712⟩), .ret, (fun _ _ => ⟨[], [], 0⟩), c1, c1k⟩
def JO (u14_0 u14_1 : Int) (u14_2 : Sq qA) (u14_3 : Sq qC) (u14_4 : Sq SFan) (u14_5 : Sq qD) (u14_6 u14_7 : Sq Int) (u14_8 u14_9 u14_10 : Int) : Option ((Int × Int) ⊕ (Unit)) := zx.val ((u14_0, u14_1, u14_2, u14_3, u14_4, u14_5, u14_6, u14_7), (u14_8, u14_9, u14_10))
theorem ae8 (u14_0 u14_1 : Int) (u14_2 : Sq qA) (u14_3 : Sq qC) (u14_4 : Sq SFan) (u14_5 : Sq qD) (u14_6 u14_7 : Sq Int) (u14_8 u14_9 u14_10 : Int) : JO u14_0 u14_1 u14_2 u14_3 u14_4 u14_5 u14_6 u14_7 u14_8 u14_9 u14_10 = fixO (fun v : Int × Int × Int => Im u14_0 u14_1 u14_2 u14_3 u14_4 u14_5 u14_6 u14_7 v.1 v.2.1 v.2.2) (u14_8, u14_9, u14_10) := zx.val_eq (fun x => ((intA (aget x.tm 2), intA (aget x.tm 3), sqD qA.dec (cellS x 0 0), sqD qC.dec (cellS x 0 1), sqD SFan.dec (cellS x 0 2), sqD qD.dec (cellS x 0 3), sqD dI (cellS x 64 0), sqD dI (cellS x 64 1)), (intA (cellS x 1856 0), intA (cellS x 1856 1), intA (aget x.tm 14)))) (fun p => by kernel_rfl) ((u14_0, u14_1, u14_2, u14_3, u14_4, u14_5, u14_6, u14_7), (u14_8, u14_9, u14_10))
def Xn (a : SAir) (s : qz) (road flow : Int) : DT (qB) :=
 .ite (decide ((0 : Int) ≤ road ∧ road < ((a.Mine.Roads.n : Nat) : Int))) (
 .sum (Uj road flow a.Mine.Places a.Mine.Roads a.Fans a.Doors s.Fans s.Doors (a.Mine.Roads.f (Int.toNat road)).From (a.Mine.Roads.f (Int.toNat road)).To (a.Mine.Roads.f (Int.toNat road)).Length (a.Mine.Roads.f (Int.toNat road)).Area (a.Mine.Roads.f (Int.toNat road)).Walk (a.Mine.Roads.f (Int.toNat road)).Closed (a.Mine.Roads.f (Int.toNat road)).Rest.Low (a.Mine.Roads.f (Int.toNat road)).Rest.High (a.Mine.Roads.f (Int.toNat road)).Lift.Low (a.Mine.Roads.f (Int.toNat road)).Lift.High (0 : Int) (a.Mine.Roads.f (Int.toNat road)).Rest.Low (a.Mine.Roads.f (Int.toNat road)).Rest.High) (fun y0 =>
 .ite (decide (flow < (0 : Int))) (
 .sum (JO road flow a.Mine.Places a.Mine.Roads a.Fans a.Doors s.Fans s.Doors (wr ((wr (0 - (wr ((wr (y0.2 * flow)) * flow)))) - (a.Mine.Roads.f (Int.toNat road)).Lift.High)) (wr ((wr (0 - (wr ((wr (y0.1 * flow)) * flow)))) - (a.Mine.Roads.f (Int.toNat road)).Lift.Low)) (0 : Int)) (fun y1 =>
 .leaf (qB.mk y1.1 y1.2)) (fun _ => .fail)) (
 .sum (JO road flow a.Mine.Places a.Mine.Roads a.Fans a.Doors s.Fans s.Doors (wr ((wr ((wr (y0.1 * flow)) * flow)) - (a.Mine.Roads.f (Int.toNat road)).Lift.High)) (wr ((wr ((wr (y0.2 * flow)) * flow)) - (a.Mine.Roads.f (Int.toNat road)).Lift.Low)) (0 : Int)) (fun y2 =>
 .leaf (qB.mk y2.1 y2.2)) (fun _ => .fail))) (fun _ => .fail)) (
 .fail)
def wF : FnM := flM (SAir × qz × Int × Int) (qB) (fun p => ([.agg (SAir.enc p.1), .agg (qz.enc p.2.1), .int .i64 p.2.2.1, .int .i64 p.2.2.2], [])) (fun p => Xn p.1 p.2.1 p.2.2.1 p.2.2.2) (fun r => .agg (qB.enc r)) (fun _ => rfl)
def Ny (a : SAir) (s : qz) (road flow : Int) : Option (qB) := wF.val (a, s, road, flow)
theorem ahE (a : SAir) (s : qz) (road flow : Int) : Ny a s road flow = (Xn a s road flow).get := wF.val_eq (fun x => (SAir.dec (aggL (gd x.1 0)), qz.dec (aggL (gd x.1 1)), intA (gd x.1 2), intA (gd x.1 3))) (fun p => by kernel_rfl) (a, s, road, flow)
def Io (u2_0 u2_1 : Int) (u2_2 : Sq qA) (u2_3 : Sq qC) (u2_4 : Sq SFan) (u2_5 : Sq qD) (u2_6 u2_7 : Sq Int) (u2_8 u2_9 : Int) : DT (LR (Int × Int) (Int) (Unit)) :=
 .ite (decide (u2_8 < u2_9)) (
 .bind (Ny (SAir.mk (qI.mk u2_2 u2_3) u2_4 u2_5) (qz.mk u2_6 u2_7) u2_0 (wr (u2_8 + (wr (Int.tdiv (wr ((wr (u2_9 - u2_8)) + (1 : Int))) (2 : Int)))))) fun z0 =>
 .ite (decide (z0.High ≤ u2_1)) (
 .leaf (.next ((wr (u2_8 + (wr (Int.tdiv (wr ((wr (u2_9 - u2_8)) + (1 : Int))) (2 : Int))))), u2_9))) (
 .leaf (.next (u2_8, (wr ((wr (u2_8 + (wr (Int.tdiv (wr ((wr (u2_9 - u2_8)) + (1 : Int))) (2 : Int))))) - (1 : Int))))))) (
 .leaf (.l u2_8))
def zy : LpM := ⟨Int × Int × (Sq qA) × (Sq qC) × (Sq SFan) × (Sq qD) × (Sq Int) × (Sq Int), Int × Int, Int, Unit, fun p => ⟨[(2, .int .i64 p.1.1), (3, .int .i64 p.1.2.1), (4, .ptr 0 0), (5, .ptr 64 0), (9, .int .i64 p.2.1), (10, .int .i64 p.2.2)], [(0, .var [sqA 2 qA.enc p.1.2.2.1, sqA 10 qC.enc p.1.2.2.2.1, sqA 4 SFan.enc p.1.2.2.2.2.1, sqA 3 qD.enc p.1.2.2.2.2.2.1]), (64, .var [sqA 1 (eI .i64) p.1.2.2.2.2.2.2.1, sqA 1 (eI .i64) p.1.2.2.2.2.2.2.2])], 320⟩, fun f v => Io f.1 f.2.1 f.2.2.1 f.2.2.2.1 f.2.2.2.2.1 f.2.2.2.2.2.1 f.2.2.2.2.2.2.1 f.2.2.2.2.2.2.2 v.1 v.2, true, (.exit 0), (fun x a => ⟨[(9, .int .i64 a)], [(0, blkS x 0), (64, blkS x 64)], 320⟩), .ret, (fun _ _ => ⟨[], [], 0⟩), c1, c1k⟩
def QO (u2_0 u2_1 : Int) (u2_2 : Sq qA) (u2_3 : Sq qC) (u2_4 : Sq SFan) (u2_5 : Sq qD) (u2_6 u2_7 : Sq Int) (u2_8 u2_9 : Int) : Option ((Int) ⊕ (Unit)) := zy.val ((u2_0, u2_1, u2_2, u2_3, u2_4, u2_5, u2_6, u2_7), (u2_8, u2_9))
theorem ae9 (u2_0 u2_1 : Int) (u2_2 : Sq qA) (u2_3 : Sq qC) (u2_4 : Sq SFan) (u2_5 : Sq qD) (u2_6 u2_7 : Sq Int) (u2_8 u2_9 : Int) : QO u2_0 u2_1 u2_2 u2_3 u2_4 u2_5 u2_6 u2_7 u2_8 u2_9 = fixO (fun v : Int × Int => Io u2_0 u2_1 u2_2 u2_3 u2_4 u2_5 u2_6 u2_7 v.1 v.2) (u2_8, u2_9) := zy.val_eq (fun x => ((intA (aget x.tm 2), intA (aget x.tm 3), sqD qA.dec (cellS x 0 0), sqD qC.dec (cellS x 0 1), sqD SFan.dec (cellS x 0 2), sqD qD.dec (cellS x 0 3), sqD dI (cellS x 64 0), sqD dI (cellS x 64 1)), (intA (aget x.tm 9), intA (aget x.tm 10)))) (fun p => by kernel_rfl) ((u2_0, u2_1, u2_2, u2_3, u2_4, u2_5, u2_6, u2_7), (u2_8, u2_9))
def Uk (a : SAir) (s : qz) (road pressure : Int) : DT (Int) :=
 .sum (QO road pressure a.Mine.Places a.Mine.Roads a.Fans a.Doors s.Fans s.Doors (-1048577 : Int) (1048576 : Int)) (fun y0 =>
 .leaf y0) (fun _ => .fail)
def vD : FnM := flM (SAir × qz × Int × Int) (Int) (fun p => ([.agg (SAir.enc p.1), .agg (qz.enc p.2.1), .int .i64 p.2.2.1, .int .i64 p.2.2.2], [])) (fun p => Uk p.1 p.2.1 p.2.2.1 p.2.2.2) (fun r => .int .i64 r) (fun _ => rfl)
def GZ (a : SAir) (s : qz) (road pressure : Int) : Option (Int) := vD.val (a, s, road, pressure)
theorem ag2 (a : SAir) (s : qz) (road pressure : Int) : GZ a s road pressure = (Uk a s road pressure).get := vD.val_eq (fun x => (SAir.dec (aggL (gd x.1 0)), qz.dec (aggL (gd x.1 1)), intA (gd x.1 2), intA (gd x.1 3))) (fun p => by kernel_rfl) (a, s, road, pressure)
def GY (u2_0 u2_1 : Int) (u2_2 : Sq qA) (u2_3 : Sq qC) (u2_4 : Sq SFan) (u2_5 : Sq qD) (u2_6 u2_7 : Sq Int) (u2_8 u2_9 : Int) : DT (LR (Int × Int) (Int) (Unit)) :=
 .ite (decide (u2_9 < u2_8)) (
 .bind (Ny (SAir.mk (qI.mk u2_2 u2_3) u2_4 u2_5) (qz.mk u2_6 u2_7) u2_0 (wr (u2_9 + (wr (Int.tdiv (wr (u2_8 - u2_9)) (2 : Int)))))) fun z0 =>
 .ite (decide (z0.Low ≥ u2_1)) (
 .leaf (.next ((wr (u2_9 + (wr (Int.tdiv (wr (u2_8 - u2_9)) (2 : Int))))), u2_9))) (
 .leaf (.next (u2_8, (wr ((wr (u2_9 + (wr (Int.tdiv (wr (u2_8 - u2_9)) (2 : Int))))) + (1 : Int))))))) (
 .leaf (.l u2_9))
def yD : LpM := ⟨Int × Int × (Sq qA) × (Sq qC) × (Sq SFan) × (Sq qD) × (Sq Int) × (Sq Int), Int × Int, Int, Unit, fun p => ⟨[(2, .int .i64 p.1.1), (3, .int .i64 p.1.2.1), (4, .ptr 0 0), (5, .ptr 64 0), (9, .int .i64 p.2.2), (10, .int .i64 p.2.1)], [(0, .var [sqA 2 qA.enc p.1.2.2.1, sqA 10 qC.enc p.1.2.2.2.1, sqA 4 SFan.enc p.1.2.2.2.2.1, sqA 3 qD.enc p.1.2.2.2.2.2.1]), (64, .var [sqA 1 (eI .i64) p.1.2.2.2.2.2.2.1, sqA 1 (eI .i64) p.1.2.2.2.2.2.2.2])], 320⟩, fun f v => GY f.1 f.2.1 f.2.2.1 f.2.2.2.1 f.2.2.2.2.1 f.2.2.2.2.2.1 f.2.2.2.2.2.2.1 f.2.2.2.2.2.2.2 v.1 v.2, true, (.exit 0), (fun x a => ⟨[(9, .int .i64 a)], [(0, blkS x 0), (64, blkS x 64)], 320⟩), .ret, (fun _ _ => ⟨[], [], 0⟩), c1, c1k⟩
def OD (u2_0 u2_1 : Int) (u2_2 : Sq qA) (u2_3 : Sq qC) (u2_4 : Sq SFan) (u2_5 : Sq qD) (u2_6 u2_7 : Sq Int) (u2_8 u2_9 : Int) : Option ((Int) ⊕ (Unit)) := yD.val ((u2_0, u2_1, u2_2, u2_3, u2_4, u2_5, u2_6, u2_7), (u2_8, u2_9))
theorem aeK (u2_0 u2_1 : Int) (u2_2 : Sq qA) (u2_3 : Sq qC) (u2_4 : Sq SFan) (u2_5 : Sq qD) (u2_6 u2_7 : Sq Int) (u2_8 u2_9 : Int) : OD u2_0 u2_1 u2_2 u2_3 u2_4 u2_5 u2_6 u2_7 u2_8 u2_9 = fixO (fun v : Int × Int => GY u2_0 u2_1 u2_2 u2_3 u2_4 u2_5 u2_6 u2_7 v.1 v.2) (u2_8, u2_9) := yD.val_eq (fun x => ((intA (aget x.tm 2), intA (aget x.tm 3), sqD qA.dec (cellS x 0 0), sqD qC.dec (cellS x 0 1), sqD SFan.dec (cellS x 0 2), sqD qD.dec (cellS x 0 3), sqD dI (cellS x 64 0), sqD dI (cellS x 64 1)), (intA (aget x.tm 10), intA (aget x.tm 9)))) (fun p => by kernel_rfl) ((u2_0, u2_1, u2_2, u2_3, u2_4, u2_5, u2_6, u2_7), (u2_8, u2_9))
def QL (a : SAir) (s : qz) (road pressure : Int) : DT (Int) :=
 .sum (OD road pressure a.Mine.Places a.Mine.Roads a.Fans a.Doors s.Fans s.Doors (1048577 : Int) (-1048576 : Int)) (fun y0 =>
 .leaf y0) (fun _ => .fail)
def uQ : FnM := flM (SAir × qz × Int × Int) (Int) (fun p => ([.agg (SAir.enc p.1), .agg (qz.enc p.2.1), .int .i64 p.2.2.1, .int .i64 p.2.2.2], [])) (fun p => QL p.1 p.2.1 p.2.2.1 p.2.2.2) (fun r => .int .i64 r) (fun _ => rfl)
def Fb (a : SAir) (s : qz) (road pressure : Int) : Option (Int) := uQ.val (a, s, road, pressure)
theorem agC (a : SAir) (s : qz) (road pressure : Int) : Fb a s road pressure = (QL a s road pressure).get := uQ.val_eq (fun x => (SAir.dec (aggL (gd x.1 0)), qz.dec (aggL (gd x.1 1)), intA (gd x.1 2), intA (gd x.1 3))) (fun p => by kernel_rfl) (a, s, road, pressure)
def Ip (u3_0 : Sq Int) (u3_1 : Int) (u3_2 : Sq qA) (u3_3 : Sq qC) (u3_4 : Sq SFan) (u3_5 : Sq qD) (u3_6 u3_7 : Sq Int) (u3_8 u3_9 : Int) : DT (LR (Int × Int) (Int) (Unit)) :=
 .ite (decide (u3_8 < ((u3_3.n : Nat) : Int))) (
 .ite (decide ((0 : Int) ≤ u3_8 ∧ u3_8 < ((u3_3.n : Nat) : Int))) (
 .ite (u3_3.f (Int.toNat u3_8)).Closed (
 .leaf (.next ((wr (u3_8 + (1 : Int))), u3_9))) (
 .ite ((u3_3.f (Int.toNat u3_8)).From == u3_1) (
 .ite (decide ((0 : Int) ≤ (u3_3.f (Int.toNat u3_8)).From ∧ (u3_3.f (Int.toNat u3_8)).From < ((u3_0.n : Nat) : Int))) (
 .ite (decide ((0 : Int) ≤ (u3_3.f (Int.toNat u3_8)).To ∧ (u3_3.f (Int.toNat u3_8)).To < ((u3_0.n : Nat) : Int))) (
 .bind (GZ (SAir.mk (qI.mk u3_2 u3_3) u3_4 u3_5) (qz.mk u3_6 u3_7) u3_8 (wr ((u3_0.f (Int.toNat (u3_3.f (Int.toNat u3_8)).From)) - (u3_0.f (Int.toNat (u3_3.f (Int.toNat u3_8)).To))))) fun z0 =>
 .ite ((u3_3.f (Int.toNat u3_8)).To == u3_1) (
 .ite (decide ((0 : Int) ≤ (u3_3.f (Int.toNat u3_8)).From ∧ (u3_3.f (Int.toNat u3_8)).From < ((u3_0.n : Nat) : Int))) (
 .ite (decide ((0 : Int) ≤ (u3_3.f (Int.toNat u3_8)).To ∧ (u3_3.f (Int.toNat u3_8)).To < ((u3_0.n : Nat) : Int))) (
 .bind (Fb (SAir.mk (qI.mk u3_2 u3_3) u3_4 u3_5) (qz.mk u3_6 u3_7) u3_8 (wr ((u3_0.f (Int.toNat (u3_3.f (Int.toNat u3_8)).From)) - (u3_0.f (Int.toNat (u3_3.f (Int.toNat u3_8)).To))))) fun z1 =>
 .leaf (.next ((wr (u3_8 + (1 : Int))), (wr ((wr (u3_9 + z0)) - z1))))) (
 .fail)) (
 .fail)) (
 .leaf (.next ((wr (u3_8 + (1 : Int))), (wr (u3_9 + z0)))))) (
 .fail)) (
 .fail)) (
 .ite ((u3_3.f (Int.toNat u3_8)).To == u3_1) (
 .ite (decide ((0 : Int) ≤ (u3_3.f (Int.toNat u3_8)).From ∧ (u3_3.f (Int.toNat u3_8)).From < ((u3_0.n : Nat) : Int))) (
 .ite (decide ((0 : Int) ≤ (u3_3.f (Int.toNat u3_8)).To ∧ (u3_3.f (Int.toNat u3_8)).To < ((u3_0.n : Nat) : Int))) (
 .bind (Fb (SAir.mk (qI.mk u3_2 u3_3) u3_4 u3_5) (qz.mk u3_6 u3_7) u3_8 (wr ((u3_0.f (Int.toNat (u3_3.f (Int.toNat u3_8)).From)) - (u3_0.f (Int.toNat (u3_3.f (Int.toNat u3_8)).To))))) fun z2 =>
 .leaf (.next ((wr (u3_8 + (1 : Int))), (wr (u3_9 - z2))))) (
 .fail)) (
 .fail)) (
 .leaf (.next ((wr (u3_8 + (1 : Int))), u3_9)))))) (
 .fail)) (
 .leaf (.l u3_9))
def zB : LpM := ⟨(Sq Int) × Int × (Sq qA) × (Sq qC) × (Sq SFan) × (Sq qD) × (Sq Int) × (Sq Int), Int × Int, Int, Unit, fun p => ⟨[(2, sqA 1 (eI .i64) p.1.1), (3, .int .i64 p.1.2.1), (4, .ptr 0 0), (5, .ptr 64 0), (9, .int .i64 p.2.2), (10, .int .i64 p.2.1)], [(0, .var [sqA 2 qA.enc p.1.2.2.1, sqA 10 qC.enc p.1.2.2.2.1, sqA 4 SFan.enc p.1.2.2.2.2.1, sqA 3 qD.enc p.1.2.2.2.2.2.1]), (64, .var [sqA 1 (eI .i64) p.1.2.2.2.2.2.2.1, sqA 1 (eI .i64) p.1.2.2.2.2.2.2.2])], 320⟩, fun f v => Ip f.1 f.2.1 f.2.2.1 f.2.2.2.1 f.2.2.2.2.1 f.2.2.2.2.2.1 f.2.2.2.2.2.2.1 f.2.2.2.2.2.2.2 v.1 v.2, true, (.exit 0), (fun x a => ⟨[(9, .int .i64 a)], [(0, blkS x 0), (64, blkS x 64)], 320⟩), .ret, (fun _ _ => ⟨[], [], 0⟩), c1, c1k⟩
def QV (u3_0 : Sq Int) (u3_1 : Int) (u3_2 : Sq qA) (u3_3 : Sq qC) (u3_4 : Sq SFan) (u3_5 : Sq qD) (u3_6 u3_7 : Sq Int) (u3_8 u3_9 : Int) : Option ((Int) ⊕ (Unit)) := zB.val ((u3_0, u3_1, u3_2, u3_3, u3_4, u3_5, u3_6, u3_7), (u3_8, u3_9))
theorem afa (u3_0 : Sq Int) (u3_1 : Int) (u3_2 : Sq qA) (u3_3 : Sq qC) (u3_4 : Sq SFan) (u3_5 : Sq qD) (u3_6 u3_7 : Sq Int) (u3_8 u3_9 : Int) : QV u3_0 u3_1 u3_2 u3_3 u3_4 u3_5 u3_6 u3_7 u3_8 u3_9 = fixO (fun v : Int × Int => Ip u3_0 u3_1 u3_2 u3_3 u3_4 u3_5 u3_6 u3_7 v.1 v.2) (u3_8, u3_9) := zB.val_eq (fun x => ((sqD dI (aget x.tm 2), intA (aget x.tm 3), sqD qA.dec (cellS x 0 0), sqD qC.dec (cellS x 0 1), sqD SFan.dec (cellS x 0 2), sqD qD.dec (cellS x 0 3), sqD dI (cellS x 64 0), sqD dI (cellS x 64 1)), (intA (aget x.tm 10), intA (aget x.tm 9)))) (fun p => by kernel_rfl) ((u3_0, u3_1, u3_2, u3_3, u3_4, u3_5, u3_6, u3_7), (u3_8, u3_9))
def Uq (a : SAir) (s : qz) (pressures : Sq Int) (place : Int) : DT (Int) :=
 .sum (QV pressures place a.Mine.Places a.Mine.Roads a.Fans a.Doors s.Fans s.Doors (0 : Int) (0 : Int)) (fun y0 =>
 .leaf y0) (fun _ => .fail)
def wJ : FnM := flM (SAir × qz × (Sq Int) × Int) (Int) (fun p => ([.agg (SAir.enc p.1), .agg (qz.enc p.2.1), sqA 1 (eI .i64) p.2.2.1, .int .i64 p.2.2.2], [])) (fun p => Uq p.1 p.2.1 p.2.2.1 p.2.2.2) (fun r => .int .i64 r) (fun _ => rfl)
def G6 (a : SAir) (s : qz) (pressures : Sq Int) (place : Int) : Option (Int) := wJ.val (a, s, pressures, place)
theorem ag3 (a : SAir) (s : qz) (pressures : Sq Int) (place : Int) : G6 a s pressures place = (Uq a s pressures place).get := wJ.val_eq (fun x => (SAir.dec (aggL (gd x.1 0)), qz.dec (aggL (gd x.1 1)), sqD dI (gd x.1 2), intA (gd x.1 3))) (fun p => by kernel_rfl) (a, s, pressures, place)
def G5 (u3_0 : Sq Int) (u3_1 : Int) (u3_2 : Sq qA) (u3_3 : Sq qC) (u3_4 : Sq SFan) (u3_5 : Sq qD) (u3_6 u3_7 : Sq Int) (u3_8 u3_9 : Int) : DT (LR (Int × Int) (Int) (Unit)) :=
 .ite (decide (u3_8 < ((u3_3.n : Nat) : Int))) (
 .ite (decide ((0 : Int) ≤ u3_8 ∧ u3_8 < ((u3_3.n : Nat) : Int))) (
 .ite (u3_3.f (Int.toNat u3_8)).Closed (
 .leaf (.next ((wr (u3_8 + (1 : Int))), u3_9))) (
 .ite ((u3_3.f (Int.toNat u3_8)).From == u3_1) (
 .ite (decide ((0 : Int) ≤ (u3_3.f (Int.toNat u3_8)).From ∧ (u3_3.f (Int.toNat u3_8)).From < ((u3_0.n : Nat) : Int))) (
 .ite (decide ((0 : Int) ≤ (u3_3.f (Int.toNat u3_8)).To ∧ (u3_3.f (Int.toNat u3_8)).To < ((u3_0.n : Nat) : Int))) (
 .bind (Fb (SAir.mk (qI.mk u3_2 u3_3) u3_4 u3_5) (qz.mk u3_6 u3_7) u3_8 (wr ((u3_0.f (Int.toNat (u3_3.f (Int.toNat u3_8)).From)) - (u3_0.f (Int.toNat (u3_3.f (Int.toNat u3_8)).To))))) fun z0 =>
 .ite ((u3_3.f (Int.toNat u3_8)).To == u3_1) (
 .ite (decide ((0 : Int) ≤ (u3_3.f (Int.toNat u3_8)).From ∧ (u3_3.f (Int.toNat u3_8)).From < ((u3_0.n : Nat) : Int))) (
 .ite (decide ((0 : Int) ≤ (u3_3.f (Int.toNat u3_8)).To ∧ (u3_3.f (Int.toNat u3_8)).To < ((u3_0.n : Nat) : Int))) (
 .bind (GZ (SAir.mk (qI.mk u3_2 u3_3) u3_4 u3_5) (qz.mk u3_6 u3_7) u3_8 (wr ((u3_0.f (Int.toNat (u3_3.f (Int.toNat u3_8)).From)) - (u3_0.f (Int.toNat (u3_3.f (Int.toNat u3_8)).To))))) fun z1 =>
 .leaf (.next ((wr (u3_8 + (1 : Int))), (wr ((wr (u3_9 + z0)) - z1))))) (
 .fail)) (
 .fail)) (
 .leaf (.next ((wr (u3_8 + (1 : Int))), (wr (u3_9 + z0)))))) (
 .fail)) (
 .fail)) (
 .ite ((u3_3.f (Int.toNat u3_8)).To == u3_1) (
 .ite (decide ((0 : Int) ≤ (u3_3.f (Int.toNat u3_8)).From ∧ (u3_3.f (Int.toNat u3_8)).From < ((u3_0.n : Nat) : Int))) (
 .ite (decide ((0 : Int) ≤ (u3_3.f (Int.toNat u3_8)).To ∧ (u3_3.f (Int.toNat u3_8)).To < ((u3_0.n : Nat) : Int))) (
 .bind (GZ (SAir.mk (qI.mk u3_2 u3_3) u3_4 u3_5) (qz.mk u3_6 u3_7) u3_8 (wr ((u3_0.f (Int.toNat (u3_3.f (Int.toNat u3_8)).From)) - (u3_0.f (Int.toNat (u3_3.f (Int.toNat u3_8)).To))))) fun z2 =>
 .leaf (.next ((wr (u3_8 + (1 : Int))), (wr (u3_9 - z2))))) (
 .fail)) (
 .fail)) (
 .leaf (.next ((wr (u3_8 + (1 : Int))), u3_9)))))) (
 .fail)) (
 .leaf (.l u3_9))
def yE : LpM := ⟨(Sq Int) × Int × (Sq qA) × (Sq qC) × (Sq SFan) × (Sq qD) × (Sq Int) × (Sq Int), Int × Int, Int, Unit, fun p => ⟨[(2, sqA 1 (eI .i64) p.1.1), (3, .int .i64 p.1.2.1), (4, .ptr 0 0), (5, .ptr 64 0), (9, .int .i64 p.2.2), (10, .int .i64 p.2.1)], [(0, .var [sqA 2 qA.enc p.1.2.2.1, sqA 10 qC.enc p.1.2.2.2.1, sqA 4 SFan.enc p.1.2.2.2.2.1, sqA 3 qD.enc p.1.2.2.2.2.2.1]), (64, .var [sqA 1 (eI .i64) p.1.2.2.2.2.2.2.1, sqA 1 (eI .i64) p.1.2.2.2.2.2.2.2])], 320⟩, fun f v => G5 f.1 f.2.1 f.2.2.1 f.2.2.2.1 f.2.2.2.2.1 f.2.2.2.2.2.1 f.2.2.2.2.2.2.1 f.2.2.2.2.2.2.2 v.1 v.2, true, (.exit 0), (fun x a => ⟨[(9, .int .i64 a)], [(0, blkS x 0), (64, blkS x 64)], 320⟩), .ret, (fun _ _ => ⟨[], [], 0⟩), c1, c1k⟩
def OG (u3_0 : Sq Int) (u3_1 : Int) (u3_2 : Sq qA) (u3_3 : Sq qC) (u3_4 : Sq SFan) (u3_5 : Sq qD) (u3_6 u3_7 : Sq Int) (u3_8 u3_9 : Int) : Option ((Int) ⊕ (Unit)) := yE.val ((u3_0, u3_1, u3_2, u3_3, u3_4, u3_5, u3_6, u3_7), (u3_8, u3_9))
theorem aeL (u3_0 : Sq Int) (u3_1 : Int) (u3_2 : Sq qA) (u3_3 : Sq qC) (u3_4 : Sq SFan) (u3_5 : Sq qD) (u3_6 u3_7 : Sq Int) (u3_8 u3_9 : Int) : OG u3_0 u3_1 u3_2 u3_3 u3_4 u3_5 u3_6 u3_7 u3_8 u3_9 = fixO (fun v : Int × Int => G5 u3_0 u3_1 u3_2 u3_3 u3_4 u3_5 u3_6 u3_7 v.1 v.2) (u3_8, u3_9) := yE.val_eq (fun x => ((sqD dI (aget x.tm 2), intA (aget x.tm 3), sqD qA.dec (cellS x 0 0), sqD qC.dec (cellS x 0 1), sqD SFan.dec (cellS x 0 2), sqD qD.dec (cellS x 0 3), sqD dI (cellS x 64 0), sqD dI (cellS x 64 1)), (intA (aget x.tm 10), intA (aget x.tm 9)))) (fun p => by kernel_rfl) ((u3_0, u3_1, u3_2, u3_3, u3_4, u3_5, u3_6, u3_7), (u3_8, u3_9))
def QU (a : SAir) (s : qz) (pressures : Sq Int) (place : Int) : DT (Int) :=
 .sum (OG pressures place a.Mine.Places a.Mine.Roads a.Fans a.Doors s.Fans s.Doors (0 : Int) (0 : Int)) (fun y0 =>
 .leaf y0) (fun _ => .fail)
def vL : FnM := flM (SAir × qz × (Sq Int) × Int) (Int) (fun p => ([.agg (SAir.enc p.1), .agg (qz.enc p.2.1), sqA 1 (eI .i64) p.2.2.1, .int .i64 p.2.2.2], [])) (fun p => QU p.1 p.2.1 p.2.2.1 p.2.2.2) (fun r => .int .i64 r) (fun _ => rfl)
def Fg (a : SAir) (s : qz) (pressures : Sq Int) (place : Int) : Option (Int) := vL.val (a, s, pressures, place)
theorem agE (a : SAir) (s : qz) (pressures : Sq Int) (place : Int) : Fg a s pressures place = (QU a s pressures place).get := vL.val_eq (fun x => (SAir.dec (aggL (gd x.1 0)), qz.dec (aggL (gd x.1 1)), sqD dI (gd x.1 2), intA (gd x.1 3))) (fun p => by kernel_rfl) (a, s, pressures, place)
def Y9 (m : qI) : DT (Bool) :=
 .bind (Yf m) fun z0 =>
 .leaf (z0 == (0 : Int))
def Cw : FnM := flM (qI) (Bool) (fun p => ([.agg (qI.enc p)], [])) (fun p => Y9 p) (fun r => .bool r) (fun _ => rfl)
def ab2 : Env := envM [(64, zM.c)] [] [] [] [] 0
theorem ZY : aI Tryz.prog 146 Cw.c := Cw.tells Tryz.func146 (show ∀ p, arun ab2 Tryz.f146 (Cw.enc p).1 (Cw.enc p).2 = _ from fun p => by kernel_rfl) p8 (.cons Ov .nil)
def acJ (m : qI) : Option (Bool) := Cw.val m
theorem ah4 (m : qI) : acJ m = (Y9 m).get := Cw.val_eq (fun x => qI.dec (aggL (gd x.1 0))) (fun p => by kernel_rfl) m
def Mt (x : Int) : DT (Int) :=
 .ite (decide (x ≥ (4294967296 : Int))) (
 .fail) (
 .ite (decide (x ≥ (65536 : Int))) (
 .fail) (
 .ite (decide (x ≥ (256 : Int))) (
 .ite (decide ((0 : Int) ≤ (IntKind.u8.wrap (x / 2 ^ (Int.toNat (8 : Int)))) ∧ (IntKind.u8.wrap (x / 2 ^ (Int.toNat (8 : Int)))) < ((ByteArray.size (⟨#[0, 1, 2, 2, 3, 3, 3, 3, 4, 4, 4, 4, 4, 4, 4, 4, 5, 5, 5, 5, 5, 5, 5, 5, 5, 5, 5, 5, 5, 5, 5, 5, 6, 6, 6, 6, 6, 6, 6, 6, 6, 6, 6, 6, 6, 6, 6, 6, 6, 6, 6, 6, 6, 6, 6, 6, 6, 6, 6, 6, 6, 6, 6, 6, 7, 7, 7, 7, 7, 7, 7, 7, 7, 7, 7, 7, 7, 7, 7, 7, 7, 7, 7, 7, 7, 7, 7, 7, 7, 7, 7, 7, 7, 7, 7, 7, 7, 7, 7, 7, 7, 7, 7, 7, 7, 7, 7, 7, 7, 7, 7, 7, 7, 7, 7, 7, 7, 7, 7, 7, 7, 7, 7, 7, 7, 7, 7, 7, 8, 8, 8, 8, 8, 8, 8, 8, 8, 8, 8, 8, 8, 8, 8, 8, 8, 8, 8, 8, 8, 8, 8, 8, 8, 8, 8, 8, 8, 8, 8, 8, 8, 8, 8, 8, 8, 8, 8, 8, 8, 8, 8, 8, 8, 8, 8, 8, 8, 8, 8, 8, 8, 8, 8, 8, 8, 8, 8, 8, 8, 8, 8, 8, 8, 8, 8, 8, 8, 8, 8, 8, 8, 8, 8, 8, 8, 8, 8, 8, 8, 8, 8, 8, 8, 8, 8, 8, 8, 8, 8, 8, 8, 8, 8, 8, 8, 8, 8, 8, 8, 8, 8, 8, 8, 8, 8, 8, 8, 8, 8, 8, 8, 8, 8, 8, 8, 8, 8, 8, 8, 8, 8, 8, 8, 8, 8, 8]⟩ : ByteArray) : Nat) : Int))) (.leaf (wr ((8 : Int) + (wr (nX (⟨#[0, 1, 2, 2, 3, 3, 3, 3, 4, 4, 4, 4, 4, 4, 4, 4, 5, 5, 5, 5, 5, 5, 5, 5, 5, 5, 5, 5, 5, 5, 5, 5, 6, 6, 6, 6, 6, 6, 6, 6, 6, 6, 6, 6, 6, 6, 6, 6, 6, 6, 6, 6, 6, 6, 6, 6, 6, 6, 6, 6, 6, 6, 6, 6, 7, 7, 7, 7, 7, 7, 7, 7, 7, 7, 7, 7, 7, 7, 7, 7, 7, 7, 7, 7, 7, 7, 7, 7, 7, 7, 7, 7, 7, 7, 7, 7, 7, 7, 7, 7, 7, 7, 7, 7, 7, 7, 7, 7, 7, 7, 7, 7, 7, 7, 7, 7, 7, 7, 7, 7, 7, 7, 7, 7, 7, 7, 7, 7, 8, 8, 8, 8, 8, 8, 8, 8, 8, 8, 8, 8, 8, 8, 8, 8, 8, 8, 8, 8, 8, 8, 8, 8, 8, 8, 8, 8, 8, 8, 8, 8, 8, 8, 8, 8, 8, 8, 8, 8, 8, 8, 8, 8, 8, 8, 8, 8, 8, 8, 8, 8, 8, 8, 8, 8, 8, 8, 8, 8, 8, 8, 8, 8, 8, 8, 8, 8, 8, 8, 8, 8, 8, 8, 8, 8, 8, 8, 8, 8, 8, 8, 8, 8, 8, 8, 8, 8, 8, 8, 8, 8, 8, 8, 8, 8, 8, 8, 8, 8, 8, 8, 8, 8, 8, 8, 8, 8, 8, 8, 8, 8, 8, 8, 8, 8, 8, 8, 8, 8, 8, 8, 8, 8, 8, 8, 8, 8]⟩ : ByteArray) (IntKind.u8.wrap (x / 2 ^ (Int.toNat (8 : Int))))))))) (.fail)) (
 .ite (decide ((0 : Int) ≤ (IntKind.u8.wrap x) ∧ (IntKind.u8.wrap x) < ((ByteArray.size (⟨#[0, 1, 2, 2, 3, 3, 3, 3, 4, 4, 4, 4, 4, 4, 4, 4, 5, 5, 5, 5, 5, 5, 5, 5, 5, 5, 5, 5, 5, 5, 5, 5, 6, 6, 6, 6, 6, 6, 6, 6, 6, 6, 6, 6, 6, 6, 6, 6, 6, 6, 6, 6, 6, 6, 6, 6, 6, 6, 6, 6, 6, 6, 6, 6, 7, 7, 7, 7, 7, 7, 7, 7, 7, 7, 7, 7, 7, 7, 7, 7, 7, 7, 7, 7, 7, 7, 7, 7, 7, 7, 7, 7, 7, 7, 7, 7, 7, 7, 7, 7, 7, 7, 7, 7, 7, 7, 7, 7, 7, 7, 7, 7, 7, 7, 7, 7, 7, 7, 7, 7, 7, 7, 7, 7, 7, 7, 7, 7, 8, 8, 8, 8, 8, 8, 8, 8, 8, 8, 8, 8, 8, 8, 8, 8, 8, 8, 8, 8, 8, 8, 8, 8, 8, 8, 8, 8, 8, 8, 8, 8, 8, 8, 8, 8, 8, 8, 8, 8, 8, 8, 8, 8, 8, 8, 8, 8, 8, 8, 8, 8, 8, 8, 8, 8, 8, 8, 8, 8, 8, 8, 8, 8, 8, 8, 8, 8, 8, 8, 8, 8, 8, 8, 8, 8, 8, 8, 8, 8, 8, 8, 8, 8, 8, 8, 8, 8, 8, 8, 8, 8, 8, 8, 8, 8, 8, 8, 8, 8, 8, 8, 8, 8, 8, 8, 8, 8, 8, 8, 8, 8, 8, 8, 8, 8, 8, 8, 8, 8, 8, 8, 8, 8, 8, 8, 8, 8]⟩ : ByteArray) : Nat) : Int))) (.leaf (wr ((0 : Int) + (wr (nX (⟨#[0, 1, 2, 2, 3, 3, 3, 3, 4, 4, 4, 4, 4, 4, 4, 4, 5, 5, 5, 5, 5, 5, 5, 5, 5, 5, 5, 5, 5, 5, 5, 5, 6, 6, 6, 6, 6, 6, 6, 6, 6, 6, 6, 6, 6, 6, 6, 6, 6, 6, 6, 6, 6, 6, 6, 6, 6, 6, 6, 6, 6, 6, 6, 6, 7, 7, 7, 7, 7, 7, 7, 7, 7, 7, 7, 7, 7, 7, 7, 7, 7, 7, 7, 7, 7, 7, 7, 7, 7, 7, 7, 7, 7, 7, 7, 7, 7, 7, 7, 7, 7, 7, 7, 7, 7, 7, 7, 7, 7, 7, 7, 7, 7, 7, 7, 7, 7, 7, 7, 7, 7, 7, 7, 7, 7, 7, 7, 7, 8, 8, 8, 8, 8, 8, 8, 8, 8, 8, 8, 8, 8, 8, 8, 8, 8, 8, 8, 8, 8, 8, 8, 8, 8, 8, 8, 8, 8, 8, 8, 8, 8, 8, 8, 8, 8, 8, 8, 8, 8, 8, 8, 8, 8, 8, 8, 8, 8, 8, 8, 8, 8, 8, 8, 8, 8, 8, 8, 8, 8, 8, 8, 8, 8, 8, 8, 8, 8, 8, 8, 8, 8, 8, 8, 8, 8, 8, 8, 8, 8, 8, 8, 8, 8, 8, 8, 8, 8, 8, 8, 8, 8, 8, 8, 8, 8, 8, 8, 8, 8, 8, 8, 8, 8, 8, 8, 8, 8, 8, 8, 8, 8, 8, 8, 8, 8, 8, 8, 8, 8, 8, 8, 8, 8, 8, 8, 8]⟩ : ByteArray) (IntKind.u8.wrap x)))))) (.fail))))
def vg : FnM := flM (Int) (Int) (fun p => ([.int .u64 p], [])) (fun p => Mt p) (fun r => .int .i64 r) (fun _ => rfl)
def Vd : Env := envM [] [] [] [] [] 0
theorem Qq : aI Tryz.prog 130 vg.c := vg.tells Tryz.func130 (show ∀ p, arun Vd Tryz.f130 (vg.enc p).1 (vg.enc p).2 = _ from fun p => by kernel_rfl) p8 .nil
def Qp (x : Int) : Option (Int) := vg.val x
theorem ae3 (x : Int) : Qp x = (Mt x).get := vg.val_eq (fun x => intA (gd x.1 0)) (fun p => by kernel_rfl) x
def Qr (x : Int) : DT (Int) :=
 .bind (Qp x) fun z0 =>
 .leaf z0
def w9 : FnM := flM (Int) (Int) (fun p => ([.int .u64 p], [])) (fun p => Qr p) (fun r => .int .i64 r) (fun _ => rfl)
def Ye : Env := envM [(130, vg.c)] [] [] [] [] 0
theorem Ve : aI Tryz.prog 89 w9.c := w9.tells Tryz.func89 (show ∀ p, arun Ye Tryz.f89 (w9.enc p).1 (w9.enc p).2 = _ from fun p => by kernel_rfl) p8 (.cons Qq .nil)
def WE (x : Int) : Option (Int) := w9.val x
theorem agn (x : Int) : WE x = (Qr x).get := w9.val_eq (fun x => intA (gd x.1 0)) (fun p => by kernel_rfl) x
def aaG (x : Int) : DT (Bool) :=
 .leaf (x != x)
def Em : FnM := flM (Int) (Bool) (fun p => ([.int .i64 p], [])) (fun p => aaG p) (fun r => .bool r) (fun _ => rfl)
def ac5 : Env := envM [] [] [] [] [] 0
theorem aaH : aI Tryz.prog 161 Em.c := Em.tells Tryz.func161 (show ∀ p, arun ac5 Tryz.f161 (Em.enc p).1 (Em.enc p).2 = _ from fun p => by kernel_rfl) p8 .nil
def aaF (x : Int) : Option (Bool) := Em.val x
theorem ait (x : Int) : aaF x = (aaG x).get := Em.val_eq (fun x => intA (gd x.1 0)) (fun p => by kernel_rfl) x
def acz (x y : Int) : DT (Bool) :=
 .bind (aaF x) fun z0 =>
 .ite z0 (
 .bind (aaF y) fun z1 =>
 .ite (!z1) (.leaf true) (.leaf (decide (x < y)))) (
 .leaf (decide (x < y)))
def F9 : FnM := flM (Int × Int) (Bool) (fun p => ([.int .i64 p.1, .int .i64 p.2], [])) (fun p => acz p.1 p.2) (fun r => .bool r) (fun _ => rfl)
def adP : Env := envM [(161, Em.c)] [] [] [] [] 0
theorem abS : aI Tryz.prog 126 F9.c := F9.tells Tryz.func126 (show ∀ p, arun adP Tryz.f126 (F9.enc p).1 (F9.enc p).2 = _ from fun p => by kernel_rfl) p8 (.cons aaH .nil)
def aeY (x y : Int) : Option (Bool) := F9.val (x, y)
theorem aiE (x y : Int) : aeY x y = (acz x y).get := F9.val_eq (fun x => (intA (gd x.1 0), intA (gd x.1 1))) (fun p => by kernel_rfl) (x, y)
def xS (u4_0 _u4_1 _u4_2 : Int) (u4_3 : Sq Int) (u4_4 : Int) : DT (LR ((Sq Int) × Int) ((Sq Int)) (Unit)) :=
 .ite (decide (u4_4 > u4_0)) (
 .ite (decide ((0 : Int) ≤ u4_4 ∧ u4_4 < ((u4_3.n : Nat) : Int))) (
 .ite (decide ((0 : Int) ≤ (wr (u4_4 - (1 : Int))) ∧ (wr (u4_4 - (1 : Int))) < ((u4_3.n : Nat) : Int))) (
 .bind (aeY (u4_3.f (Int.toNat u4_4)) (u4_3.f (Int.toNat (wr (u4_4 - (1 : Int)))))) fun z0 =>
 .ite z0 (
 .ite (decide ((0 : Int) ≤ (wr (u4_4 - (1 : Int))) ∧ (wr (u4_4 - (1 : Int))) < ((u4_3.n : Nat) : Int))) (
 .ite (decide ((0 : Int) ≤ u4_4 ∧ u4_4 < ((u4_3.n : Nat) : Int))) (
 .ite (decide ((0 : Int) ≤ u4_4 ∧ u4_4 < ((u4_3.n : Nat) : Int))) (
 .ite (decide ((0 : Int) ≤ (wr (u4_4 - (1 : Int))) ∧ (wr (u4_4 - (1 : Int))) < ((u4_3.n : Nat) : Int))) (
 .leaf (.next ((Sq.mk u4_3.n (fun k0 => (cond (Nat.beq k0 (Int.toNat (wr (u4_4 - (1 : Int))))) (u4_3.f (Int.toNat u4_4)) (cond (Nat.beq k0 (Int.toNat u4_4)) (u4_3.f (Int.toNat (wr (u4_4 - (1 : Int))))) (u4_3.f k0))))), (wr (u4_4 - (1 : Int)))))) (
 .fail)) (
 .fail)) (
 .fail)) (
 .fail)) (
 .leaf (.l u4_3))) (
 .fail)) (
 .fail)) (
 .leaf (.l u4_3))
def rA : LpM := ⟨Int × Int × Int, (Sq Int) × Int, (Sq Int), Unit, fun p => ⟨[(0, .own 0 0), (1, .int .i64 p.1.1), (2, .int .i64 p.1.2.1), (6, .int .i64 p.1.2.2), (7, .int .i64 p.2.2)], [(0, rowA 0 1 3 (eI .i64) p.2.1)], 513⟩, fun f v => xS f.1 f.2.1 f.2.2 v.1 v.2, true, (.exit 2), (fun x a => ⟨[(0, .own 0 0), (1, aget x.tm 1), (2, aget x.tm 2), (6, aget x.tm 6)], [(0, rowA 0 1 3 (eI .i64) a)], 513⟩), .ret, (fun _ _ => ⟨[], [], 0⟩), c1, c1k⟩
def zW (u4_0 u4_1 u4_2 : Int) (u4_3 : Sq Int) (u4_4 : Int) : Option (((Sq Int)) ⊕ (Unit)) := rA.val ((u4_0, u4_1, u4_2), (u4_3, u4_4))
theorem XO (u4_0 u4_1 u4_2 : Int) (u4_3 : Sq Int) (u4_4 : Int) : zW u4_0 u4_1 u4_2 u4_3 u4_4 = fixO (fun v : (Sq Int) × Int => xS u4_0 u4_1 u4_2 v.1 v.2) (u4_3, u4_4) := rA.val_eq (fun x => ((intA (aget x.tm 1), intA (aget x.tm 2), intA (aget x.tm 6)), (sqB dI (blkS x 0), intA (aget x.tm 7)))) (fun p => by kernel_rfl) ((u4_0, u4_1, u4_2), (u4_3, u4_4))
def xL (u1_0 u1_1 u1_2 : Int) (u1_3 : Sq Int) : DT (LR (Int × (Sq Int)) ((Sq Int)) (Unit)) :=
 .ite (decide (u1_2 < u1_1)) (
 .sum (zW u1_0 u1_1 u1_2 u1_3 u1_2) (fun y0 =>
 .leaf (.next ((wr (u1_2 + (1 : Int))), y0))) (fun _ => .fail)) (
 .leaf (.l u1_3))
def rz : LpM := ⟨Int × Int, Int × (Sq Int), (Sq Int), Unit, fun p => ⟨[(0, .own 0 0), (1, .int .i64 p.1.1), (2, .int .i64 p.1.2), (6, .int .i64 p.2.1)], [(0, rowA 0 1 3 (eI .i64) p.2.2)], 193⟩, fun f v => xL f.1 f.2 v.1 v.2, true, (.exit 0), (fun _ a => ⟨[], [(0, rowA 0 1 3 (eI .i64) a)], 193⟩), .ret, (fun _ _ => ⟨[], [], 0⟩), c1, c1k⟩
def zV (u1_0 u1_1 u1_2 : Int) (u1_3 : Sq Int) : Option (((Sq Int)) ⊕ (Unit)) := rz.val ((u1_0, u1_1), (u1_2, u1_3))
theorem XM (u1_0 u1_1 u1_2 : Int) (u1_3 : Sq Int) : zV u1_0 u1_1 u1_2 u1_3 = fixO (fun v : Int × (Sq Int) => xL u1_0 u1_1 v.1 v.2) (u1_2, u1_3) := rz.val_eq (fun x => ((intA (aget x.tm 1), intA (aget x.tm 2)), (intA (aget x.tm 6), sqB dI (blkS x 0)))) (fun p => by kernel_rfl) ((u1_0, u1_1), (u1_2, u1_3))
def BH (data : Sq Int) (a b : Int) : DT ((Sq Int)) :=
 .sum (zV a b (wr (a + (1 : Int))) data) (fun y1 =>
 .leaf y1) (fun _ => .fail)
def qO : FnM := nfM ((Sq Int) × Int × Int) ((Sq Int)) (fun p => ([.own 0 0, .int .i64 p.2.1, .int .i64 p.2.2], [rowA 0 1 3 (eI .i64) p.1])) (fun p => BH p.1 p.2.1 p.2.2) (fun _ => .tup []) (fun _ r => [rowA 0 1 3 (eI .i64) r])
def zK : Env := envM [(126, F9.c)] [(4, [0, 1, 2, 6, 7], [0, 1, 2, 6]), (1, [0, 1, 2, 6], [])] [(4, rA.c), (1, rz.c)] [] [(4, [0]), (1, [0])] 1
def BG : Env := { zK with nt := 49 }
theorem Eh : aQ BG (qd 4 Tryz.f120) rA.c := rA.tells 513 (fun _ => by kernel_rfl) (fun _ _ _ _ => by kernel_rfl) (fun _ _ _ _ => by kernel_rfl) fun R f v N K => by kernel_rfl
theorem Ef : aQ BG (qd 1 Tryz.f120) rz.c := rz.tells 193 (fun _ => by kernel_rfl) (fun _ _ _ _ => by kernel_rfl) (fun _ _ _ _ => by kernel_rfl) fun R f v N K => by kernel_rfl
theorem Fy : aI Tryz.prog 120 qO.c := qO.tells Tryz.func120 (show ∀ p, arun zK Tryz.f120 (qO.enc p).1 (qO.enc p).2 = _ from fun p => by kernel_rfl) (qg [qd 1 Tryz.f120, qd 4 Tryz.f120] (by kernel_rfl) ⟨lpT (by kernel_rfl) Ef, ⟨lpT (by kernel_rfl) Eh, trivial⟩⟩) (.cons abS .nil)
def Dh (data : Sq Int) (a b : Int) : Option ((Sq Int)) := qO.val (data, a, b)
theorem ZF (data : Sq Int) (a b : Int) : Dh data a b = (BH data a b).get := qO.val_eq (fun x => (sqB dI (dB x.2 0), intA (gd x.1 1), intA (gd x.1 2))) (fun p => by kernel_rfl) (data, a, b)
def BI (u2_0 u2_1 u2_2 : Int) (u2_3 : Sq Int) : DT (LR (Unit) ((Sq Int)) (Unit)) :=
 .ite (decide ((wr (u2_1 - u2_0)) ≤ (12 : Int))) (
 .bind (Dh u2_3 u2_0 u2_1) fun z0 =>
 .leaf (.l z0)) (
 .ite (u2_2 == (0 : Int)) (.fail) (.fail))
def tF : LpM := ⟨Int × Int × Int × (Sq Int), Unit, (Sq Int), Unit, fun p => ⟨[(0, .own 0 0), (1, .int .i64 p.1.1), (2, .int .i64 p.1.2.1), (3, .int .i64 p.1.2.2.1), (8, .bool true), (9, .bool true)], [(0, rowA 0 1 3 (eI .i64) p.1.2.2.2)], 129⟩, fun f _ => BI f.1 f.2.1 f.2.2.1 f.2.2.2, true, .ret, (fun _ a => ⟨[], [(0, rowA 0 1 3 (eI .i64) a)], 129⟩), .ret, (fun _ _ => ⟨[], [], 0⟩), c1, c1k⟩
def EN (u2_0 u2_1 u2_2 : Int) (u2_3 : Sq Int) : Option (((Sq Int)) ⊕ (Unit)) := tF.val ((u2_0, u2_1, u2_2, u2_3), ())
theorem abD (u2_0 u2_1 u2_2 : Int) (u2_3 : Sq Int) : EN u2_0 u2_1 u2_2 u2_3 = fixO (fun _ : Unit => BI u2_0 u2_1 u2_2 u2_3) () := tF.val_eq (fun x => ((intA (aget x.tm 1), intA (aget x.tm 2), intA (aget x.tm 3), sqB dI (blkS x 0)), ())) (fun p => by kernel_rfl) ((u2_0, u2_1, u2_2, u2_3), ())
def Fz (data : Sq Int) (a b limit : Int) : DT ((Sq Int)) :=
 .sum (EN a b limit data) (fun y0 =>
 .leaf y0) (fun _ => .fail)
def rM : FnM := nfM ((Sq Int) × Int × Int × Int) ((Sq Int)) (fun p => ([.own 0 0, .int .i64 p.2.1, .int .i64 p.2.2.1, .int .i64 p.2.2.2], [rowA 0 1 3 (eI .i64) p.1])) (fun p => Fz p.1 p.2.1 p.2.2.1 p.2.2.2) (fun _ => .tup []) (fun _ r => [rowA 0 1 3 (eI .i64) r])
def Ei : Env := envM [(120, qO.c)] [(2, [0, 1, 2, 3, 8, 9], []), (2000120, [], [])] [(2, tF.c)] [] [(2, [0])] 1
def NM : Env := { Ei with nt := 134 }
theorem Hq : aQ NM (qd 2 Tryz.f88) tF.c := tF.tells 129 (fun _ => by kernel_rfl) (fun _ _ _ _ => by kernel_rfl) (fun _ _ _ _ => by kernel_rfl) fun R f v N K => by kernel_rfl
theorem Ka : aI Tryz.prog 88 rM.c := rM.tells Tryz.func88 (show ∀ p, arun Ei Tryz.f88 (rM.enc p).1 (rM.enc p).2 = _ from fun p => by kernel_rfl) (qg [qd 2 Tryz.f88] (by kernel_rfl) ⟨lpT (by kernel_rfl) Hq, trivial⟩) (.cons Fy .nil)
def Ho (data : Sq Int) (a b limit : Int) : Option ((Sq Int)) := rM.val (data, a, b, limit)
theorem acW (data : Sq Int) (a b limit : Int) : Ho data a b limit = (Fz data a b limit).get := rM.val_eq (fun x => (sqB dI (dB x.2 0), intA (gd x.1 1), intA (gd x.1 2), intA (gd x.1 3))) (fun p => by kernel_rfl) (data, a, b, limit)
def XL (x : Sq Int) : DT ((Sq Int)) :=
 .bind (WE (IntKind.u64.wrap ((x.n : Nat) : Int))) fun z0 =>
 .bind (Ho x (0 : Int) ((x.n : Nat) : Int) z0) fun z1 =>
 .leaf z1
def wH : FnM := nfM ((Sq Int)) ((Sq Int)) (fun p => ([.own 0 0], [rowA 0 1 3 (eI .i64) p])) (fun p => XL p) (fun _ => .tup []) (fun _ r => [rowA 0 1 3 (eI .i64) r])
def abC : Env := envM [(89, w9.c), (88, rM.c)] [(2000088, [], [])] [] [] [] 1
theorem Gp : aI Tryz.prog 55 wH.c := wH.tells Tryz.func55 (show ∀ p, arun abC Tryz.f55 (wH.enc p).1 (wH.enc p).2 = _ from fun p => by kernel_rfl) p8 (.cons Ve (.cons Ka .nil))
def NK (x : Sq Int) : Option ((Sq Int)) := wH.val x
theorem ahQ (x : Sq Int) : NK x = (XL x).get := wH.val_eq (fun x => sqB dI (dB x.2 0)) (fun p => by kernel_rfl) x
def Mw (u7_2 : Sq qA) (u7_3 : Sq qC) (u7_5 : Sq Int) (u7_7 : Int) (u7_1 : Sq Bool) (u7_4 : Sq Int) (u7_6 : Int) : DT (LR ((Sq Bool) × (Sq Int) × Int) ((Sq Bool) × (Sq Int)) (Unit)) :=
 .ite (decide (u7_6 < ((u7_5.n : Nat) : Int))) (
 .ite (decide ((0 : Int) ≤ u7_6 ∧ u7_6 < ((u7_5.n : Nat) : Int))) (
 .ite (decide ((0 : Int) ≤ u7_7 ∧ u7_7 < ((u7_4.n : Nat) : Int))) (
 .bind (Yh (qI.mk u7_2 u7_3) (u7_5.f (Int.toNat u7_6)) (u7_4.f (Int.toNat u7_7))) fun z0 =>
 .ite (decide ((0 : Int) ≤ (u7_5.f (Int.toNat u7_6)) ∧ (u7_5.f (Int.toNat u7_6)) < ((u7_3.n : Nat) : Int))) (
 .ite (!(u7_3.f (Int.toNat (u7_5.f (Int.toNat u7_6)))).Closed) (
 .ite (decide ((0 : Int) ≤ z0 ∧ z0 < ((u7_1.n : Nat) : Int))) (
 .ite (!(u7_1.f (Int.toNat z0))) (
 .ite (decide ((0 : Int) ≤ z0 ∧ z0 < ((u7_1.n : Nat) : Int))) (
 .ite (decide ((u7_4.n + 1) * 8 ≤ 140737488355328 ∧ (u7_4.n + 1) ≤ 1099511627776)) (
 .leaf (.next ((Sq.mk u7_1.n (fun k0 => (cond (Nat.beq k0 (Int.toNat z0)) true (u7_1.f k0)))), (Sq.mk (u7_4.n + 1) (fun k1 => (cond (Nat.blt k1 u7_4.n) (u7_4.f k1) z0))), (wr (u7_6 + (1 : Int)))))) (
 .fail)) (
 .fail)) (
 .leaf (.next (u7_1, u7_4, (wr (u7_6 + (1 : Int))))))) (
 .fail)) (
 .leaf (.next (u7_1, u7_4, (wr (u7_6 + (1 : Int))))))) (
 .fail)) (
 .fail)) (
 .fail)) (
 .leaf (.l (u7_1, u7_4)))
def D6 : LpM := ⟨(Sq qA) × (Sq qC) × (Sq Int) × Int, (Sq Bool) × (Sq Int) × Int, (Sq Bool) × (Sq Int), Unit, fun p => ⟨[(2, .own 0 0), (3, .ptr 1 0), (7, .own 193 0), (8, .int .i64 p.1.2.2.2), (28, .own 1217 0), (29, .int .i64 ((p.1.2.2.1.n : Nat) : Int)), (30, .int .i64 p.2.2.2)], [(0, rowA 0 1 4 eO p.2.1), (1, .var [sqA 2 qA.enc p.1.1, sqA 10 qC.enc p.1.2.1]), (193, rowA 0 1 3 (eI .i64) p.2.2.1), (1217, rowA 0 1 3 (eI .i64) p.1.2.2.1)], 1409⟩, fun f v => Mw f.1 f.2.1 f.2.2.1 f.2.2.2 v.1 v.2.1 v.2.2, true, (.exit 2), (fun x a => ⟨[(2, .own 0 0), (3, .ptr 1 0), (7, .own 193 0), (8, aget x.tm 8)], [(0, rowA 0 1 4 eO a.1), (1, blkS x 1), (193, rowA 0 1 3 (eI .i64) a.2), (1217, blkS x 1217)], 1409⟩), .ret, (fun _ _ => ⟨[], [], 0⟩), c1, c1k⟩
def Zc (u7_2 : Sq qA) (u7_3 : Sq qC) (u7_5 : Sq Int) (u7_7 : Int) (u7_1 : Sq Bool) (u7_4 : Sq Int) (u7_6 : Int) : Option (((Sq Bool) × (Sq Int)) ⊕ (Unit)) := D6.val ((u7_2, u7_3, u7_5, u7_7), (u7_1, u7_4, u7_6))
theorem ag1 (u7_2 : Sq qA) (u7_3 : Sq qC) (u7_5 : Sq Int) (u7_7 : Int) (u7_1 : Sq Bool) (u7_4 : Sq Int) (u7_6 : Int) : Zc u7_2 u7_3 u7_5 u7_7 u7_1 u7_4 u7_6 = fixO (fun v : (Sq Bool) × (Sq Int) × Int => Mw u7_2 u7_3 u7_5 u7_7 v.1 v.2.1 v.2.2) (u7_1, u7_4, u7_6) := D6.val_eq (fun x => ((sqD qA.dec (cellS x 1 0), sqD qC.dec (cellS x 1 1), sqB dI (blkS x 1217), intA (aget x.tm 8)), (sqB dO (blkS x 0), sqB dI (blkS x 193), intA (aget x.tm 30)))) (fun p => by kernel_rfl) ((u7_2, u7_3, u7_5, u7_7), (u7_1, u7_4, u7_6))
def Mv (u4_1 : Sq qA) (u4_2 : Sq qC) (u4_0 : Sq Bool) (u4_3 : Sq Int) (u4_4 : Int) : DT (LR ((Sq Bool) × (Sq Int) × Int) ((Sq Bool) × (Sq Int)) (Unit)) :=
 .ite (decide (u4_4 < ((u4_3.n : Nat) : Int))) (
 .ite (decide ((0 : Int) ≤ u4_4 ∧ u4_4 < ((u4_3.n : Nat) : Int))) (
 .bind (Yi (qI.mk u4_1 u4_2) (u4_3.f (Int.toNat u4_4))) fun z1 =>
 .sum (Zc u4_1 u4_2 z1 u4_4 u4_0 u4_3 (0 : Int)) (fun y0 =>
 .leaf (.next (y0.1, y0.2, (wr (u4_4 + (1 : Int)))))) (fun _ => .fail)) (
 .fail)) (
 .leaf (.l (u4_0, u4_3)))
def D5 : LpM := ⟨(Sq qA) × (Sq qC), (Sq Bool) × (Sq Int) × Int, (Sq Bool) × (Sq Int), Unit, fun p => ⟨[(2, .own 0 0), (3, .ptr 1 0), (7, .own 193 0), (8, .int .i64 p.2.2.2)], [(0, rowA 0 1 4 eO p.2.1), (1, .var [sqA 2 qA.enc p.1.1, sqA 10 qC.enc p.1.2]), (193, rowA 0 1 3 (eI .i64) p.2.2.1)], 641⟩, fun f v => Mv f.1 f.2 v.1 v.2.1 v.2.2, true, (.exit 0), (fun x a => ⟨[(7, .own 193 0)], [(0, rowA 0 1 4 eO a.1), (1, blkS x 1), (193, rowA 0 1 3 (eI .i64) a.2)], 641⟩), .ret, (fun _ _ => ⟨[], [], 0⟩), c1, c1k⟩
def Zb (u4_1 : Sq qA) (u4_2 : Sq qC) (u4_0 : Sq Bool) (u4_3 : Sq Int) (u4_4 : Int) : Option (((Sq Bool) × (Sq Int)) ⊕ (Unit)) := D5.val ((u4_1, u4_2), (u4_0, u4_3, u4_4))
theorem ag0 (u4_1 : Sq qA) (u4_2 : Sq qC) (u4_0 : Sq Bool) (u4_3 : Sq Int) (u4_4 : Int) : Zb u4_1 u4_2 u4_0 u4_3 u4_4 = fixO (fun v : (Sq Bool) × (Sq Int) × Int => Mv u4_1 u4_2 v.1 v.2.1 v.2.2) (u4_0, u4_3, u4_4) := D5.val_eq (fun x => ((sqD qA.dec (cellS x 1 0), sqD qC.dec (cellS x 1 1)), (sqB dO (blkS x 0), sqB dI (blkS x 193), intA (aget x.tm 8)))) (fun p => by kernel_rfl) ((u4_1, u4_2), (u4_0, u4_3, u4_4))
def aa3 (m : qI) (first : Int) (seen : Sq Bool) : DT ((Sq Int) × (Sq Bool)) :=
 .ite (decide ((0 : Int) ≤ first ∧ first < ((seen.n : Nat) : Int))) (
 .sum (Zb m.Places m.Roads (Sq.mk seen.n (fun k2 => (cond (Nat.beq k2 (Int.toNat first)) true (seen.f k2)))) (Sq.mk 1 (fun _ => first)) (0 : Int)) (fun y1 =>
 .bind (NK y1.2) fun z2 =>
 .leaf (z2, y1.1)) (fun _ => .fail)) (
 .fail)
def Er : FnM := nfM (qI × Int × (Sq Bool)) ((Sq Int) × (Sq Bool)) (fun p => ([.agg (qI.enc p.1), .int .i64 p.2.1, .own 0 0], [rowA 0 1 4 eO p.2.2])) (fun p => aa3 p.1 p.2.1 p.2.2) (fun _ => .own 1 0) (fun _ r => [rowA 0 1 4 eO r.2, rowA 0 1 3 (eI .i64) r.1])
def WO : Env := envM [(171, zO.c), (172, zN.c), (55, wH.c)] [(7, [2, 3, 7, 8, 28, 29, 30], [2, 3, 7, 8]), (4, [2, 3, 7, 8], [7]), (2000055, [], [])] [(7, D6.c), (4, D5.c)] [] [(7, [0, 1, 193, 1217]), (4, [0, 1, 193])] 1
def aa2 : Env := { WO with nt := 66 }
theorem WR : aQ aa2 (qd 7 Tryz.f147) D6.c := D6.tells 1409 (fun _ => by kernel_rfl) (fun _ _ _ _ => by kernel_rfl) (fun _ _ _ _ => by kernel_rfl) fun R f v N K => by kernel_rfl
theorem WQ : aQ aa2 (qd 4 Tryz.f147) D5.c := D5.tells 641 (fun _ => by kernel_rfl) (fun _ _ _ _ => by kernel_rfl) (fun _ _ _ _ => by kernel_rfl) fun R f v N K => by kernel_rfl
theorem aa4 : aI Tryz.prog 147 Er.c := Er.tells Tryz.func147 (show ∀ p, arun WO Tryz.f147 (Er.enc p).1 (Er.enc p).2 = _ from fun p => by kernel_rfl) (qg [qd 4 Tryz.f147, qd 7 Tryz.f147] (by kernel_rfl) ⟨lpT (by kernel_rfl) WQ, ⟨lpT (by kernel_rfl) WR, trivial⟩⟩) (.cons Ox (.cons Ow (.cons Gp .nil)))
def ad1 (m : qI) (first : Int) (seen : Sq Bool) : Option ((Sq Int) × (Sq Bool)) := Er.val (m, first, seen)
theorem aiz (m : qI) (first : Int) (seen : Sq Bool) : ad1 m first seen = (aa3 m first seen).get := Er.val_eq (fun x => (qI.dec (aggL (gd x.1 0)), intA (gd x.1 1), sqB dO (dB x.2 0))) (fun p => by kernel_rfl) (m, first, seen)
def KN (u6_1 : Sq qA) (u6_2 : Sq qC) (u6_3 : (Sq (Sq Int))) (u6_4 : Sq Bool) (u6_5 : Int) : DT (LR ((Sq (Sq Int)) × (Sq Bool) × Int) ((Sq (Sq Int)) × (Sq Bool)) (Unit)) :=
 .ite (decide (u6_5 < ((u6_1.n : Nat) : Int))) (
 .ite (decide ((0 : Int) ≤ u6_5 ∧ u6_5 < ((u6_4.n : Nat) : Int))) (
 .ite (!(u6_4.f (Int.toNat u6_5))) (
 .bind (ad1 (qI.mk u6_1 u6_2) u6_5 u6_4) fun z0 =>
 .ite (decide ((u6_3.n + 1) * 24 ≤ 140737488355328 ∧ (u6_3.n + 1) ≤ 1099511627776)) (
 .leaf (.next ((Sq.mk (u6_3.n + 1) (fun k0 => (Sq.mk (cond (Nat.blt k0 u6_3.n) (u6_3.f k0).n z0.1.n) (fun k1 => (cond (Nat.blt k0 u6_3.n) ((u6_3.f k0).f k1) (z0.1.f k1)))))), z0.2, (wr (u6_5 + (1 : Int)))))) (
 .fail)) (
 .leaf (.next (u6_3, u6_4, (wr (u6_5 + (1 : Int))))))) (
 .fail)) (
 .leaf (.l (u6_3, u6_4)))
def Ct : LpM := ⟨(Sq qA) × (Sq qC), (Sq (Sq Int)) × (Sq Bool) × Int, (Sq (Sq Int)) × (Sq Bool), Unit, fun p => ⟨[(1, .ptr 0 0), (3, .own 384 0), (4, .own 640 0), (15, .int .i64 ((p.1.1.n : Nat) : Int)), (16, .int .i64 p.2.2.2)], [(0, .var [sqA 2 qA.enc p.1.1, sqA 10 qC.enc p.1.2]), (384, rowA 0 1 23 (eQ 1 (eI .i64)) p.2.1), (640, rowA 0 1 4 eO p.2.2.1)], 1024⟩, fun f v => KN f.1 f.2 v.1 v.2.1 v.2.2, true, (.exit 0), (fun x a => ⟨[(3, .own 384 0)], [(0, blkS x 0), (384, rowA 0 1 23 (eQ 1 (eI .i64)) a.1), (640, rowA 0 1 4 eO a.2)], 1024⟩), .ret, (fun _ _ => ⟨[], [], 0⟩), c1, c1k⟩
def WJ (u6_1 : Sq qA) (u6_2 : Sq qC) (u6_3 : (Sq (Sq Int))) (u6_4 : Sq Bool) (u6_5 : Int) : Option (((Sq (Sq Int)) × (Sq Bool)) ⊕ (Unit)) := Ct.val ((u6_1, u6_2), (u6_3, u6_4, u6_5))
theorem agr (u6_1 : Sq qA) (u6_2 : Sq qC) (u6_3 : (Sq (Sq Int))) (u6_4 : Sq Bool) (u6_5 : Int) : WJ u6_1 u6_2 u6_3 u6_4 u6_5 = fixO (fun v : (Sq (Sq Int)) × (Sq Bool) × Int => KN u6_1 u6_2 v.1 v.2.1 v.2.2) (u6_3, u6_4, u6_5) := Ct.val_eq (fun x => ((sqD qA.dec (cellS x 0 0), sqD qC.dec (cellS x 0 1)), (sqB (dQ dI) (blkS x 384), sqB dO (blkS x 640), intA (aget x.tm 16)))) (fun p => by kernel_rfl) ((u6_1, u6_2), (u6_3, u6_4, u6_5))
def Y7 (m : qI) : DT ((Sq (Sq Int))) :=
 .bind (acJ m) fun z1 =>
 .ite (!z1) (
 .leaf (Sq.mk 0 (fun _ => (Sq.mk 0 (fun _ => (0 : Int)))))) (
 .ite (decide ((0 : Int) ≤ ((m.Places.n : Nat) : Int) ∧ ((m.Places.n : Nat) : Int) ≤ ((m.Places.n : Nat) : Int) ∧ ((m.Places.n : Nat) : Int) * ((1 : Nat) : Int) ≤ 140737488355328 ∧ ((m.Places.n : Nat) : Int) ≤ 1099511627776)) (
 .sum (WJ m.Places m.Roads (Sq.mk 0 (fun _ => (Sq.mk 0 (fun _ => (0 : Int))))) (Sq.mk (Int.toNat ((m.Places.n : Nat) : Int)) (fun _ => false)) (0 : Int)) (fun y0 =>
 .leaf y0.1) (fun _ => .fail)) (
 .fail))
def Cu : FnM := nfM (qI) ((Sq (Sq Int))) (fun p => ([.agg (qI.enc p)], [])) (fun p => Y7 p) (fun _ => .own 0 0) (fun _ r => [rowA 0 1 23 (eQ 1 (eI .i64)) r])
def TM : Env := envM [(146, Cw.c), (147, Er.c)] [(6, [1, 3, 4, 15, 16], [3]), (2000147, [], [])] [(6, Ct.c)] [(1000006, [.asrow 384 23 1 (fun _ => (eQ 1 (eI .i64)) (Sq.mk 0 (fun _ => (0 : Int))))]), (2000000, [.asrow 320 23 1 (fun _ => (eQ 1 (eI .i64)) (Sq.mk 0 (fun _ => (0 : Int))))])] [(6, [0, 384, 640])] 0
def adY : Env := { TM with nt := 33 }
theorem Vh : aQ adY (qd 6 Tryz.f109) Ct.c := Ct.tells 1024 (fun _ => by kernel_rfl) (fun _ _ _ _ => by kernel_rfl) (fun _ _ _ _ => by kernel_rfl) fun R f v N K => by kernel_rfl
theorem ZX : aI Tryz.prog 109 Cu.c := Cu.tells Tryz.func109 (show ∀ p, arun TM Tryz.f109 (Cu.enc p).1 (Cu.enc p).2 = _ from fun p => by kernel_rfl) (qg [qd 6 Tryz.f109] (by kernel_rfl) ⟨lpT (by kernel_rfl) Vh, trivial⟩) (.cons ZY (.cons aa4 .nil))
def acI (m : qI) : Option ((Sq (Sq Int))) := Cu.val m
theorem ah2 (m : qI) : acI m = (Y7 m).get := Cu.val_eq (fun x => qI.dec (aggL (gd x.1 0))) (fun p => by kernel_rfl) m
def Qs (place : Int) (x : qI) : DT (Bool) :=
 .ite (decide ((0 : Int) ≤ place ∧ place < ((x.Places.n : Nat) : Int))) (.leaf (x.Places.f (Int.toNat place)).Surface) (.fail)
def xg : FnM := nfM (Int × qI) (Bool) (fun p => ([.int .i64 p.1, .ptr 0 0], [.var (qI.enc p.2)])) (fun p => Qs p.1 p.2) (fun r => .bool r) (fun ins _ => [dB ins 0])
def Yg : Env := envM [] [] [] [] [] 1
theorem Vg : aI Tryz.prog 108 xg.c := xg.tells Tryz.func108 (show ∀ p, arun Yg Tryz.f108 (xg.enc p).1 (xg.enc p).2 = _ from fun p => by kernel_rfl) p8 .nil
def WH (place : Int) (x : qI) : Option (Bool) := xg.val (place, x)
theorem agq (place : Int) (x : qI) : WH place x = (Qs place x).get := xg.val_eq (fun x => (intA (gd x.1 0), qI.dec (varL (dB x.2 0)))) (fun p => by kernel_rfl) (place, x)
def BQ (u2_0 : Sq Int) (u2_2 : Sq qA) (u2_3 : Sq qC) (u2_4 : Int) : DT (LR (Int) (Unit) (Int)) :=
 .ite (decide (u2_4 < ((u2_0.n : Nat) : Int))) (
 .ite (decide ((0 : Int) ≤ u2_4 ∧ u2_4 < ((u2_0.n : Nat) : Int))) (
 .bind (WH (u2_0.f (Int.toNat u2_4)) (qI.mk u2_2 u2_3)) fun z0 =>
 .ite z0 (
 .leaf (.r u2_4)) (
 .leaf (.next (wr (u2_4 + (1 : Int)))))) (
 .fail)) (
 .leaf (.l ()))
def tQ : LpM := ⟨(Sq Int) × (Sq qA) × (Sq qC), Int, Unit, Int, fun p => ⟨[(0, sqA 1 (eI .i64) p.1.1), (1, .fn 108 [.ptr 0 0]), (7, .int .i64 ((p.1.1.n : Nat) : Int)), (8, .int .i64 p.2)], [(0, .var [sqA 2 qA.enc p.1.2.1, sqA 10 qC.enc p.1.2.2])], 257⟩, fun f v => BQ f.1 f.2.1 f.2.2 v, false, (.exit 0), (fun x _ => ⟨[(4, .undef)], [(0, blkS x 0)], 257⟩), .ret, (fun x a => ⟨[(4, .int .i64 a)], [(0, blkS x 0)], 257⟩), c1, c1k⟩
def Fv (u2_0 : Sq Int) (u2_2 : Sq qA) (u2_3 : Sq qC) (u2_4 : Int) : Option ((Unit) ⊕ (Int)) := tQ.val ((u2_0, u2_2, u2_3), u2_4)
theorem abM (u2_0 : Sq Int) (u2_2 : Sq qA) (u2_3 : Sq qC) (u2_4 : Int) : Fv u2_0 u2_2 u2_3 u2_4 = fixO (fun v : Int => BQ u2_0 u2_2 u2_3 v) u2_4 := tQ.val_eq (fun x => ((sqD dI (aget x.tm 0), sqD qA.dec (cellS x 0 0), sqD qC.dec (cellS x 0 1)), intA (aget x.tm 8))) (fun p => by kernel_rfl) ((u2_0, u2_2, u2_3), u2_4)
def FZ (s : Sq Int) (y0 : qI) : DT (Int) :=
 .sum (Fv s y0.Places y0.Roads (0 : Int)) (fun _ =>
 .leaf (-1 : Int)) (fun y1 => .leaf y1)
def rZ : FnM := nfM ((Sq Int) × qI) (Int) (fun p => ([sqA 1 (eI .i64) p.1, .fn 108 [.ptr 0 0]], [.var (qI.enc p.2)])) (fun p => FZ p.1 p.2) (fun r => .int .i64 r) (fun ins _ => [dB ins 0])
def EK : Env := envM [(108, xg.c)] [(2, [0, 1, 7, 8], [4])] [(2, tQ.c)] [] [(2, [0])] 1
def Pj : Env := { EK with nt := 19 }
theorem Hy : aQ Pj (qd 2 Tryz.f144) tQ.c := tQ.tells 257 (fun _ => by kernel_rfl) (fun _ _ _ _ => by kernel_rfl) (fun _ _ _ _ => by kernel_rfl) fun R f v N K => by kernel_rfl
theorem Kl : aI Tryz.prog 144 rZ.c := rZ.tells Tryz.func144 (show ∀ p, arun EK Tryz.f144 (rZ.enc p).1 (rZ.enc p).2 = _ from fun p => by kernel_rfl) (qg [qd 2 Tryz.f144] (by kernel_rfl) ⟨lpT (by kernel_rfl) Hy, trivial⟩) (.cons Vg .nil)
def IC (s : Sq Int) (y0 : qI) : Option (Int) := rZ.val (s, y0)
theorem ads (s : Sq Int) (y0 : qI) : IC s y0 = (FZ s y0).get := rZ.val_eq (fun x => (sqD dI (gd x.1 0), qI.dec (varL (dB x.2 0)))) (fun p => by kernel_rfl) (s, y0)
def Eb (s : Sq Int) (y0 : qI) : DT (Bool) :=
 .bind (IC s y0) fun z0 =>
 .leaf (decide (z0 ≥ (0 : Int)))
def q9 : FnM := nfM ((Sq Int) × qI) (Bool) (fun p => ([sqA 1 (eI .i64) p.1, .fn 108 [.ptr 0 0]], [.var (qI.enc p.2)])) (fun p => Eb p.1 p.2) (fun r => .bool r) (fun ins _ => [dB ins 0])
def J7 : Env := envM [(144, rZ.c)] [] [] [] [] 1
theorem Hu : aI Tryz.prog 105 q9.c := q9.tells Tryz.func105 (show ∀ p, arun J7 Tryz.f105 (q9.enc p).1 (q9.enc p).2 = _ from fun p => by kernel_rfl) p8 (.cons Kl .nil)
def Fu (s : Sq Int) (y0 : qI) : Option (Bool) := q9.val (s, y0)
theorem abK (s : Sq Int) (y0 : qI) : Fu s y0 = (Eb s y0).get := q9.val_eq (fun x => (sqD dI (gd x.1 0), qI.dec (varL (dB x.2 0)))) (fun p => by kernel_rfl) (s, y0)
def JA (u4_1 : Sq qA) (u4_2 : Sq qC) (u4_4 : (Sq (Sq Int))) (u4_3 : Sq Int) (u4_5 : Int) : DT (LR ((Sq Int) × Int) ((Sq Int)) (Unit)) :=
 .ite (decide (u4_5 < ((u4_4.n : Nat) : Int))) (
 .ite (decide ((0 : Int) ≤ u4_5 ∧ u4_5 < ((u4_4.n : Nat) : Int))) (
 .bind (Fu (u4_4.f (Int.toNat u4_5)) (qI.mk u4_1 u4_2)) fun z0 =>
 .ite (!z0) (
 .ite (decide ((u4_3.n + (u4_4.f (Int.toNat u4_5)).n) * 8 ≤ 140737488355328 ∧ (u4_3.n + (u4_4.f (Int.toNat u4_5)).n) ≤ 1099511627776)) (
 .leaf (.next ((Sq.mk (u4_3.n + (u4_4.f (Int.toNat u4_5)).n) (fun k0 => (cond (Nat.blt k0 u4_3.n) (u4_3.f k0) ((u4_4.f (Int.toNat u4_5)).f (k0 - u4_3.n))))), (wr (u4_5 + (1 : Int)))))) (
 .fail)) (
 .leaf (.next (u4_3, (wr (u4_5 + (1 : Int))))))) (
 .fail)) (
 .leaf (.l u4_3))
def Bd : LpM := ⟨(Sq qA) × (Sq qC) × (Sq (Sq Int)), (Sq Int) × Int, (Sq Int), Unit, fun p => ⟨[(3, .own 128 0), (4, .fn 108 [.ptr 0 0]), (9, .own 384 0), (10, .int .i64 ((p.1.2.2.n : Nat) : Int)), (11, .int .i64 p.2.2)], [(0, .var [sqA 2 qA.enc p.1.1, sqA 10 qC.enc p.1.2.1]), (128, rowA 0 1 3 (eI .i64) p.2.1), (384, rowA 0 1 23 (eQ 1 (eI .i64)) p.1.2.2)], 576⟩, fun f v => JA f.1 f.2.1 f.2.2 v.1 v.2, true, (.exit 0), (fun x a => ⟨[(3, .own 128 0)], [(0, blkS x 0), (128, rowA 0 1 3 (eI .i64) a), (384, blkS x 384)], 576⟩), .ret, (fun _ _ => ⟨[], [], 0⟩), c1, c1k⟩
def TJ (u4_1 : Sq qA) (u4_2 : Sq qC) (u4_4 : (Sq (Sq Int))) (u4_3 : Sq Int) (u4_5 : Int) : Option (((Sq Int)) ⊕ (Unit)) := Bd.val ((u4_1, u4_2, u4_4), (u4_3, u4_5))
theorem afF (u4_1 : Sq qA) (u4_2 : Sq qC) (u4_4 : (Sq (Sq Int))) (u4_3 : Sq Int) (u4_5 : Int) : TJ u4_1 u4_2 u4_4 u4_3 u4_5 = fixO (fun v : (Sq Int) × Int => JA u4_1 u4_2 u4_4 v.1 v.2) (u4_3, u4_5) := Bd.val_eq (fun x => ((sqD qA.dec (cellS x 0 0), sqD qC.dec (cellS x 0 1), sqB (dQ dI) (blkS x 384)), (sqB dI (blkS x 128), intA (aget x.tm 11)))) (fun p => by kernel_rfl) ((u4_1, u4_2, u4_4), (u4_3, u4_5))
def WI (m : qI) : DT ((Sq Int)) :=
 .bind (acI m) fun z1 =>
 .sum (TJ m.Places m.Roads z1 (Sq.mk 0 (fun _ => (0 : Int))) (0 : Int)) (fun y0 =>
 .bind (NK y0) fun z2 =>
 .leaf z2) (fun _ => .fail)
def wD : FnM := nfM (qI) ((Sq Int)) (fun p => ([.agg (qI.enc p)], [])) (fun p => WI p) (fun _ => .own 0 0) (fun _ r => [rowA 0 1 3 (eI .i64) r])
def Qt : Env := envM [(109, Cu.c), (105, q9.c), (55, wH.c)] [(4, [3, 4, 9, 10, 11], [3]), (2000055, [], [])] [(4, Bd.c)] [(1000004, [.asrow 128 3 1 (fun _ => (eI .i64) (0 : Int))])] [(4, [0, 128, 384])] 0
def ade : Env := { Qt with nt := 26 }
theorem R6 : aQ ade (qd 4 Tryz.f72) Bd.c := Bd.tells 576 (fun _ => by kernel_rfl) (fun _ _ _ _ => by kernel_rfl) (fun _ _ _ _ => by kernel_rfl) fun R f v N K => by kernel_rfl
theorem Ga : aI Tryz.prog 72 wD.c := wD.tells Tryz.func72 (show ∀ p, arun Qt Tryz.f72 (wD.enc p).1 (wD.enc p).2 = _ from fun p => by kernel_rfl) (qg [qd 4 Tryz.f72] (by kernel_rfl) ⟨lpT (by kernel_rfl) R6, trivial⟩) (.cons ZX (.cons Hu (.cons Gp .nil)))
def Nu (m : qI) : Option ((Sq Int)) := wD.val m
theorem ahr (m : qI) : Nu m = (WI m).get := wD.val_eq (fun x => qI.dec (aggL (gd x.1 0))) (fun p => by kernel_rfl) m
def MX (s : Sq Int) (v : Int) : DT (Bool) :=
 .bind (slices_Index s v) fun z0 =>
 .leaf (decide (z0 ≥ (0 : Int)))
def rT : FnM := flM ((Sq Int) × Int) (Bool) (fun p => ([sqA 1 (eI .i64) p.1, .int .i64 p.2], [])) (fun p => MX p.1 p.2) (fun r => .bool r) (fun _ => rfl)
def VB : Env := envM [(110, wM.c)] [] [] [] [] 0
theorem yJ : aI Tryz.prog 73 rT.c := rT.tells Tryz.func73 (show ∀ p, arun VB Tryz.f73 (rT.enc p).1 (rT.enc p).2 = _ from fun p => by kernel_rfl) p8 (.cons K9 .nil)
def slices_Contains (s : Sq Int) (v : Int) : Option (Bool) := rT.val (s, v)
theorem afj (s : Sq Int) (v : Int) : slices_Contains s v = (MX s v).get := rT.val_eq (fun x => (sqD dI (gd x.1 0), intA (gd x.1 1))) (fun p => by kernel_rfl) (s, v)
def KS (u4_0 u4_1 : Sq Int) (u4_2 : Int) : DT (LR (Int) (Unit) (Unit)) :=
 .ite (decide (u4_2 < ((u4_0.n : Nat) : Int))) (
 .ite (decide ((0 : Int) ≤ u4_2 ∧ u4_2 < ((u4_0.n : Nat) : Int))) (
 .ite (decide ((0 : Int) ≤ u4_2 ∧ u4_2 < ((u4_1.n : Nat) : Int))) (
 .ite ((u4_0.f (Int.toNat u4_2)) != (u4_1.f (Int.toNat u4_2))) (
 .leaf (.r ())) (
 .leaf (.next (wr (u4_2 + (1 : Int)))))) (
 .fail)) (
 .fail)) (
 .leaf (.l ()))
def CG : LpM := ⟨(Sq Int) × (Sq Int), Int, Unit, Unit, fun p => ⟨[(0, sqA 1 (eI .i64) p.1.1), (1, sqA 1 (eI .i64) p.1.2), (5, .int .i64 p.2)], [], 512⟩, fun f v => KS f.1 f.2 v, false, (.exit 0), (fun _ _ => ⟨[(4, .undef)], [], 512⟩), .ret, (fun _ _ => ⟨[(4, .bool false)], [], 512⟩), c1, c1k⟩
def WY (u4_0 u4_1 : Sq Int) (u4_2 : Int) : Option ((Unit) ⊕ (Unit)) := CG.val ((u4_0, u4_1), u4_2)
theorem agw (u4_0 u4_1 : Sq Int) (u4_2 : Int) : WY u4_0 u4_1 u4_2 = fixO (fun v : Int => KS u4_0 u4_1 v) u4_2 := CG.val_eq (fun x => ((sqD dI (aget x.tm 0), sqD dI (aget x.tm 1)), intA (aget x.tm 5))) (fun p => by kernel_rfl) ((u4_0, u4_1), u4_2)
def Zh (a b : Sq Int) : DT (Bool) :=
 .ite (((a.n : Nat) : Int) != ((b.n : Nat) : Int)) (
 .leaf false) (
 .sum (WY a b (0 : Int)) (fun _ =>
 .leaf true) (fun _ => .leaf false))
def wI : FnM := flM ((Sq Int) × (Sq Int)) (Bool) (fun p => ([sqA 1 (eI .i64) p.1, sqA 1 (eI .i64) p.2], [])) (fun p => Zh p.1 p.2) (fun r => .bool r) (fun _ => rfl)
def TV : Env := envM [] [(4, [0, 1, 5], [4])] [(4, CG.c)] [] [(4, [])] 0
def ad3 : Env := { TV with nt := 26 }
theorem Vm : aQ ad3 (qd 4 Tryz.f19) CG.c := CG.tells 512 (fun _ => by kernel_rfl) (fun _ _ _ _ => by kernel_rfl) (fun _ _ _ _ => by kernel_rfl) fun R f v N K => by kernel_rfl
theorem Ej : aI Tryz.prog 19 wI.c := wI.tells Tryz.func19 (show ∀ p, arun TV Tryz.f19 (wI.enc p).1 (wI.enc p).2 = _ from fun p => by kernel_rfl) (qg [qd 4 Tryz.f19] (by kernel_rfl) ⟨lpT (by kernel_rfl) Vm, trivial⟩) .nil
def Gc (a b : Sq Int) : Option (Bool) := wI.val (a, b)
theorem ah8 (a b : Sq Int) : Gc a b = (Zh a b).get := wI.val_eq (fun x => (sqD dI (gd x.1 0), sqD dI (gd x.1 1))) (fun p => by kernel_rfl) (a, b)
end
end Go.Proofs.YtimkpfnbkclclaaGreat.Ab
