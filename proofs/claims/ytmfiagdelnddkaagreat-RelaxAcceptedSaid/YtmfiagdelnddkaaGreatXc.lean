/- Mirrors of code, stage 12. -/
import Derived.Test.YtmfiagdelnddkaaGreatXb
namespace Go.Proofs.YtmfiagdelnddkaaGreat.Ab
noncomputable section
open Go
attribute [local irreducible] arun
def yG (n low high : Int) : DT (Bool) :=
 .ite (decide (low ≤ n)) (.leaf (decide (n ≤ high))) (.leaf false)
def kS : FnM := flM (Int × Int × Int) (Bool) (fun p => ([.int .i64 p.1, .int .i64 p.2.1, .int .i64 p.2.2], [])) (fun p => yG p.1 p.2.1 p.2.2) (fun r => .bool r) (fun _ => rfl)
def RN : Env := envM [] [] [] [] [] 0
theorem OA : aN Tryz.prog 68 kS.c := kS.tells Tryz.func68 (show ∀ p, arun RN Tryz.f68 (kS.enc p).1 (kS.enc p).2 = _ from fun p => by kernel_rfl) aP .nil
def yj (n low high : Int) : Option (Bool) := kS.val (n, low, high)
theorem GZ (n low high : Int) : yj n low high = (yG n low high).get := kS.val_eq (fun x => (intA (gd x.1 0), intA (gd x.1 1), intA (gd x.1 2))) (fun p => by kernel_rfl) (n, low, high)
def jw (u4_0 : Sq Int) (u4_2 : Int) : DT (LR (Int) (Unit) (Unit)) :=
 .ite (decide (u4_2 < ((u4_0.n : Nat) : Int))) (
 .ite (decide ((0 : Int) ≤ u4_2 ∧ u4_2 < ((u4_0.n : Nat) : Int))) (
 .bind (yj (u4_0.f (Int.toNat u4_2)) (-70368744177664 : Int) (70368744177664 : Int)) fun z0 =>
 .ite (!z0) (
 .leaf (.r ())) (
 .leaf (.next (wr (u4_2 + (1 : Int)))))) (
 .fail)) (
 .leaf (.l ()))
def mP : LpM := ⟨(Sq Int), Int, Unit, Unit, fun p => ⟨[(32, sqA 1 (eI .i64) p.1), (33, .int .i64 ((p.1.n : Nat) : Int)), (34, .int .i64 p.2)], [], 1792⟩, fun f v => jw f v, false, (.exit 0), (fun _ _ => ⟨[(8, .undef)], [], 1792⟩), .ret, (fun _ _ => ⟨[(8, .bool false)], [], 1792⟩), c1, c1k⟩
def Ap (u4_0 : Sq Int) (u4_2 : Int) : Option ((Unit) ⊕ (Unit)) := mP.val (u4_0, u4_2)
theorem Oz (u4_0 : Sq Int) (u4_2 : Int) : Ap u4_0 u4_2 = fixO (fun v : Int => jw u4_0 v) u4_2 := mP.val_eq (fun x => (sqD dI (aget x.tm 32), intA (aget x.tm 34))) (fun p => by kernel_rfl) (u4_0, u4_2)
def BH (a : SAir) (s : au) (pressures : Sq Int) (place : Int) : DT (Bool) :=
 .bind (Br a s) fun z1 =>
 .ite (!z1) (
 .leaf false) (
 .ite (((pressures.n : Nat) : Int) != ((a.Mine.Places.n : Nat) : Int)) (
 .leaf false) (
 .bind (yj place (0 : Int) (wr (((pressures.n : Nat) : Int) - (1 : Int)))) fun z2 =>
 .ite (!z2) (
 .leaf false) (
 .sum (Ap pressures (0 : Int)) (fun _ =>
 .leaf true) (fun _ => .leaf false))))
def gX : FnM := flM (SAir × au × (Sq Int) × Int) (Bool) (fun p => ([.agg (SAir.enc p.1), .agg (au.enc p.2.1), sqA 1 (eI .i64) p.2.2.1, .int .i64 p.2.2.2], [])) (fun p => BH p.1 p.2.1 p.2.2.1 p.2.2.2) (fun r => .bool r) (fun _ => rfl)
def E9 : Env := envM [(39, jX.c), (68, kS.c)] [(4, [32, 33, 34], [8])] [(4, mP.c)] [] [(4, [])] 0
def Wx : Env := { E9 with nt := 42 }
theorem IG : aG Wx (aH 4 Tryz.f44) mP.c := mP.tells 1792 (fun _ => by kernel_rfl) (fun _ _ _ _ => by kernel_rfl) (fun _ _ _ _ => by kernel_rfl) fun R f v N K => by kernel_rfl
theorem xK : aN Tryz.prog 44 gX.c := gX.tells Tryz.func44 (show ∀ p, arun E9 Tryz.f44 (gX.enc p).1 (gX.enc p).2 = _ from fun p => by kernel_rfl) (bf [aH 4 Tryz.f44] (by kernel_rfl) ⟨lpT (by kernel_rfl) IG, trivial⟩) (.cons zF (.cons OA .nil))
def uJ (a : SAir) (s : au) (pressures : Sq Int) (place : Int) : Option (Bool) := gX.val (a, s, pressures, place)
theorem Um (a : SAir) (s : au) (pressures : Sq Int) (place : Int) : uJ a s pressures place = (BH a s pressures place).get := gX.val_eq (fun x => (SAir.dec (aggL (gd x.1 0)), au.dec (aggL (gd x.1 1)), sqD dI (gd x.1 2), intA (gd x.1 3))) (fun p => by kernel_rfl) (a, s, pressures, place)
def vo (u3_0 : Int) (u3_1 : Sq aB) (u3_3 : Sq Int) (u3_4 : Int) : DT (LR ((Sq Int) × Int) ((Sq Int)) (Unit)) :=
 .ite (decide (u3_4 < ((u3_1.n : Nat) : Int))) (
 .ite (decide ((0 : Int) ≤ u3_4 ∧ u3_4 < ((u3_1.n : Nat) : Int))) (
 .ite ((u3_1.f (Int.toNat u3_4)).From == u3_0) (
 .ite (decide ((u3_3.n + 1) * 8 ≤ 140737488355328 ∧ (u3_3.n + 1) ≤ 1099511627776)) (
 .leaf (.next ((Sq.mk (u3_3.n + 1) (fun k0 => (cond (Nat.blt k0 u3_3.n) (u3_3.f k0) u3_4))), (wr (u3_4 + (1 : Int)))))) (
 .fail)) (
 .ite ((u3_1.f (Int.toNat u3_4)).To == u3_0) (
 .ite (decide ((u3_3.n + 1) * 8 ≤ 140737488355328 ∧ (u3_3.n + 1) ≤ 1099511627776)) (
 .leaf (.next ((Sq.mk (u3_3.n + 1) (fun k1 => (cond (Nat.blt k1 u3_3.n) (u3_3.f k1) u3_4))), (wr (u3_4 + (1 : Int)))))) (
 .fail)) (
 .leaf (.next (u3_3, (wr (u3_4 + (1 : Int)))))))) (
 .fail)) (
 .leaf (.l u3_3))
def vV : LpM := ⟨Int × (Sq aB), (Sq Int) × Int, (Sq Int), Unit, fun p => ⟨[(1, .int .i64 p.1.1), (5, .own 128 0), (9, sqA 10 aB.enc p.1.2), (10, .int .i64 ((p.1.2.n : Nat) : Int)), (11, .int .i64 p.2.2)], [(128, rowA 0 1 3 (eI .i64) p.2.1)], 448⟩, fun f v => vo f.1 f.2 v.1 v.2, true, (.exit 0), (fun _ a => ⟨[(5, .own 128 0)], [(128, rowA 0 1 3 (eI .i64) a)], 448⟩), .ret, (fun _ _ => ⟨[], [], 0⟩), c1, c1k⟩
def SN (u3_0 : Int) (u3_1 : Sq aB) (u3_3 : Sq Int) (u3_4 : Int) : Option (((Sq Int)) ⊕ (Unit)) := vV.val ((u3_0, u3_1), (u3_3, u3_4))
theorem Xc (u3_0 : Int) (u3_1 : Sq aB) (u3_3 : Sq Int) (u3_4 : Int) : SN u3_0 u3_1 u3_3 u3_4 = fixO (fun v : (Sq Int) × Int => vo u3_0 u3_1 v.1 v.2) (u3_3, u3_4) := vV.val_eq (fun x => ((intA (aget x.tm 1), sqD aB.dec (aget x.tm 9)), (sqB dI (blkS x 128), intA (aget x.tm 11)))) (fun p => by kernel_rfl) ((u3_0, u3_1), (u3_3, u3_4))
def MF (m : aL) (place : Int) : DT ((Sq Int)) :=
 .sum (SN place m.Roads (Sq.mk 0 (fun _ => (0 : Int))) (0 : Int)) (fun y0 =>
 .leaf y0) (fun _ => .fail)
def rD : FnM := nfM (aL × Int) ((Sq Int)) (fun p => ([.agg (aL.enc p.1), .int .i64 p.2], [])) (fun p => MF p.1 p.2) (fun _ => .own 0 0) (fun _ r => [rowA 0 1 3 (eI .i64) r])
def PS : Env := envM [] [(3, [1, 5, 9, 10, 11], [5])] [(3, vV.c)] [(1000003, [.asrow 128 3 1 (fun _ => (eI .i64) (0 : Int))])] [(3, [128])] 0
def ady : Env := { PS with nt := 32 }
theorem Q0 : aG ady (aH 3 Tryz.f69) vV.c := vV.tells 448 (fun _ => by kernel_rfl) (fun _ _ _ _ => by kernel_rfl) (fun _ _ _ _ => by kernel_rfl) fun R f v N K => by kernel_rfl
theorem KE : aN Tryz.prog 69 rD.c := rD.tells Tryz.func69 (show ∀ p, arun PS Tryz.f69 (rD.enc p).1 (rD.enc p).2 = _ from fun p => by kernel_rfl) (bf [aH 3 Tryz.f69] (by kernel_rfl) ⟨lpT (by kernel_rfl) Q0, trivial⟩) .nil
def Oa (m : aL) (place : Int) : Option ((Sq Int)) := rD.val (m, place)
theorem abR (m : aL) (place : Int) : Oa m place = (MF m place).get := rD.val_eq (fun x => (aL.dec (aggL (gd x.1 0)), intA (gd x.1 1))) (fun p => by kernel_rfl) (m, place)
def gq (u2_0 : Sq Int) (u2_1 u2_3 : Int) : DT (LR (Int) (Unit) (Int)) :=
 .ite (decide (u2_3 < ((u2_0.n : Nat) : Int))) (
 .ite (decide ((0 : Int) ≤ u2_3 ∧ u2_3 < ((u2_0.n : Nat) : Int))) (
 .ite (u2_1 == (u2_0.f (Int.toNat u2_3))) (
 .leaf (.r u2_3)) (
 .leaf (.next (wr (u2_3 + (1 : Int)))))) (
 .fail)) (
 .leaf (.l ()))
def q8 : LpM := ⟨(Sq Int) × Int, Int, Unit, Int, fun p => ⟨[(0, sqA 1 (eI .i64) p.1.1), (1, .int .i64 p.1.2), (7, .int .i64 ((p.1.1.n : Nat) : Int)), (8, .int .i64 p.2)], [], 256⟩, fun f v => gq f.1 f.2 v, false, (.exit 0), (fun _ _ => ⟨[(4, .undef)], [], 256⟩), .ret, (fun _ a => ⟨[(4, .int .i64 a)], [], 256⟩), c1, c1k⟩
def Ez (u2_0 : Sq Int) (u2_1 u2_3 : Int) : Option ((Unit) ⊕ (Int)) := q8.val ((u2_0, u2_1), u2_3)
theorem Ac (u2_0 : Sq Int) (u2_1 u2_3 : Int) : Ez u2_0 u2_1 u2_3 = fixO (fun v : Int => gq u2_0 u2_1 v) u2_3 := q8.val_eq (fun x => ((sqD dI (aget x.tm 0), intA (aget x.tm 1)), intA (aget x.tm 8))) (fun p => by kernel_rfl) ((u2_0, u2_1), u2_3)
def yB (s : Sq Int) (v : Int) : DT (Int) :=
 .sum (Ez s v (0 : Int)) (fun _ =>
 .leaf (-1 : Int)) (fun y0 => .leaf y0)
def mG : FnM := flM ((Sq Int) × Int) (Int) (fun p => ([sqA 1 (eI .i64) p.1, .int .i64 p.2], [])) (fun p => yB p.1 p.2) (fun r => .int .i64 r) (fun _ => rfl)
def KR : Env := envM [] [(2, [0, 1, 7, 8], [4])] [(2, q8.c)] [] [(2, [])] 0
def aaF : Env := { KR with nt := 19 }
theorem NK : aG aaF (aH 2 Tryz.f70) q8.c := q8.tells 256 (fun _ => by kernel_rfl) (fun _ _ _ _ => by kernel_rfl) (fun _ _ _ _ => by kernel_rfl) fun R f v N K => by kernel_rfl
theorem FD : aN Tryz.prog 70 mG.c := mG.tells Tryz.func70 (show ∀ p, arun KR Tryz.f70 (mG.enc p).1 (mG.enc p).2 = _ from fun p => by kernel_rfl) (bf [aH 2 Tryz.f70] (by kernel_rfl) ⟨lpT (by kernel_rfl) NK, trivial⟩) .nil
def slices_Index (s : Sq Int) (v : Int) : Option (Int) := mG.val (s, v)
theorem Ey (s : Sq Int) (v : Int) : slices_Index s v = (yB s v).get := mG.val_eq (fun x => (sqD dI (gd x.1 0), intA (gd x.1 1))) (fun p => by kernel_rfl) (s, v)
def jv (_u5_1 : Sq ay) (u5_2 : Sq aB) (_u5_3 : Sq SFan) (_u5_4 : Sq aC) (_u5_5 _u5_6 _u5_8 : Sq Int) (_u5_9 : Int) (u5_10 : Sq Int) (u5_7 : Sq aB) (u5_11 : Int) : DT (LR ((Sq aB) × Int) ((Sq aB)) (Unit)) :=
 .ite (decide (u5_11 < ((u5_10.n : Nat) : Int))) (
 .ite (decide ((0 : Int) ≤ u5_11 ∧ u5_11 < ((u5_10.n : Nat) : Int))) (
 .ite (decide ((0 : Int) ≤ (u5_10.f (Int.toNat u5_11)) ∧ (u5_10.f (Int.toNat u5_11)) < ((u5_2.n : Nat) : Int))) (
 .ite (decide ((u5_7.n + 1) * 72 ≤ 140737488355328 ∧ (u5_7.n + 1) ≤ 1099511627776)) (
 .leaf (.next ((Sq.mk (u5_7.n + 1) (fun k0 => (aB.mk (cond (Nat.blt k0 u5_7.n) (u5_7.f k0).From (u5_2.f (Int.toNat (u5_10.f (Int.toNat u5_11)))).From) (cond (Nat.blt k0 u5_7.n) (u5_7.f k0).To (u5_2.f (Int.toNat (u5_10.f (Int.toNat u5_11)))).To) (cond (Nat.blt k0 u5_7.n) (u5_7.f k0).Length (u5_2.f (Int.toNat (u5_10.f (Int.toNat u5_11)))).Length) (cond (Nat.blt k0 u5_7.n) (u5_7.f k0).Area (u5_2.f (Int.toNat (u5_10.f (Int.toNat u5_11)))).Area) (cond (Nat.blt k0 u5_7.n) (u5_7.f k0).Walk (u5_2.f (Int.toNat (u5_10.f (Int.toNat u5_11)))).Walk) (cond (Nat.blt k0 u5_7.n) (u5_7.f k0).Closed (u5_2.f (Int.toNat (u5_10.f (Int.toNat u5_11)))).Closed) (aK.mk (cond (Nat.blt k0 u5_7.n) (u5_7.f k0).Rest.Low (u5_2.f (Int.toNat (u5_10.f (Int.toNat u5_11)))).Rest.Low) (cond (Nat.blt k0 u5_7.n) (u5_7.f k0).Rest.High (u5_2.f (Int.toNat (u5_10.f (Int.toNat u5_11)))).Rest.High)) (aK.mk (cond (Nat.blt k0 u5_7.n) (u5_7.f k0).Lift.Low (u5_2.f (Int.toNat (u5_10.f (Int.toNat u5_11)))).Lift.Low) (cond (Nat.blt k0 u5_7.n) (u5_7.f k0).Lift.High (u5_2.f (Int.toNat (u5_10.f (Int.toNat u5_11)))).Lift.High))))), (wr (u5_11 + (1 : Int)))))) (
 .fail)) (
 .fail)) (
 .fail)) (
 .leaf (.l u5_7))
def iX : LpM := ⟨(Sq ay) × (Sq aB) × (Sq SFan) × (Sq aC) × (Sq Int) × (Sq Int) × (Sq Int) × Int × (Sq Int), (Sq aB) × Int, (Sq aB), Unit, fun p => ⟨[(4, .ptr 0 0), (5, .ptr 64 0), (9, .ptr 384 0), (10, .own 1280 0), (33, .own 1280 0), (34, .int .i64 ((p.1.2.2.2.2.2.2.2.2.n : Nat) : Int)), (35, .int .i64 p.2.2)], [(0, .var [sqA 2 ay.enc p.1.1, sqA 10 aB.enc p.1.2.1, sqA 4 SFan.enc p.1.2.2.1, sqA 3 aC.enc p.1.2.2.2.1]), (64, .var [sqA 1 (eI .i64) p.1.2.2.2.2.1, sqA 1 (eI .i64) p.1.2.2.2.2.2.1]), (321, rowA 0 10 70 aB.enc p.2.1), (322, .nilrow 0), (323, .nilrow 0), (324, .nilrow 0), (325, .nilrow 0), (384, .var [sqA 2 ay.enc p.1.1, .own 321 0, .own 322 0, .own 323 0, .own 324 0, .own 325 0, sqA 1 (eI .i64) p.1.2.2.2.2.2.2.1, .int .i64 p.1.2.2.2.2.2.2.2.1]), (1280, rowA 0 1 3 (eI .i64) p.1.2.2.2.2.2.2.2.2)], 1600⟩, fun f v => jv f.1 f.2.1 f.2.2.1 f.2.2.2.1 f.2.2.2.2.1 f.2.2.2.2.2.1 f.2.2.2.2.2.2.1 f.2.2.2.2.2.2.2.1 f.2.2.2.2.2.2.2.2 v.1 v.2, true, (.exit 0), (fun x a => ⟨[(4, .ptr 0 0), (5, .ptr 64 0), (9, .ptr 384 0), (10, .own 1280 0)], [(0, blkS x 0), (64, blkS x 64), (321, rowA 0 10 70 aB.enc a), (322, .nilrow 0), (323, .nilrow 0), (324, .nilrow 0), (325, .nilrow 0), (384, blkS x 384), (1280, blkS x 1280)], 1600⟩), .ret, (fun _ _ => ⟨[], [], 0⟩), c1, c1k⟩
def vN (u5_1 : Sq ay) (u5_2 : Sq aB) (u5_3 : Sq SFan) (u5_4 : Sq aC) (u5_5 u5_6 u5_8 : Sq Int) (u5_9 : Int) (u5_10 : Sq Int) (u5_7 : Sq aB) (u5_11 : Int) : Option (((Sq aB)) ⊕ (Unit)) := iX.val ((u5_1, u5_2, u5_3, u5_4, u5_5, u5_6, u5_8, u5_9, u5_10), (u5_7, u5_11))
theorem GV (u5_1 : Sq ay) (u5_2 : Sq aB) (u5_3 : Sq SFan) (u5_4 : Sq aC) (u5_5 u5_6 u5_8 : Sq Int) (u5_9 : Int) (u5_10 : Sq Int) (u5_7 : Sq aB) (u5_11 : Int) : vN u5_1 u5_2 u5_3 u5_4 u5_5 u5_6 u5_8 u5_9 u5_10 u5_7 u5_11 = fixO (fun v : (Sq aB) × Int => jv u5_1 u5_2 u5_3 u5_4 u5_5 u5_6 u5_8 u5_9 u5_10 v.1 v.2) (u5_7, u5_11) := iX.val_eq (fun x => ((sqD ay.dec (cellS x 0 0), sqD aB.dec (cellS x 0 1), sqD SFan.dec (cellS x 0 2), sqD aC.dec (cellS x 0 3), sqD dI (cellS x 64 0), sqD dI (cellS x 64 1), sqD dI (cellS x 384 6), intA (cellS x 384 7), sqB dI (blkS x 1280)), (sqB aB.dec (blkS x 321), intA (aget x.tm 35)))) (fun p => by kernel_rfl) ((u5_1, u5_2, u5_3, u5_4, u5_5, u5_6, u5_8, u5_9, u5_10), (u5_7, u5_11))
def iV (u10_0 : Sq SFan) (_u10_2 : Sq ay) (_u10_3 : Sq aB) (_u10_4 : Sq aC) (u10_5 _u10_6 : Sq Int) (_u10_7 : Sq aB) (_u10_10 : Sq Int) (_u10_11 : Int) (u10_12 : Sq Int) (u10_8 : Sq SFan) (u10_9 : Sq Int) (u10_13 : Int) : DT (LR ((Sq SFan) × (Sq Int) × Int) ((Sq SFan) × (Sq Int)) (Unit)) :=
 .ite (decide (u10_13 < ((u10_0.n : Nat) : Int))) (
 .ite (decide ((0 : Int) ≤ u10_13 ∧ u10_13 < ((u10_0.n : Nat) : Int))) (
 .bind (slices_Index u10_12 (u10_0.f (Int.toNat u10_13)).Road) fun z0 =>
 .ite (decide (z0 ≥ (0 : Int))) (
 .ite (decide ((u10_8.n + 1) * 40 ≤ 140737488355328 ∧ (u10_8.n + 1) ≤ 1099511627776)) (
 .ite (decide ((0 : Int) ≤ u10_13 ∧ u10_13 < ((u10_5.n : Nat) : Int))) (
 .ite (decide ((u10_9.n + 1) * 8 ≤ 140737488355328 ∧ (u10_9.n + 1) ≤ 1099511627776)) (
 .leaf (.next ((Sq.mk (u10_8.n + 1) (fun k1 => (SFan.mk (cond (Nat.blt k1 u10_8.n) (u10_8.f k1).Road z0) (cond (Nat.blt k1 u10_8.n) (u10_8.f k1).Back (u10_0.f (Int.toNat u10_13)).Back) (cond (Nat.blt k1 u10_8.n) (u10_8.f k1).Auxiliary (u10_0.f (Int.toNat u10_13)).Auxiliary) (Sq.mk (cond (Nat.blt k1 u10_8.n) (u10_8.f k1).Curve.n (u10_0.f (Int.toNat u10_13)).Curve.n) (fun k2 => (aM.mk (cond (Nat.blt k1 u10_8.n) ((u10_8.f k1).Curve.f k2).Flow ((u10_0.f (Int.toNat u10_13)).Curve.f k2).Flow) (cond (Nat.blt k1 u10_8.n) ((u10_8.f k1).Curve.f k2).Pressure ((u10_0.f (Int.toNat u10_13)).Curve.f k2).Pressure))))))), (Sq.mk (u10_9.n + 1) (fun k3 => (cond (Nat.blt k3 u10_9.n) (u10_9.f k3) (u10_5.f (Int.toNat u10_13))))), (wr (u10_13 + (1 : Int)))))) (
 .fail)) (
 .fail)) (
 .fail)) (
 .leaf (.next (u10_8, u10_9, (wr (u10_13 + (1 : Int))))))) (
 .fail)) (
 .leaf (.l (u10_8, u10_9)))
def iG : LpM := ⟨(Sq SFan) × (Sq ay) × (Sq aB) × (Sq aC) × (Sq Int) × (Sq Int) × (Sq aB) × (Sq Int) × Int × (Sq Int), (Sq SFan) × (Sq Int) × Int, (Sq SFan) × (Sq Int), Unit, fun p => ⟨[(4, .ptr 0 0), (5, .ptr 64 0), (9, .ptr 384 0), (10, .own 1280 0), (60, sqA 4 SFan.enc p.1.1), (61, .int .i64 ((p.1.1.n : Nat) : Int)), (62, .int .i64 p.2.2.2)], [(0, .var [sqA 2 ay.enc p.1.2.1, sqA 10 aB.enc p.1.2.2.1, sqA 4 SFan.enc p.1.1, sqA 3 aC.enc p.1.2.2.2.1]), (64, .var [sqA 1 (eI .i64) p.1.2.2.2.2.1, sqA 1 (eI .i64) p.1.2.2.2.2.2.1]), (321, rowA 0 10 70 aB.enc p.1.2.2.2.2.2.2.1), (322, rowA 0 4 73 SFan.enc p.2.1), (323, .nilrow 0), (324, rowA 0 1 3 (eI .i64) p.2.2.1), (325, .nilrow 0), (384, .var [sqA 2 ay.enc p.1.2.1, .own 321 0, .own 322 0, .own 323 0, .own 324 0, .own 325 0, sqA 1 (eI .i64) p.1.2.2.2.2.2.2.2.1, .int .i64 p.1.2.2.2.2.2.2.2.2.1]), (1280, rowA 0 1 3 (eI .i64) p.1.2.2.2.2.2.2.2.2.2)], 1856⟩, fun f v => iV f.1 f.2.1 f.2.2.1 f.2.2.2.1 f.2.2.2.2.1 f.2.2.2.2.2.1 f.2.2.2.2.2.2.1 f.2.2.2.2.2.2.2.1 f.2.2.2.2.2.2.2.2.1 f.2.2.2.2.2.2.2.2.2 v.1 v.2.1 v.2.2, true, (.exit 2), (fun x a => ⟨[(4, .ptr 0 0), (5, .ptr 64 0), (9, .ptr 384 0), (10, .own 1280 0)], [(0, blkS x 0), (64, blkS x 64), (321, blkS x 321), (322, rowA 0 4 73 SFan.enc a.1), (323, .nilrow 0), (324, rowA 0 1 3 (eI .i64) a.2), (325, .nilrow 0), (384, blkS x 384), (1280, blkS x 1280)], 1856⟩), .ret, (fun _ _ => ⟨[], [], 0⟩), c1, c1k⟩
def uL (u10_0 : Sq SFan) (u10_2 : Sq ay) (u10_3 : Sq aB) (u10_4 : Sq aC) (u10_5 u10_6 : Sq Int) (u10_7 : Sq aB) (u10_10 : Sq Int) (u10_11 : Int) (u10_12 : Sq Int) (u10_8 : Sq SFan) (u10_9 : Sq Int) (u10_13 : Int) : Option (((Sq SFan) × (Sq Int)) ⊕ (Unit)) := iG.val ((u10_0, u10_2, u10_3, u10_4, u10_5, u10_6, u10_7, u10_10, u10_11, u10_12), (u10_8, u10_9, u10_13))
theorem FM (u10_0 : Sq SFan) (u10_2 : Sq ay) (u10_3 : Sq aB) (u10_4 : Sq aC) (u10_5 u10_6 : Sq Int) (u10_7 : Sq aB) (u10_10 : Sq Int) (u10_11 : Int) (u10_12 : Sq Int) (u10_8 : Sq SFan) (u10_9 : Sq Int) (u10_13 : Int) : uL u10_0 u10_2 u10_3 u10_4 u10_5 u10_6 u10_7 u10_10 u10_11 u10_12 u10_8 u10_9 u10_13 = fixO (fun v : (Sq SFan) × (Sq Int) × Int => iV u10_0 u10_2 u10_3 u10_4 u10_5 u10_6 u10_7 u10_10 u10_11 u10_12 v.1 v.2.1 v.2.2) (u10_8, u10_9, u10_13) := iG.val_eq (fun x => ((sqD SFan.dec (aget x.tm 60), sqD ay.dec (cellS x 0 0), sqD aB.dec (cellS x 0 1), sqD aC.dec (cellS x 0 3), sqD dI (cellS x 64 0), sqD dI (cellS x 64 1), sqB aB.dec (blkS x 321), sqD dI (cellS x 384 6), intA (cellS x 384 7), sqB dI (blkS x 1280)), (sqB SFan.dec (blkS x 322), sqB dI (blkS x 324), intA (aget x.tm 62)))) (fun p => by kernel_rfl) ((u10_0, u10_2, u10_3, u10_4, u10_5, u10_6, u10_7, u10_10, u10_11, u10_12), (u10_8, u10_9, u10_13))
def iW (u18_0 : Sq aC) (_u18_2 u18_3 : Sq Int) (_u18_4 : Sq aB) (_u18_5 : Sq SFan) (_u18_7 : Sq Int) (_u18_9 : Sq ay) (_u18_10 : Sq Int) (_u18_11 : Int) (u18_12 : Sq Int) (u18_6 : Sq aC) (u18_8 : Sq Int) (u18_13 : Int) : DT (LR ((Sq aC) × (Sq Int) × Int) ((Sq aC) × (Sq Int)) (Unit)) :=
 .ite (decide (u18_13 < ((u18_0.n : Nat) : Int))) (
 .ite (decide ((0 : Int) ≤ u18_13 ∧ u18_13 < ((u18_0.n : Nat) : Int))) (
 .bind (slices_Index u18_12 (u18_0.f (Int.toNat u18_13)).Road) fun z1 =>
 .ite (decide (z1 ≥ (0 : Int))) (
 .ite (decide ((u18_6.n + 1) * 40 ≤ 140737488355328 ∧ (u18_6.n + 1) ≤ 1099511627776)) (
 .ite (decide ((0 : Int) ≤ u18_13 ∧ u18_13 < ((u18_3.n : Nat) : Int))) (
 .ite (decide ((u18_8.n + 1) * 8 ≤ 140737488355328 ∧ (u18_8.n + 1) ≤ 1099511627776)) (
 .leaf (.next ((Sq.mk (u18_6.n + 1) (fun k4 => (aC.mk (cond (Nat.blt k4 u18_6.n) (u18_6.f k4).Road z1) (cond (Nat.blt k4 u18_6.n) (u18_6.f k4).Other (-1 : Int)) (Sq.mk (cond (Nat.blt k4 u18_6.n) (u18_6.f k4).Rests.n (u18_0.f (Int.toNat u18_13)).Rests.n) (fun k5 => (cond (Nat.blt k4 u18_6.n) ((u18_6.f k4).Rests.f k5) ((u18_0.f (Int.toNat u18_13)).Rests.f k5))))))), (Sq.mk (u18_8.n + 1) (fun k6 => (cond (Nat.blt k6 u18_8.n) (u18_8.f k6) (u18_3.f (Int.toNat u18_13))))), (wr (u18_13 + (1 : Int)))))) (
 .fail)) (
 .fail)) (
 .fail)) (
 .leaf (.next (u18_6, u18_8, (wr (u18_13 + (1 : Int))))))) (
 .fail)) (
 .leaf (.l (u18_6, u18_8)))
def iH : LpM := ⟨(Sq aC) × (Sq Int) × (Sq Int) × (Sq aB) × (Sq SFan) × (Sq Int) × (Sq ay) × (Sq Int) × Int × (Sq Int), (Sq aC) × (Sq Int) × Int, (Sq aC) × (Sq Int), Unit, fun p => ⟨[(5, .ptr 64 0), (9, .ptr 384 0), (10, .own 1280 0), (105, sqA 3 aC.enc p.1.1), (106, .int .i64 ((p.1.1.n : Nat) : Int)), (107, .int .i64 p.2.2.2)], [(64, .var [sqA 1 (eI .i64) p.1.2.1, sqA 1 (eI .i64) p.1.2.2.1]), (321, rowA 0 10 70 aB.enc p.1.2.2.2.1), (322, rowA 0 4 73 SFan.enc p.1.2.2.2.2.1), (323, rowA 0 3 91 aC.enc p.2.1), (324, rowA 0 1 3 (eI .i64) p.1.2.2.2.2.2.1), (325, rowA 0 1 3 (eI .i64) p.2.2.1), (384, .var [sqA 2 ay.enc p.1.2.2.2.2.2.2.1, .own 321 0, .own 322 0, .own 323 0, .own 324 0, .own 325 0, sqA 1 (eI .i64) p.1.2.2.2.2.2.2.2.1, .int .i64 p.1.2.2.2.2.2.2.2.2.1]), (1280, rowA 0 1 3 (eI .i64) p.1.2.2.2.2.2.2.2.2.2)], 2112⟩, fun f v => iW f.1 f.2.1 f.2.2.1 f.2.2.2.1 f.2.2.2.2.1 f.2.2.2.2.2.1 f.2.2.2.2.2.2.1 f.2.2.2.2.2.2.2.1 f.2.2.2.2.2.2.2.2.1 f.2.2.2.2.2.2.2.2.2 v.1 v.2.1 v.2.2, true, (.exit 4), (fun x a => ⟨[(9, .ptr 384 0)], [(64, blkS x 64), (321, blkS x 321), (322, blkS x 322), (323, rowA 0 3 91 aC.enc a.1), (324, blkS x 324), (325, rowA 0 1 3 (eI .i64) a.2), (384, blkS x 384), (1280, blkS x 1280)], 2112⟩), .ret, (fun _ _ => ⟨[], [], 0⟩), c1, c1k⟩
def uM (u18_0 : Sq aC) (u18_2 u18_3 : Sq Int) (u18_4 : Sq aB) (u18_5 : Sq SFan) (u18_7 : Sq Int) (u18_9 : Sq ay) (u18_10 : Sq Int) (u18_11 : Int) (u18_12 : Sq Int) (u18_6 : Sq aC) (u18_8 : Sq Int) (u18_13 : Int) : Option (((Sq aC) × (Sq Int)) ⊕ (Unit)) := iH.val ((u18_0, u18_2, u18_3, u18_4, u18_5, u18_7, u18_9, u18_10, u18_11, u18_12), (u18_6, u18_8, u18_13))
theorem FN (u18_0 : Sq aC) (u18_2 u18_3 : Sq Int) (u18_4 : Sq aB) (u18_5 : Sq SFan) (u18_7 : Sq Int) (u18_9 : Sq ay) (u18_10 : Sq Int) (u18_11 : Int) (u18_12 : Sq Int) (u18_6 : Sq aC) (u18_8 : Sq Int) (u18_13 : Int) : uM u18_0 u18_2 u18_3 u18_4 u18_5 u18_7 u18_9 u18_10 u18_11 u18_12 u18_6 u18_8 u18_13 = fixO (fun v : (Sq aC) × (Sq Int) × Int => iW u18_0 u18_2 u18_3 u18_4 u18_5 u18_7 u18_9 u18_10 u18_11 u18_12 v.1 v.2.1 v.2.2) (u18_6, u18_8, u18_13) := iH.val_eq (fun x => ((sqD aC.dec (aget x.tm 105), sqD dI (cellS x 64 0), sqD dI (cellS x 64 1), sqB aB.dec (blkS x 321), sqB SFan.dec (blkS x 322), sqB dI (blkS x 324), sqD ay.dec (cellS x 384 0), sqD dI (cellS x 384 6), intA (cellS x 384 7), sqB dI (blkS x 1280)), (sqB aC.dec (blkS x 323), sqB dI (blkS x 325), intA (aget x.tm 107)))) (fun p => by kernel_rfl) ((u18_0, u18_2, u18_3, u18_4, u18_5, u18_7, u18_9, u18_10, u18_11, u18_12), (u18_6, u18_8, u18_13))
def xH (a : SAir) (s : au) (pressures : Sq Int) (place : Int) : DT (aU) :=
 .bind (Oa a.Mine place) fun z2 =>
 .sum (vN a.Mine.Places a.Mine.Roads a.Fans a.Doors s.Fans s.Doors pressures place z2 (Sq.mk 0 (fun _ => (aB.mk (0 : Int) (0 : Int) (0 : Int) (0 : Int) false false (aK.mk (0 : Int) (0 : Int)) (aK.mk (0 : Int) (0 : Int))))) (0 : Int)) (fun y0 =>
 .sum (uL a.Fans a.Mine.Places a.Mine.Roads a.Doors s.Fans s.Doors y0 pressures place z2 (Sq.mk 0 (fun _ => (SFan.mk (0 : Int) false false (Sq.mk 0 (fun _ => (aM.mk (0 : Int) (0 : Int))))))) (Sq.mk 0 (fun _ => (0 : Int))) (0 : Int)) (fun y1 =>
 .sum (uM a.Doors s.Fans s.Doors y0 y1.1 y1.2 a.Mine.Places pressures place z2 (Sq.mk 0 (fun _ => (aC.mk (0 : Int) (0 : Int) (Sq.mk 0 (fun _ => (0 : Int)))))) (Sq.mk 0 (fun _ => (0 : Int))) (0 : Int)) (fun y2 =>
 .leaf (aU.mk (SAir.mk (aL.mk a.Mine.Places y0) y1.1 y2.1) (au.mk y1.2 y2.2) pressures place)) (fun _ => .fail)) (fun _ => .fail)) (fun _ => .fail)
def bV : FnM := nfM (SAir × au × (Sq Int) × Int) (aU) (fun p => ([.agg (SAir.enc p.1), .agg (au.enc p.2.1), sqA 1 (eI .i64) p.2.2.1, .int .i64 p.2.2.2], [])) (fun p => xH p.1 p.2.1 p.2.2.1 p.2.2.2) (fun _ => .ptr 0 0) (fun _ r => [.var [sqA 2 ay.enc r.air_.Mine.Places, .own 1 0, .own 2 0, .own 3 0, .own 4 0, .own 5 0, sqA 1 (eI .i64) r.pressures_, .int .i64 r.place_], rowA 0 10 70 aB.enc r.air_.Mine.Roads, rowA 0 4 73 SFan.enc r.air_.Fans, rowA 0 3 91 aC.enc r.air_.Doors, rowA 0 1 3 (eI .i64) r.setting_.Fans, rowA 0 1 3 (eI .i64) r.setting_.Doors])
def Ah : Env := envM [(69, rD.c), (70, mG.c)] [(5, [4, 5, 9, 10, 33, 34, 35], [4, 5, 9, 10]), (10, [4, 5, 9, 10, 60, 61, 62], [4, 5, 9, 10]), (18, [5, 9, 10, 105, 106, 107], [9])] [(5, iX.c), (10, iG.c), (18, iH.c)] [(1000005, [.asrow 321 70 10 (fun _ => aB.enc (aB.mk (0 : Int) (0 : Int) (0 : Int) (0 : Int) false false (aK.mk (0 : Int) (0 : Int)) (aK.mk (0 : Int) (0 : Int))))]), (1000010, [.asrow 322 73 4 (fun _ => SFan.enc (SFan.mk (0 : Int) false false (Sq.mk 0 (fun _ => (aM.mk (0 : Int) (0 : Int)))))), .asrow 324 3 1 (fun _ => (eI .i64) (0 : Int))]), (1000018, [.asrow 323 91 3 (fun _ => aC.enc (aC.mk (0 : Int) (0 : Int) (Sq.mk 0 (fun _ => (0 : Int))))), .asrow 325 3 1 (fun _ => (eI .i64) (0 : Int))])] [(5, [0, 64, 321, 322, 323, 324, 325, 384, 1280]), (10, [0, 64, 321, 322, 323, 324, 325, 384, 1280]), (18, [64, 321, 322, 323, 324, 325, 384, 1280])] 0
def xG : Env := { Ah with nt := 151 }
theorem Dk : aG xG (aH 5 Tryz.f45) iX.c := iX.tells 1600 (fun _ => by kernel_rfl) (fun _ _ _ _ => by kernel_rfl) (fun _ _ _ _ => by kernel_rfl) fun R f v N K => by kernel_rfl
theorem Cx : aG xG (aH 10 Tryz.f45) iG.c := iG.tells 1856 (fun _ => by kernel_rfl) (fun _ _ _ _ => by kernel_rfl) (fun _ _ _ _ => by kernel_rfl) fun R f v N K => by kernel_rfl
theorem Cy : aG xG (aH 18 Tryz.f45) iH.c := iH.tells 2112 (fun _ => by kernel_rfl) (fun _ _ _ _ => by kernel_rfl) (fun _ _ _ _ => by kernel_rfl) fun R f v N K => by kernel_rfl
theorem qE : aN Tryz.prog 45 bV.c := bV.tells Tryz.func45 (show ∀ p, arun Ah Tryz.f45 (bV.enc p).1 (bV.enc p).2 = _ from fun p => by kernel_rfl) (bf [aH 5 Tryz.f45, aH 10 Tryz.f45, aH 18 Tryz.f45] (by kernel_rfl) ⟨lpT (by kernel_rfl) Dk, ⟨lpT (by kernel_rfl) Cx, ⟨lpT (by kernel_rfl) Cy, trivial⟩⟩⟩) (.cons KE (.cons FD .nil))
def oJ (a : SAir) (s : au) (pressures : Sq Int) (place : Int) : Option (aU) := bV.val (a, s, pressures, place)
theorem LG (a : SAir) (s : au) (pressures : Sq Int) (place : Int) : oJ a s pressures place = (xH a s pressures place).get := bV.val_eq (fun x => (SAir.dec (aggL (gd x.1 0)), au.dec (aggL (gd x.1 1)), sqD dI (gd x.1 2), intA (gd x.1 3))) (fun p => by kernel_rfl) (a, s, pressures, place)
def Gd (m : aL) (road : Int) : DT (Bool) :=
 .bind (vY road (0 : Int) (wr (((m.Roads.n : Nat) : Int) - (1 : Int)))) fun z0 =>
 .leaf z0
def qd : FnM := flM (aL × Int) (Bool) (fun p => ([.agg (aL.enc p.1), .int .i64 p.2], [])) (fun p => Gd p.1 p.2) (fun r => .bool r) (fun _ => rfl)
def Xf : Env := envM [(81, lZ.c)] [] [] [] [] 0
theorem SS : aN Tryz.prog 108 qd.c := qd.tells Tryz.func108 (show ∀ p, arun Xf Tryz.f108 (qd.enc p).1 (qd.enc p).2 = _ from fun p => by kernel_rfl) aP (.cons A8 .nil)
def MH (m : aL) (road : Int) : Option (Bool) := qd.val (m, road)
theorem YP (m : aL) (road : Int) : MH m road = (Gd m road).get := qd.val_eq (fun x => (aL.dec (aggL (gd x.1 0)), intA (gd x.1 1))) (fun p => by kernel_rfl) (m, road)
def MC (m : aL) (road place : Int) : DT (Int) :=
 .bind (MH m road) fun z0 =>
 .ite (!z0) (
 .leaf (-1 : Int)) (
 .ite (decide ((0 : Int) ≤ road ∧ road < ((m.Roads.n : Nat) : Int))) (
 .ite (place == (m.Roads.f (Int.toNat road)).From) (
 .leaf (m.Roads.f (Int.toNat road)).To) (
 .ite (place == (m.Roads.f (Int.toNat road)).To) (.leaf (m.Roads.f (Int.toNat road)).From) (.leaf (-1 : Int)))) (
 .fail))
def rC : FnM := flM (aL × Int × Int) (Int) (fun p => ([.agg (aL.enc p.1), .int .i64 p.2.1, .int .i64 p.2.2], [])) (fun p => MC p.1 p.2.1 p.2.2) (fun r => .int .i64 r) (fun _ => rfl)
def Z4 : Env := envM [(108, qd.c)] [] [] [] [] 0
theorem KD : aN Tryz.prog 90 rC.c := rC.tells Tryz.func90 (show ∀ p, arun Z4 Tryz.f90 (rC.enc p).1 (rC.enc p).2 = _ from fun p => by kernel_rfl) aP (.cons SS .nil)
def N9 (m : aL) (road place : Int) : Option (Int) := rC.val (m, road, place)
theorem abP (m : aL) (road place : Int) : N9 m road place = (MC m road place).get := rC.val_eq (fun x => (aL.dec (aggL (gd x.1 0)), intA (gd x.1 1), intA (gd x.1 2))) (fun p => by kernel_rfl) (m, road, place)
def QF (d : aC) (state : Int) : DT (aK) :=
 .bind (XM ((d.Rests.n : Nat) : Int) state) fun z0 =>
 .ite z0 (
 .ite (decide ((0 : Int) ≤ state ∧ state < ((d.Rests.n : Nat) : Int))) (
 .ite (decide ((0 : Int) ≤ state ∧ state < ((d.Rests.n : Nat) : Int))) (.leaf (aK.mk (d.Rests.f (Int.toNat state)) (d.Rests.f (Int.toNat state)))) (.fail)) (
 .fail)) (
 .ite (state == (-1 : Int)) (
 .ite (decide (((d.Rests.n : Nat) : Int) > (0 : Int))) (
 .bind (VG d.Rests) fun z1 =>
 .bind (VF d.Rests) fun z2 =>
 .leaf (aK.mk z1 z2)) (
 .leaf (aK.mk (0 : Int) (0 : Int)))) (
 .leaf (aK.mk (0 : Int) (0 : Int))))
def yT : FnM := flM (aC × Int) (aK) (fun p => ([.agg (aC.enc p.1), .int .i64 p.2], [])) (fun p => QF p.1 p.2) (fun r => .agg (aK.enc r)) (fun _ => rfl)
def abu : Env := envM [(137, zn.c), (148, wS.c), (149, wQ.c)] [] [] [] [] 0
theorem Yq : aN Tryz.prog 145 yT.c := yT.tells Tryz.func145 (show ∀ p, arun abu Tryz.f145 (yT.enc p).1 (yT.enc p).2 = _ from fun p => by kernel_rfl) aP (.cons Pz (.cons XI (.cons XG .nil)))
def Yp (d : aC) (state : Int) : Option (aK) := yT.val (d, state)
theorem ac5 (d : aC) (state : Int) : Yp d state = (QF d state).get := yT.val_eq (fun x => (aC.dec (aggL (gd x.1 0)), intA (gd x.1 1))) (fun p => by kernel_rfl) (d, state)
def R6 (s t : aK) : DT (aK) :=
 .leaf (aK.mk (wr (s.Low + t.Low)) (wr (s.High + t.High)))
def r9 : FnM := flM (aK × aK) (aK) (fun p => ([.agg (aK.enc p.1), .agg (aK.enc p.2)], [])) (fun p => R6 p.1 p.2) (fun r => .agg (aK.enc r)) (fun _ => rfl)
def Ym : Env := envM [] [] [] [] [] 0
theorem Ux : aN Tryz.prog 144 r9.c := r9.tells Tryz.func144 (show ∀ p, arun Ym Tryz.f144 (r9.enc p).1 (r9.enc p).2 = _ from fun p => by kernel_rfl) aP .nil
def Qz (s t : aK) : Option (aK) := r9.val (s, t)
theorem ZH (s t : aK) : Qz s t = (R6 s t).get := r9.val_eq (fun x => (aK.dec (aggL (gd x.1 0)), aK.dec (aggL (gd x.1 1)))) (fun p => by kernel_rfl) (s, t)
def iY (u3_0 : Int) (u3_1 : Sq aC) (_u3_3 : Sq ay) (_u3_4 : Sq aB) (_u3_5 : Sq SFan) (_u3_6 u3_7 : Sq Int) (_u3_8 _u3_9 _u3_10 _u3_11 : Int) (_u3_12 _u3_13 : Bool) (_u3_16 _u3_17 u3_14 u3_15 u3_18 : Int) : DT (LR (Int × Int × Int) (Int × Int) (Unit)) :=
 .ite (decide (u3_18 < ((u3_1.n : Nat) : Int))) (
 .ite (decide ((0 : Int) ≤ u3_18 ∧ u3_18 < ((u3_1.n : Nat) : Int))) (
 .ite ((u3_1.f (Int.toNat u3_18)).Road == u3_0) (
 .ite (decide ((0 : Int) ≤ u3_18 ∧ u3_18 < ((u3_7.n : Nat) : Int))) (
 .bind (Yp (u3_1.f (Int.toNat u3_18)) (u3_7.f (Int.toNat u3_18))) fun z0 =>
 .bind (Qz (aK.mk u3_14 u3_15) z0) fun z1 =>
 .leaf (.next (z1.Low, z1.High, (wr (u3_18 + (1 : Int)))))) (
 .fail)) (
 .leaf (.next (u3_14, u3_15, (wr (u3_18 + (1 : Int))))))) (
 .fail)) (
 .leaf (.l (u3_14, u3_15)))
def lG : LpM := ⟨Int × (Sq aC) × (Sq ay) × (Sq aB) × (Sq SFan) × (Sq Int) × (Sq Int) × Int × Int × Int × Int × Bool × Bool × Int × Int, Int × Int × Int, Int × Int, Unit, fun p => ⟨[(2, .int .i64 p.1.1), (3, .ptr 0 0), (4, .ptr 64 0), (6, .ptr 128 0), (7, .ptr 640 0), (20, sqA 3 aC.enc p.1.2.1), (21, .int .i64 ((p.1.2.1.n : Nat) : Int)), (22, .int .i64 p.2.2.2)], [(0, .var [sqA 2 ay.enc p.1.2.2.1, sqA 10 aB.enc p.1.2.2.2.1, sqA 4 SFan.enc p.1.2.2.2.2.1, sqA 3 aC.enc p.1.2.1]), (64, .var [sqA 1 (eI .i64) p.1.2.2.2.2.2.1, sqA 1 (eI .i64) p.1.2.2.2.2.2.2.1]), (128, .var [.int .i64 (0 : Int), .int .i64 (0 : Int), .int .i64 (0 : Int), .int .i64 (0 : Int), .bool false, .bool false, .int .i64 (0 : Int), .int .i64 (0 : Int), .int .i64 (0 : Int), .int .i64 (0 : Int), .own 129 0]), (129, .nilrow 0), (576, .nilrow 0), (640, .var [.int .i64 p.1.2.2.2.2.2.2.2.1, .int .i64 p.1.2.2.2.2.2.2.2.2.1, .int .i64 p.1.2.2.2.2.2.2.2.2.2.1, .int .i64 p.1.2.2.2.2.2.2.2.2.2.2.1, .bool p.1.2.2.2.2.2.2.2.2.2.2.2.1, .bool p.1.2.2.2.2.2.2.2.2.2.2.2.2.1, .int .i64 p.2.1, .int .i64 p.2.2.1, .int .i64 p.1.2.2.2.2.2.2.2.2.2.2.2.2.2.1, .int .i64 p.1.2.2.2.2.2.2.2.2.2.2.2.2.2.2, .own 576 0])], 1024⟩, fun f v => iY f.1 f.2.1 f.2.2.1 f.2.2.2.1 f.2.2.2.2.1 f.2.2.2.2.2.1 f.2.2.2.2.2.2.1 f.2.2.2.2.2.2.2.1 f.2.2.2.2.2.2.2.2.1 f.2.2.2.2.2.2.2.2.2.1 f.2.2.2.2.2.2.2.2.2.2.1 f.2.2.2.2.2.2.2.2.2.2.2.1 f.2.2.2.2.2.2.2.2.2.2.2.2.1 f.2.2.2.2.2.2.2.2.2.2.2.2.2.1 f.2.2.2.2.2.2.2.2.2.2.2.2.2.2 v.1 v.2.1 v.2.2, true, (.exit 0), (fun x a => ⟨[(2, aget x.tm 2), (3, .ptr 0 0), (4, .ptr 64 0), (6, .ptr 128 0), (7, .ptr 640 0)], [(0, blkS x 0), (64, blkS x 64), (128, .var [.int .i64 (0 : Int), .int .i64 (0 : Int), .int .i64 (0 : Int), .int .i64 (0 : Int), .bool false, .bool false, .int .i64 (0 : Int), .int .i64 (0 : Int), .int .i64 (0 : Int), .int .i64 (0 : Int), .own 129 0]), (129, .nilrow 0), (576, .nilrow 0), (640, .var [cellS x 640 0, cellS x 640 1, cellS x 640 2, cellS x 640 3, cellS x 640 4, cellS x 640 5, .int .i64 a.1, .int .i64 a.2, cellS x 640 8, cellS x 640 9, .own 576 0])], 1024⟩), .ret, (fun _ _ => ⟨[], [], 0⟩), c1, c1k⟩
def zG (u3_0 : Int) (u3_1 : Sq aC) (u3_3 : Sq ay) (u3_4 : Sq aB) (u3_5 : Sq SFan) (u3_6 u3_7 : Sq Int) (u3_8 u3_9 u3_10 u3_11 : Int) (u3_12 u3_13 : Bool) (u3_16 u3_17 u3_14 u3_15 u3_18 : Int) : Option ((Int × Int) ⊕ (Unit)) := lG.val ((u3_0, u3_1, u3_3, u3_4, u3_5, u3_6, u3_7, u3_8, u3_9, u3_10, u3_11, u3_12, u3_13, u3_16, u3_17), (u3_14, u3_15, u3_18))
theorem LP (u3_0 : Int) (u3_1 : Sq aC) (u3_3 : Sq ay) (u3_4 : Sq aB) (u3_5 : Sq SFan) (u3_6 u3_7 : Sq Int) (u3_8 u3_9 u3_10 u3_11 : Int) (u3_12 u3_13 : Bool) (u3_16 u3_17 u3_14 u3_15 u3_18 : Int) : zG u3_0 u3_1 u3_3 u3_4 u3_5 u3_6 u3_7 u3_8 u3_9 u3_10 u3_11 u3_12 u3_13 u3_16 u3_17 u3_14 u3_15 u3_18 = fixO (fun v : Int × Int × Int => iY u3_0 u3_1 u3_3 u3_4 u3_5 u3_6 u3_7 u3_8 u3_9 u3_10 u3_11 u3_12 u3_13 u3_16 u3_17 v.1 v.2.1 v.2.2) (u3_14, u3_15, u3_18) := lG.val_eq (fun x => ((intA (aget x.tm 2), sqD aC.dec (aget x.tm 20), sqD ay.dec (cellS x 0 0), sqD aB.dec (cellS x 0 1), sqD SFan.dec (cellS x 0 2), sqD dI (cellS x 64 0), sqD dI (cellS x 64 1), intA (cellS x 640 0), intA (cellS x 640 1), intA (cellS x 640 2), intA (cellS x 640 3), iR (cellS x 640 4), iR (cellS x 640 5), intA (cellS x 640 8), intA (cellS x 640 9)), (intA (cellS x 640 6), intA (cellS x 640 7), intA (aget x.tm 22)))) (fun p => by kernel_rfl) ((u3_0, u3_1, u3_3, u3_4, u3_5, u3_6, u3_7, u3_8, u3_9, u3_10, u3_11, u3_12, u3_13, u3_16, u3_17), (u3_14, u3_15, u3_18))
def lY (u9_0 : Int) (u9_1 : Sq SFan) (u9_3 _u9_4 : Sq Int) (_u9_6 _u9_7 _u9_8 _u9_9 : Int) (_u9_10 _u9_11 : Bool) (_u9_12 _u9_13 _u9_14 _u9_15 : Int) (u9_5 : Sq aT) (u9_16 : Int) : DT (LR ((Sq aT) × Int) ((Sq aT)) (Unit)) :=
 .ite (decide (u9_16 < ((u9_1.n : Nat) : Int))) (
 .ite (decide ((0 : Int) ≤ u9_16 ∧ u9_16 < ((u9_1.n : Nat) : Int))) (
 .ite ((u9_1.f (Int.toNat u9_16)).Road == u9_0) (
 .ite (decide ((0 : Int) ≤ u9_16 ∧ u9_16 < ((u9_3.n : Nat) : Int))) (
 .ite (decide ((u9_5.n + 1) * 48 ≤ 140737488355328 ∧ (u9_5.n + 1) ≤ 1099511627776)) (
 .leaf (.next ((Sq.mk (u9_5.n + 1) (fun k0 => (aT.mk (SFan.mk (cond (Nat.blt k0 u9_5.n) (u9_5.f k0).Fan.Road (u9_1.f (Int.toNat u9_16)).Road) (cond (Nat.blt k0 u9_5.n) (u9_5.f k0).Fan.Back (u9_1.f (Int.toNat u9_16)).Back) (cond (Nat.blt k0 u9_5.n) (u9_5.f k0).Fan.Auxiliary (u9_1.f (Int.toNat u9_16)).Auxiliary) (Sq.mk (cond (Nat.blt k0 u9_5.n) (u9_5.f k0).Fan.Curve.n (u9_1.f (Int.toNat u9_16)).Curve.n) (fun k1 => (aM.mk (cond (Nat.blt k0 u9_5.n) ((u9_5.f k0).Fan.Curve.f k1).Flow ((u9_1.f (Int.toNat u9_16)).Curve.f k1).Flow) (cond (Nat.blt k0 u9_5.n) ((u9_5.f k0).Fan.Curve.f k1).Pressure ((u9_1.f (Int.toNat u9_16)).Curve.f k1).Pressure))))) (cond (Nat.blt k0 u9_5.n) (u9_5.f k0).state_ (u9_3.f (Int.toNat u9_16)))))), (wr (u9_16 + (1 : Int)))))) (
 .fail)) (
 .fail)) (
 .leaf (.next (u9_5, (wr (u9_16 + (1 : Int))))))) (
 .fail)) (
 .leaf (.l u9_5))
def lH : LpM := ⟨Int × (Sq SFan) × (Sq Int) × (Sq Int) × Int × Int × Int × Int × Bool × Bool × Int × Int × Int × Int, (Sq aT) × Int, (Sq aT), Unit, fun p => ⟨[(2, .int .i64 p.1.1), (4, .ptr 64 0), (6, .ptr 128 0), (7, .ptr 640 0), (46, sqA 4 SFan.enc p.1.2.1), (47, .int .i64 ((p.1.2.1.n : Nat) : Int)), (48, .int .i64 p.2.2)], [(64, .var [sqA 1 (eI .i64) p.1.2.2.1, sqA 1 (eI .i64) p.1.2.2.2.1]), (128, .var [.int .i64 (0 : Int), .int .i64 (0 : Int), .int .i64 (0 : Int), .int .i64 (0 : Int), .bool false, .bool false, .int .i64 (0 : Int), .int .i64 (0 : Int), .int .i64 (0 : Int), .int .i64 (0 : Int), .own 129 0]), (129, .nilrow 0), (576, rowA 0 5 172 aT.enc p.2.1), (640, .var [.int .i64 p.1.2.2.2.2.1, .int .i64 p.1.2.2.2.2.2.1, .int .i64 p.1.2.2.2.2.2.2.1, .int .i64 p.1.2.2.2.2.2.2.2.1, .bool p.1.2.2.2.2.2.2.2.2.1, .bool p.1.2.2.2.2.2.2.2.2.2.1, .int .i64 p.1.2.2.2.2.2.2.2.2.2.2.1, .int .i64 p.1.2.2.2.2.2.2.2.2.2.2.2.1, .int .i64 p.1.2.2.2.2.2.2.2.2.2.2.2.2.1, .int .i64 p.1.2.2.2.2.2.2.2.2.2.2.2.2.2, .own 576 0])], 1280⟩, fun f v => lY f.1 f.2.1 f.2.2.1 f.2.2.2.1 f.2.2.2.2.1 f.2.2.2.2.2.1 f.2.2.2.2.2.2.1 f.2.2.2.2.2.2.2.1 f.2.2.2.2.2.2.2.2.1 f.2.2.2.2.2.2.2.2.2.1 f.2.2.2.2.2.2.2.2.2.2.1 f.2.2.2.2.2.2.2.2.2.2.2.1 f.2.2.2.2.2.2.2.2.2.2.2.2.1 f.2.2.2.2.2.2.2.2.2.2.2.2.2 v.1 v.2, true, (.exit 2), (fun x a => ⟨[(6, .ptr 128 0), (7, .ptr 640 0)], [(64, blkS x 64), (128, .var [.int .i64 (0 : Int), .int .i64 (0 : Int), .int .i64 (0 : Int), .int .i64 (0 : Int), .bool false, .bool false, .int .i64 (0 : Int), .int .i64 (0 : Int), .int .i64 (0 : Int), .int .i64 (0 : Int), .own 129 0]), (129, .nilrow 0), (576, rowA 0 5 172 aT.enc a), (640, blkS x 640)], 1280⟩), .ret, (fun _ _ => ⟨[], [], 0⟩), c1, c1k⟩
def Fe (u9_0 : Int) (u9_1 : Sq SFan) (u9_3 u9_4 : Sq Int) (u9_6 u9_7 u9_8 u9_9 : Int) (u9_10 u9_11 : Bool) (u9_12 u9_13 u9_14 u9_15 : Int) (u9_5 : Sq aT) (u9_16 : Int) : Option (((Sq aT)) ⊕ (Unit)) := lH.val ((u9_0, u9_1, u9_3, u9_4, u9_6, u9_7, u9_8, u9_9, u9_10, u9_11, u9_12, u9_13, u9_14, u9_15), (u9_5, u9_16))
theorem LQ (u9_0 : Int) (u9_1 : Sq SFan) (u9_3 u9_4 : Sq Int) (u9_6 u9_7 u9_8 u9_9 : Int) (u9_10 u9_11 : Bool) (u9_12 u9_13 u9_14 u9_15 : Int) (u9_5 : Sq aT) (u9_16 : Int) : Fe u9_0 u9_1 u9_3 u9_4 u9_6 u9_7 u9_8 u9_9 u9_10 u9_11 u9_12 u9_13 u9_14 u9_15 u9_5 u9_16 = fixO (fun v : (Sq aT) × Int => lY u9_0 u9_1 u9_3 u9_4 u9_6 u9_7 u9_8 u9_9 u9_10 u9_11 u9_12 u9_13 u9_14 u9_15 v.1 v.2) (u9_5, u9_16) := lH.val_eq (fun x => ((intA (aget x.tm 2), sqD SFan.dec (aget x.tm 46), sqD dI (cellS x 64 0), sqD dI (cellS x 64 1), intA (cellS x 640 0), intA (cellS x 640 1), intA (cellS x 640 2), intA (cellS x 640 3), iR (cellS x 640 4), iR (cellS x 640 5), intA (cellS x 640 6), intA (cellS x 640 7), intA (cellS x 640 8), intA (cellS x 640 9)), (sqB aT.dec (blkS x 576), intA (aget x.tm 48)))) (fun p => by kernel_rfl) ((u9_0, u9_1, u9_3, u9_4, u9_6, u9_7, u9_8, u9_9, u9_10, u9_11, u9_12, u9_13, u9_14, u9_15), (u9_5, u9_16))
def Ay (a : SAir) (s : au) (road : Int) : DT (aY) :=
 .ite (decide ((0 : Int) ≤ road ∧ road < ((a.Mine.Roads.n : Nat) : Int))) (
 .sum (zG road a.Doors a.Mine.Places a.Mine.Roads a.Fans s.Fans s.Doors (a.Mine.Roads.f (Int.toNat road)).From (a.Mine.Roads.f (Int.toNat road)).To (a.Mine.Roads.f (Int.toNat road)).Length (a.Mine.Roads.f (Int.toNat road)).Area (a.Mine.Roads.f (Int.toNat road)).Walk (a.Mine.Roads.f (Int.toNat road)).Closed (a.Mine.Roads.f (Int.toNat road)).Lift.Low (a.Mine.Roads.f (Int.toNat road)).Lift.High (a.Mine.Roads.f (Int.toNat road)).Rest.Low (a.Mine.Roads.f (Int.toNat road)).Rest.High (0 : Int)) (fun y0 =>
 .sum (Fe road a.Fans s.Fans s.Doors (a.Mine.Roads.f (Int.toNat road)).From (a.Mine.Roads.f (Int.toNat road)).To (a.Mine.Roads.f (Int.toNat road)).Length (a.Mine.Roads.f (Int.toNat road)).Area (a.Mine.Roads.f (Int.toNat road)).Walk (a.Mine.Roads.f (Int.toNat road)).Closed y0.1 y0.2 (a.Mine.Roads.f (Int.toNat road)).Lift.Low (a.Mine.Roads.f (Int.toNat road)).Lift.High (Sq.mk 0 (fun _ => (aT.mk (SFan.mk (0 : Int) false false (Sq.mk 0 (fun _ => (aM.mk (0 : Int) (0 : Int))))) (0 : Int)))) (0 : Int)) (fun y1 =>
 .leaf (aY.mk (aB.mk (a.Mine.Roads.f (Int.toNat road)).From (a.Mine.Roads.f (Int.toNat road)).To (a.Mine.Roads.f (Int.toNat road)).Length (a.Mine.Roads.f (Int.toNat road)).Area (a.Mine.Roads.f (Int.toNat road)).Walk (a.Mine.Roads.f (Int.toNat road)).Closed (aK.mk y0.1 y0.2) (a.Mine.Roads.f (Int.toNat road)).Lift) y1)) (fun _ => .fail)) (fun _ => .fail)) (
 .fail)
def jO : FnM := nfM (SAir × au × Int) (aY) (fun p => ([.agg (SAir.enc p.1), .agg (au.enc p.2.1), .int .i64 p.2.2], [])) (fun p => Ay p.1 p.2.1 p.2.2) (fun r => .agg [.int .i64 r.Road.From, .int .i64 r.Road.To, .int .i64 r.Road.Length, .int .i64 r.Road.Area, .bool r.Road.Walk, .bool r.Road.Closed, .int .i64 r.Road.Rest.Low, .int .i64 r.Road.Rest.High, .int .i64 r.Road.Lift.Low, .int .i64 r.Road.Lift.High, .own 0 0]) (fun _ r => [rowA 0 5 172 aT.enc r.blowers_])
def Dr : Env := envM [(145, yT.c), (144, r9.c)] [(3, [2, 3, 4, 6, 7, 20, 21, 22], [2, 3, 4, 6, 7]), (9, [2, 4, 6, 7, 46, 47, 48], [6, 7])] [(3, lG.c), (9, lH.c)] [(1000009, [.asrow 576 172 5 (fun _ => aT.enc (aT.mk (SFan.mk (0 : Int) false false (Sq.mk 0 (fun _ => (aM.mk (0 : Int) (0 : Int))))) (0 : Int)))])] [(3, [0, 64, 128, 129, 576, 640]), (9, [64, 128, 129, 576, 640])] 0
def G5 : Env := { Dr with nt := 71 }
theorem G6 : aG G5 (aH 3 Tryz.f132) lG.c := lG.tells 1024 (fun _ => by kernel_rfl) (fun _ _ _ _ => by kernel_rfl) (fun _ _ _ _ => by kernel_rfl) fun R f v N K => by kernel_rfl
theorem G7 : aG G5 (aH 9 Tryz.f132) lH.c := lH.tells 1280 (fun _ => by kernel_rfl) (fun _ _ _ _ => by kernel_rfl) (fun _ _ _ _ => by kernel_rfl) fun R f v N K => by kernel_rfl
theorem LU : aN Tryz.prog 132 jO.c := jO.tells Tryz.func132 (show ∀ p, arun Dr Tryz.f132 (jO.enc p).1 (jO.enc p).2 = _ from fun p => by kernel_rfl) (bf [aH 3 Tryz.f132, aH 9 Tryz.f132] (by kernel_rfl) ⟨lpT (by kernel_rfl) G6, ⟨lpT (by kernel_rfl) G7, trivial⟩⟩) (.cons Yq (.cons Ux .nil))
def Dq (a : SAir) (s : au) (road : Int) : Option (aY) := jO.val (a, s, road)
theorem RP (a : SAir) (s : au) (road : Int) : Dq a s road = (Ay a s road).get := jO.val_eq (fun x => (SAir.dec (aggL (gd x.1 0)), au.dec (aggL (gd x.1 1)), intA (gd x.1 2))) (fun p => by kernel_rfl) (a, s, road)
def IY (a : SAir) (s : au) (road : Int) : DT (aY × Bool) :=
 .bind (Br a s) fun z0 =>
 .ite (!z0) (
 .leaf ((aY.mk (aB.mk (0 : Int) (0 : Int) (0 : Int) (0 : Int) false false (aK.mk (0 : Int) (0 : Int)) (aK.mk (0 : Int) (0 : Int))) (Sq.mk 0 (fun _ => (aT.mk (SFan.mk (0 : Int) false false (Sq.mk 0 (fun _ => (aM.mk (0 : Int) (0 : Int))))) (0 : Int))))), false)) (
 .bind (yt a road) fun z1 =>
 .ite (!z1) (
 .leaf ((aY.mk (aB.mk (0 : Int) (0 : Int) (0 : Int) (0 : Int) false false (aK.mk (0 : Int) (0 : Int)) (aK.mk (0 : Int) (0 : Int))) (Sq.mk 0 (fun _ => (aT.mk (SFan.mk (0 : Int) false false (Sq.mk 0 (fun _ => (aM.mk (0 : Int) (0 : Int))))) (0 : Int))))), false)) (
 .ite (decide ((0 : Int) ≤ road ∧ road < ((a.Mine.Roads.n : Nat) : Int))) (
 .ite (a.Mine.Roads.f (Int.toNat road)).Closed (
 .leaf ((aY.mk (aB.mk (0 : Int) (0 : Int) (0 : Int) (0 : Int) false false (aK.mk (0 : Int) (0 : Int)) (aK.mk (0 : Int) (0 : Int))) (Sq.mk 0 (fun _ => (aT.mk (SFan.mk (0 : Int) false false (Sq.mk 0 (fun _ => (aM.mk (0 : Int) (0 : Int))))) (0 : Int))))), false)) (
 .bind (Dq a s road) fun z2 =>
 .leaf (z2, true))) (
 .fail)))
def rZ : FnM := nfM (SAir × au × Int) (aY × Bool) (fun p => ([.agg (SAir.enc p.1), .agg (au.enc p.2.1), .int .i64 p.2.2], [])) (fun p => IY p.1 p.2.1 p.2.2) (fun r => .tup [.agg [.int .i64 r.1.Road.From, .int .i64 r.1.Road.To, .int .i64 r.1.Road.Length, .int .i64 r.1.Road.Area, .bool r.1.Road.Walk, .bool r.1.Road.Closed, .int .i64 r.1.Road.Rest.Low, .int .i64 r.1.Road.Rest.High, .int .i64 r.1.Road.Lift.Low, .int .i64 r.1.Road.Lift.High, .own 0 0], .bool r.2]) (fun _ r => [rowA 0 5 172 aT.enc r.1.blowers_])
def Yl : Env := envM [(39, jX.c), (84, gY.c), (132, jO.c)] [] [] [(2000000, [.asrow 1472 172 5 (fun _ => aT.enc (aT.mk (SFan.mk (0 : Int) false false (Sq.mk 0 (fun _ => (aM.mk (0 : Int) (0 : Int))))) (0 : Int)))])] [] 0
theorem Uw : aN Tryz.prog 109 rZ.c := rZ.tells Tryz.func109 (show ∀ p, arun Yl Tryz.f109 (rZ.enc p).1 (rZ.enc p).2 = _ from fun p => by kernel_rfl) aP (.cons zF (.cons xO (.cons LU .nil)))
def IX (a : SAir) (s : au) (road : Int) : Option (aY × Bool) := rZ.val (a, s, road)
theorem ZG (a : SAir) (s : au) (road : Int) : IX a s road = (IY a s road).get := rZ.val_eq (fun x => (SAir.dec (aggL (gd x.1 0)), au.dec (aggL (gd x.1 1)), intA (gd x.1 2))) (fun p => by kernel_rfl) (a, s, road)
def FX (s : aK) (n : Int) : DT (aK) :=
 .leaf (aK.mk (if (wr (s.High * n)) < (wr (s.Low * n)) then (wr (s.High * n)) else (wr (s.Low * n))) (if (wr (s.Low * n)) < (wr (s.High * n)) then (wr (s.High * n)) else (wr (s.Low * n))))
def p8 : FnM := flM (aK × Int) (aK) (fun p => ([.agg (aK.enc p.1), .int .i64 p.2], [])) (fun p => FX p.1 p.2) (fun r => .agg (aK.enc r)) (fun _ => rfl)
def WG : Env := envM [] [] [] [] [] 0
theorem R7 : aN Tryz.prog 135 p8.c := p8.tells Tryz.func135 (show ∀ p, arun WG Tryz.f135 (p8.enc p).1 (p8.enc p).2 = _ from fun p => by kernel_rfl) aP .nil
def L6 (s : aK) (n : Int) : Option (aK) := p8.val (s, n)
theorem Yn (s : aK) (n : Int) : L6 s n = (FX s n).get := p8.val_eq (fun x => (aK.dec (aggL (gd x.1 0)), intA (gd x.1 1))) (fun p => by kernel_rfl) (s, n)
def R4 (s t : aK) : DT (aK) :=
 .leaf (aK.mk (wr (s.Low - t.High)) (wr (s.High - t.Low)))
def rY : FnM := flM (aK × aK) (aK) (fun p => ([.agg (aK.enc p.1), .agg (aK.enc p.2)], [])) (fun p => R4 p.1 p.2) (fun r => .agg (aK.enc r)) (fun _ => rfl)
def Yk : Env := envM [] [] [] [] [] 0
theorem Uv : aN Tryz.prog 134 rY.c := rY.tells Tryz.func134 (show ∀ p, arun Yk Tryz.f134 (rY.enc p).1 (rY.enc p).2 = _ from fun p => by kernel_rfl) aP .nil
def IW (s t : aK) : Option (aK) := rY.val (s, t)
theorem ZF (s t : aK) : IW s t = (R4 s t).get := rY.val_eq (fun x => (aK.dec (aggL (gd x.1 0)), aK.dec (aggL (gd x.1 1)))) (fun p => by kernel_rfl) (s, t)
def Kz (p : aM) (x : Int) : DT (Bool) :=
 .leaf (decide (p.Flow ≥ x))
def kY : FnM := nfM (aM × Int) (Bool) (fun p => ([.agg (aM.enc p.1), .ptr 0 0], [.var [.int .i64 p.2]])) (fun p => Kz p.1 p.2) (fun r => .bool r) (fun ins _ => [dB ins 0])
def Sv : Env := envM [] [] [] [] [] 1
theorem OO : aN Tryz.prog 152 kY.c := kY.tells Tryz.func152 (show ∀ p, arun Sv Tryz.f152 (kY.enc p).1 (kY.enc p).2 = _ from fun p => by kernel_rfl) aP .nil
def F5 (p : aM) (x : Int) : Option (Bool) := kY.val (p, x)
theorem UN (p : aM) (x : Int) : F5 p x = (Kz p x).get := kY.val_eq (fun x => (aM.dec (aggL (gd x.1 0)), intA (gd (varL (dB x.2 0)) 0))) (fun p => by kernel_rfl) (p, x)
def dw (u2_0 : Sq aM) (u2_2 u2_3 : Int) : DT (LR (Int) (Unit) (Int)) :=
 .ite (decide (u2_3 < ((u2_0.n : Nat) : Int))) (
 .ite (decide ((0 : Int) ≤ u2_3 ∧ u2_3 < ((u2_0.n : Nat) : Int))) (
 .bind (F5 (u2_0.f (Int.toNat u2_3)) u2_2) fun z0 =>
 .ite z0 (
 .leaf (.r u2_3)) (
 .leaf (.next (wr (u2_3 + (1 : Int)))))) (
 .fail)) (
 .leaf (.l ()))
def fH : LpM := ⟨(Sq aM) × Int, Int, Unit, Int, fun p => ⟨[(0, sqA 2 aM.enc p.1.1), (1, .fn 152 [.ptr 0 0]), (7, .int .i64 ((p.1.1.n : Nat) : Int)), (8, .int .i64 p.2)], [(0, .var [.int .i64 p.1.2])], 257⟩, fun f v => dw f.1 f.2 v, false, (.exit 0), (fun x _ => ⟨[(4, .undef)], [(0, blkS x 0)], 257⟩), .ret, (fun x a => ⟨[(4, .int .i64 a)], [(0, blkS x 0)], 257⟩), c1, c1k⟩
def qx (u2_0 : Sq aM) (u2_2 u2_3 : Int) : Option ((Unit) ⊕ (Int)) := fH.val ((u2_0, u2_2), u2_3)
theorem CV (u2_0 : Sq aM) (u2_2 u2_3 : Int) : qx u2_0 u2_2 u2_3 = fixO (fun v : Int => dw u2_0 u2_2 v) u2_3 := fH.val_eq (fun x => ((sqD aM.dec (aget x.tm 0), intA (cellS x 0 0)), intA (aget x.tm 8))) (fun p => by kernel_rfl) ((u2_0, u2_2), u2_3)
def qZ (s : Sq aM) (y0 : Int) : DT (Int) :=
 .sum (qx s y0 (0 : Int)) (fun _ =>
 .leaf (-1 : Int)) (fun y1 => .leaf y1)
def cB : FnM := nfM ((Sq aM) × Int) (Int) (fun p => ([sqA 2 aM.enc p.1, .fn 152 [.ptr 0 0]], [.var [.int .i64 p.2]])) (fun p => qZ p.1 p.2) (fun r => .int .i64 r) (fun ins _ => [dB ins 0])
def xA : Env := envM [(152, kY.c)] [(2, [0, 1, 7, 8], [4])] [(2, fH.c)] [] [(2, [0])] 1
def Ie : Env := { xA with nt := 19 }
theorem Bn : aG Ie (aH 2 Tryz.f151) fH.c := fH.tells 257 (fun _ => by kernel_rfl) (fun _ _ _ _ => by kernel_rfl) (fun _ _ _ _ => by kernel_rfl) fun R f v N K => by kernel_rfl
theorem CW : aN Tryz.prog 151 cB.c := cB.tells Tryz.func151 (show ∀ p, arun xA Tryz.f151 (cB.enc p).1 (cB.enc p).2 = _ from fun p => by kernel_rfl) (bf [aH 2 Tryz.f151] (by kernel_rfl) ⟨lpT (by kernel_rfl) Bn, trivial⟩) (.cons OO .nil)
def uR (s : Sq aM) (y0 : Int) : Option (Int) := cB.val (s, y0)
theorem GA (s : Sq aM) (y0 : Int) : uR s y0 = (qZ s y0).get := cB.val_eq (fun x => (sqD aM.dec (gd x.1 0), intA (gd (varL (dB x.2 0)) 0))) (fun p => by kernel_rfl) (s, y0)
def Sr (n : Int) : DT (aK) :=
 .leaf (aK.mk n n)
def oL : FnM := flM (Int) (aK) (fun p => ([.int .i64 p], [])) (fun p => Sr p) (fun r => .agg (aK.enc r)) (fun _ => rfl)
def Yz : Env := envM [] [] [] [] [] 0
theorem Hg : aN Tryz.prog 153 oL.c := oL.tells Tryz.func153 (show ∀ p, arun Yz Tryz.f153 (oL.enc p).1 (oL.enc p).2 = _ from fun p => by kernel_rfl) aP .nil
def DJ (n : Int) : Option (aK) := oL.val n
theorem ZQ (n : Int) : DJ n = (Sr n).get := oL.val_eq (fun x => intA (gd x.1 0)) (fun p => by kernel_rfl) n
def I7 (from_ to_ : aM) (flow : Int) : DT (aK) :=
 .ite ((wr (to_.Flow - from_.Flow)) != 0) (
 .bind (DJ (wr (from_.Pressure - (wr (Int.tdiv (wr ((wr (from_.Pressure - to_.Pressure)) * (wr (flow - from_.Flow)))) (wr (to_.Flow - from_.Flow))))))) fun z0 =>
 .ite ((wr (to_.Flow - from_.Flow)) != 0) (
 .ite (decide ((Int.tmod (wr ((wr (from_.Pressure - to_.Pressure)) * (wr (flow - from_.Flow)))) (wr (to_.Flow - from_.Flow))) > (0 : Int))) (.leaf (aK.mk (wr (z0.Low - (1 : Int))) z0.High)) (.leaf z0)) (
 .fail)) (
 .fail)
def sG : FnM := flM (aM × aM × Int) (aK) (fun p => ([.agg (aM.enc p.1), .agg (aM.enc p.2.1), .int .i64 p.2.2], [])) (fun p => I7 p.1 p.2.1 p.2.2) (fun r => .agg (aK.enc r)) (fun _ => rfl)
def Yx : Env := envM [(153, oL.c)] [] [] [] [] 0
theorem UL : aN Tryz.prog 154 sG.c := sG.tells Tryz.func154 (show ∀ p, arun Yx Tryz.f154 (sG.enc p).1 (sG.enc p).2 = _ from fun p => by kernel_rfl) aP (.cons Hg .nil)
def QL (from_ to_ : aM) (flow : Int) : Option (aK) := sG.val (from_, to_, flow)
theorem ZO (from_ to_ : aM) (flow : Int) : QL from_ to_ flow = (I7 from_ to_ flow).get := sG.val_eq (fun x => (aM.dec (aggL (gd x.1 0)), aM.dec (aggL (gd x.1 1)), intA (gd x.1 2))) (fun p => by kernel_rfl) (from_, to_, flow)
def F6 (curve : Sq aM) (flow : Int) : DT (aK) :=
 .bind (uR curve flow) fun z0 =>
 .ite (z0 == (0 : Int)) (
 .ite (decide ((0 : Int) ≤ (0 : Int) ∧ (0 : Int) < ((curve.n : Nat) : Int))) (
 .bind (DJ (curve.f 0).Pressure) fun z1 =>
 .leaf z1) (
 .fail)) (
 .ite (z0 == (-1 : Int)) (
 .ite (decide ((0 : Int) ≤ (wr (((curve.n : Nat) : Int) - (1 : Int))) ∧ (wr (((curve.n : Nat) : Int) - (1 : Int))) < ((curve.n : Nat) : Int))) (
 .bind (DJ (curve.f (Int.toNat (wr (((curve.n : Nat) : Int) - (1 : Int))))).Pressure) fun z2 =>
 .leaf z2) (
 .fail)) (
 .ite (decide ((0 : Int) ≤ (wr (z0 - (1 : Int))) ∧ (wr (z0 - (1 : Int))) < ((curve.n : Nat) : Int))) (
 .ite (decide ((0 : Int) ≤ z0 ∧ z0 < ((curve.n : Nat) : Int))) (
 .bind (QL (curve.f (Int.toNat (wr (z0 - (1 : Int))))) (curve.f (Int.toNat z0)) flow) fun z3 =>
 .leaf z3) (
 .fail)) (
 .fail)))
def qc : FnM := flM ((Sq aM) × Int) (aK) (fun p => ([sqA 2 aM.enc p.1, .int .i64 p.2], [])) (fun p => F6 p.1 p.2) (fun r => .agg (aK.enc r)) (fun _ => rfl)
def WQ : Env := envM [(151, cB.c), (153, oL.c), (154, sG.c)] [] [] [] [] 0
theorem Sw : aN Tryz.prog 150 qc.c := qc.tells Tryz.func150 (show ∀ p, arun WQ Tryz.f150 (qc.enc p).1 (qc.enc p).2 = _ from fun p => by kernel_rfl) aP (.cons CW (.cons Hg (.cons UL .nil)))
def Fj (curve : Sq aM) (flow : Int) : Option (aK) := qc.val (curve, flow)
theorem YC (curve : Sq aM) (flow : Int) : Fj curve flow = (F6 curve flow).get := qc.val_eq (fun x => (sqD aM.dec (gd x.1 0), intA (gd x.1 1))) (fun p => by kernel_rfl) (curve, flow)
def I8 (curve : Sq aM) (back : Bool) (flow : Int) : DT (aK) :=
 .ite (!back) (
 .bind (Fj curve flow) fun z0 =>
 .leaf z0) (
 .bind (Fj curve (wr (0 - flow))) fun z1 =>
 .leaf (aK.mk (wr (0 - z1.High)) (wr (0 - z1.Low))))
def sH : FnM := flM ((Sq aM) × Bool × Int) (aK) (fun p => ([sqA 2 aM.enc p.1, .bool p.2.1, .int .i64 p.2.2], [])) (fun p => I8 p.1 p.2.1 p.2.2) (fun r => .agg (aK.enc r)) (fun _ => rfl)
def Yy : Env := envM [(150, qc.c)] [] [] [] [] 0
theorem UM : aN Tryz.prog 146 sH.c := sH.tells Tryz.func146 (show ∀ p, arun Yy Tryz.f146 (sH.enc p).1 (sH.enc p).2 = _ from fun p => by kernel_rfl) aP (.cons Sw .nil)
def AU (curve : Sq aM) (back : Bool) (flow : Int) : Option (aK) := sH.val (curve, back, flow)
theorem ZP (curve : Sq aM) (back : Bool) (flow : Int) : AU curve back flow = (I8 curve back flow).get := sH.val_eq (fun x => (sqD aM.dec (gd x.1 0), iR (gd x.1 1), intA (gd x.1 2))) (fun p => by kernel_rfl) (curve, back, flow)
def abw (f : SFan) (state flow : Int) : DT (aK) :=
 .bind (Sk f) fun z0 =>
 .ite (z0 != (0 : Int)) (
 .leaf (aK.mk (0 : Int) (0 : Int))) (
 .bind (Hl flow (-1048577 : Int) (1048577 : Int)) fun z1 =>
 .ite (!z1) (
 .leaf (aK.mk (0 : Int) (0 : Int))) (
 .ite (state == (1 : Int)) (
 .bind (AU f.Curve f.Back flow) fun z2 =>
 .leaf z2) (
 .ite (state == (2 : Int)) (
 .bind (AU f.Curve (!f.Back) flow) fun z3 =>
 .leaf z3) (
 .ite (state == (-1 : Int)) (
 .bind (AU f.Curve f.Back flow) fun z4 =>
 .bind (AU f.Curve (!f.Back) flow) fun z5 =>
 .leaf (aK.mk (if z5.Low < (if z4.Low < (0 : Int) then z4.Low else (0 : Int)) then z5.Low else (if z4.Low < (0 : Int) then z4.Low else (0 : Int))) (if (if (0 : Int) < z4.High then z4.High else (0 : Int)) < z5.High then z5.High else (if (0 : Int) < z4.High then z4.High else (0 : Int))))) (
 .leaf (aK.mk (0 : Int) (0 : Int)))))))
def I6 : FnM := flM (SFan × Int × Int) (aK) (fun p => ([.agg (SFan.enc p.1), .int .i64 p.2.1, .int .i64 p.2.2], [])) (fun p => abw p.1 p.2.1 p.2.2) (fun r => .agg (aK.enc r)) (fun _ => rfl)
def afN : Env := envM [(83, vR.c), (101, rz.c), (146, sH.c)] [] [] [] [] 0
theorem ada : aN Tryz.prog 136 I6.c := I6.tells Tryz.func136 (show ∀ p, arun afN Tryz.f136 (I6.enc p).1 (I6.enc p).2 = _ from fun p => by kernel_rfl) aP (.cons Mf (.cons KA (.cons UM .nil)))
def ag6 (f : SFan) (state flow : Int) : Option (aK) := I6.val (f, state, flow)
theorem ag7 (f : SFan) (state flow : Int) : ag6 f state flow = (abw f state flow).get := I6.val_eq (fun x => (SFan.dec (aggL (gd x.1 0)), intA (gd x.1 1), intA (gd x.1 2))) (fun p => by kernel_rfl) (f, state, flow)
def fM (u4_0 _u4_2 _u4_3 _u4_4 _u4_5 : Int) (_u4_6 _u4_7 : Bool) (_u4_8 _u4_9 _u4_10 _u4_11 : Int) (u4_12 : Sq aT) (u4_13 u4_14 u4_15 : Int) : DT (LR (Int × Int × Int) (Int × Int) (Unit)) :=
 .ite (decide (u4_15 < ((u4_12.n : Nat) : Int))) (
 .ite (decide ((0 : Int) ≤ u4_15 ∧ u4_15 < ((u4_12.n : Nat) : Int))) (
 .bind (ag6 (u4_12.f (Int.toNat u4_15)).Fan (u4_12.f (Int.toNat u4_15)).state_ u4_0) fun z0 =>
 .bind (IW (aK.mk u4_13 u4_14) z0) fun z1 =>
 .leaf (.next (z1.Low, z1.High, (wr (u4_15 + (1 : Int)))))) (
 .fail)) (
 .leaf (.l (u4_13, u4_14)))
def iZ : LpM := ⟨Int × Int × Int × Int × Int × Bool × Bool × Int × Int × Int × Int × (Sq aT), Int × Int × Int, Int × Int, Unit, fun p => ⟨[(1, .int .i64 p.1.1), (4, .ptr 2 0), (6, .ptr 1346 0), (31, .own 1 0), (32, .int .i64 ((p.1.2.2.2.2.2.2.2.2.2.2.2.n : Nat) : Int)), (33, .int .i64 p.2.2.2)], [(0, .var [.int .i64 p.1.2.1, .int .i64 p.1.2.2.1, .int .i64 p.1.2.2.2.1, .int .i64 p.1.2.2.2.2.1, .bool p.1.2.2.2.2.2.1, .bool p.1.2.2.2.2.2.2.1, .int .i64 p.1.2.2.2.2.2.2.2.1, .int .i64 p.1.2.2.2.2.2.2.2.2.1, .int .i64 p.1.2.2.2.2.2.2.2.2.2.1, .int .i64 p.1.2.2.2.2.2.2.2.2.2.2.1, .own 1 0]), (1, rowA 0 5 172 aT.enc p.1.2.2.2.2.2.2.2.2.2.2.2), (2, .var [.int .i64 (0 : Int), .int .i64 (0 : Int)]), (1346, .var [.int .i64 p.2.1, .int .i64 p.2.2.1])], 1858⟩, fun f v => fM f.1 f.2.1 f.2.2.1 f.2.2.2.1 f.2.2.2.2.1 f.2.2.2.2.2.1 f.2.2.2.2.2.2.1 f.2.2.2.2.2.2.2.1 f.2.2.2.2.2.2.2.2.1 f.2.2.2.2.2.2.2.2.2.1 f.2.2.2.2.2.2.2.2.2.2.1 f.2.2.2.2.2.2.2.2.2.2.2 v.1 v.2.1 v.2.2, true, (.exit 0), (fun x a => ⟨[(4, .ptr 2 0), (6, .ptr 1346 0)], [(0, blkS x 0), (1, blkS x 1), (2, .var [.int .i64 (0 : Int), .int .i64 (0 : Int)]), (1346, .var [.int .i64 a.1, .int .i64 a.2])], 1858⟩), .ret, (fun _ _ => ⟨[], [], 0⟩), c1, c1k⟩
def vO (u4_0 u4_2 u4_3 u4_4 u4_5 : Int) (u4_6 u4_7 : Bool) (u4_8 u4_9 u4_10 u4_11 : Int) (u4_12 : Sq aT) (u4_13 u4_14 u4_15 : Int) : Option ((Int × Int) ⊕ (Unit)) := iZ.val ((u4_0, u4_2, u4_3, u4_4, u4_5, u4_6, u4_7, u4_8, u4_9, u4_10, u4_11, u4_12), (u4_13, u4_14, u4_15))
theorem G8 (u4_0 u4_2 u4_3 u4_4 u4_5 : Int) (u4_6 u4_7 : Bool) (u4_8 u4_9 u4_10 u4_11 : Int) (u4_12 : Sq aT) (u4_13 u4_14 u4_15 : Int) : vO u4_0 u4_2 u4_3 u4_4 u4_5 u4_6 u4_7 u4_8 u4_9 u4_10 u4_11 u4_12 u4_13 u4_14 u4_15 = fixO (fun v : Int × Int × Int => fM u4_0 u4_2 u4_3 u4_4 u4_5 u4_6 u4_7 u4_8 u4_9 u4_10 u4_11 u4_12 v.1 v.2.1 v.2.2) (u4_13, u4_14, u4_15) := iZ.val_eq (fun x => ((intA (aget x.tm 1), intA (cellS x 0 0), intA (cellS x 0 1), intA (cellS x 0 2), intA (cellS x 0 3), iR (cellS x 0 4), iR (cellS x 0 5), intA (cellS x 0 6), intA (cellS x 0 7), intA (cellS x 0 8), intA (cellS x 0 9), sqB aT.dec (blkS x 1)), (intA (cellS x 1346 0), intA (cellS x 1346 1), intA (aget x.tm 33)))) (fun p => by kernel_rfl) ((u4_0, u4_2, u4_3, u4_4, u4_5, u4_6, u4_7, u4_8, u4_9, u4_10, u4_11, u4_12), (u4_13, u4_14, u4_15))
def xL (w : aY) (flow : Int) : DT (aK) :=
 .bind (L6 w.Road.Rest (wr (flow * (if flow < (wr (0 - flow)) then (wr (0 - flow)) else flow)))) fun z2 =>
 .bind (IW z2 w.Road.Lift) fun z3 =>
 .sum (vO flow w.Road.From w.Road.To w.Road.Length w.Road.Area w.Road.Walk w.Road.Closed w.Road.Rest.Low w.Road.Rest.High w.Road.Lift.Low w.Road.Lift.High w.blowers_ z3.Low z3.High (0 : Int)) (fun y0 =>
 .leaf (aK.mk y0.1 y0.2)) (fun _ => .fail)
def dX : FnM := nfM (aY × Int) (aK) (fun p => ([.ptr 0 0, .int .i64 p.2], [.var [.int .i64 p.1.Road.From, .int .i64 p.1.Road.To, .int .i64 p.1.Road.Length, .int .i64 p.1.Road.Area, .bool p.1.Road.Walk, .bool p.1.Road.Closed, .int .i64 p.1.Road.Rest.Low, .int .i64 p.1.Road.Rest.High, .int .i64 p.1.Road.Lift.Low, .int .i64 p.1.Road.Lift.High, .own 1 0], rowA 0 5 172 aT.enc p.1.blowers_])) (fun p => xL p.1 p.2) (fun r => .agg (aK.enc r)) (fun ins _ => [dB ins 0, dB ins 1])
def Ai : Env := envM [(135, p8.c), (134, rY.c), (136, I6.c)] [(4, [1, 4, 6, 31, 32, 33], [4, 6])] [(4, iZ.c)] [] [(4, [0, 1, 2, 1346])] 2
def OB : Env := { Ai with nt := 47 }
theorem Dt : aG OB (aH 4 Tryz.f112) iZ.c := iZ.tells 1858 (fun _ => by kernel_rfl) (fun _ _ _ _ => by kernel_rfl) (fun _ _ _ _ => by kernel_rfl) fun R f v N K => by kernel_rfl
theorem zm : aN Tryz.prog 112 dX.c := dX.tells Tryz.func112 (show ∀ p, arun Ai Tryz.f112 (dX.enc p).1 (dX.enc p).2 = _ from fun p => by kernel_rfl) (bf [aH 4 Tryz.f112] (by kernel_rfl) ⟨lpT (by kernel_rfl) Dt, trivial⟩) (.cons R7 (.cons Uv (.cons ada .nil)))
def uW (w : aY) (flow : Int) : Option (aK) := dX.val (w, flow)
theorem LV (w : aY) (flow : Int) : uW w flow = (xL w flow).get := dX.val_eq (fun x => (⟨⟨intA (gd (varL (dB x.2 0)) 0), intA (gd (varL (dB x.2 0)) 1), intA (gd (varL (dB x.2 0)) 2), intA (gd (varL (dB x.2 0)) 3), iR (gd (varL (dB x.2 0)) 4), iR (gd (varL (dB x.2 0)) 5), ⟨intA (gd (varL (dB x.2 0)) 6), intA (gd (varL (dB x.2 0)) 7)⟩, ⟨intA (gd (varL (dB x.2 0)) 8), intA (gd (varL (dB x.2 0)) 9)⟩⟩, sqB aT.dec (dB x.2 1)⟩, intA (gd x.1 1))) (fun p => by kernel_rfl) (w, flow)
def Dn (flow : Int) (x : aY) (x2 : Int) : DT (Bool) :=
 .bind (uW x flow) fun z0 =>
 .leaf (decide (z0.High > x2))
def mQ : FnM := nfM (Int × aY × Int) (Bool) (fun p => ([.int .i64 p.1, .ptr 0 0, .ptr 1 0], [.var [.int .i64 p.2.1.Road.From, .int .i64 p.2.1.Road.To, .int .i64 p.2.1.Road.Length, .int .i64 p.2.1.Road.Area, .bool p.2.1.Road.Walk, .bool p.2.1.Road.Closed, .int .i64 p.2.1.Road.Rest.Low, .int .i64 p.2.1.Road.Rest.High, .int .i64 p.2.1.Road.Lift.Low, .int .i64 p.2.1.Road.Lift.High, .own 2 0], .var [.int .i64 p.2.2], rowA 0 5 172 aT.enc p.2.1.blowers_])) (fun p => Dn p.1 p.2.1 p.2.2) (fun r => .bool r) (fun ins _ => [dB ins 0, dB ins 1, dB ins 2])
def Uo : Env := envM [(112, dX.c)] [] [] [] [] 3
theorem Qt : aN Tryz.prog 111 mQ.c := mQ.tells Tryz.func111 (show ∀ p, arun Uo Tryz.f111 (mQ.enc p).1 (mQ.enc p).2 = _ from fun p => by kernel_rfl) aP (.cons zm .nil)
def II (flow : Int) (x : aY) (x2 : Int) : Option (Bool) := mQ.val (flow, x, x2)
theorem Wz (flow : Int) (x : aY) (x2 : Int) : II flow x x2 = (Dn flow x x2).get := mQ.val_eq (fun x => (intA (gd x.1 0), ⟨⟨intA (gd (varL (dB x.2 0)) 0), intA (gd (varL (dB x.2 0)) 1), intA (gd (varL (dB x.2 0)) 2), intA (gd (varL (dB x.2 0)) 3), iR (gd (varL (dB x.2 0)) 4), iR (gd (varL (dB x.2 0)) 5), ⟨intA (gd (varL (dB x.2 0)) 6), intA (gd (varL (dB x.2 0)) 7)⟩, ⟨intA (gd (varL (dB x.2 0)) 8), intA (gd (varL (dB x.2 0)) 9)⟩⟩, sqB aT.dec (dB x.2 2)⟩, intA (gd (varL (dB x.2 1)) 0))) (fun p => by kernel_rfl) (flow, x, x2)
def BK (i : Int) (y0 : aY) (y1 : Int) : DT (Bool) :=
 .bind (II (wr (i - (1048576 : Int))) y0 y1) fun z0 =>
 .leaf z0
def kV : FnM := nfM (Int × aY × Int) (Bool) (fun p => ([.int .i64 p.1, .ptr 0 0], [.var [.fn 111 [.ptr 1 0, .ptr 2 0]], .var [.int .i64 p.2.1.Road.From, .int .i64 p.2.1.Road.To, .int .i64 p.2.1.Road.Length, .int .i64 p.2.1.Road.Area, .bool p.2.1.Road.Walk, .bool p.2.1.Road.Closed, .int .i64 p.2.1.Road.Rest.Low, .int .i64 p.2.1.Road.Rest.High, .int .i64 p.2.1.Road.Lift.Low, .int .i64 p.2.1.Road.Lift.High, .own 3 0], .var [.int .i64 p.2.2], rowA 0 5 172 aT.enc p.2.1.blowers_])) (fun p => BK p.1 p.2.1 p.2.2) (fun r => .bool r) (fun ins _ => [dB ins 0, dB ins 1, dB ins 2, dB ins 3])
def RV : Env := envM [(111, mQ.c)] [] [] [] [] 4
theorem OG : aN Tryz.prog 133 kV.c := kV.tells Tryz.func133 (show ∀ p, arun RV Tryz.f133 (kV.enc p).1 (kV.enc p).2 = _ from fun p => by kernel_rfl) aP (.cons Qt .nil)
def FV (i : Int) (y0 : aY) (y1 : Int) : Option (Bool) := kV.val (i, y0, y1)
theorem Ut (i : Int) (y0 : aY) (y1 : Int) : FV i y0 y1 = (BK i y0 y1).get := kV.val_eq (fun x => (intA (gd x.1 0), ⟨⟨intA (gd (varL (dB x.2 1)) 0), intA (gd (varL (dB x.2 1)) 1), intA (gd (varL (dB x.2 1)) 2), intA (gd (varL (dB x.2 1)) 3), iR (gd (varL (dB x.2 1)) 4), iR (gd (varL (dB x.2 1)) 5), ⟨intA (gd (varL (dB x.2 1)) 6), intA (gd (varL (dB x.2 1)) 7)⟩, ⟨intA (gd (varL (dB x.2 1)) 8), intA (gd (varL (dB x.2 1)) 9)⟩⟩, sqB aT.dec (dB x.2 3)⟩, intA (gd (varL (dB x.2 2)) 0))) (fun p => by kernel_rfl) (i, y0, y1)
def nN (u2_1 u2_2 u2_3 u2_4 : Int) (u2_5 u2_6 : Bool) (u2_7 u2_8 u2_9 u2_10 u2_11 : Int) (u2_12 : Sq aT) (u2_0 u2_13 : Int) : DT (LR (Int × Int) (Int) (Unit)) :=
 .ite (decide (u2_13 < u2_0)) (
 .bind (FV (wr ((IntKind.u64.wrap (wr (u2_13 + u2_0))) / 2 ^ (Int.toNat (1 : Int)))) (aY.mk (aB.mk u2_1 u2_2 u2_3 u2_4 u2_5 u2_6 (aK.mk u2_7 u2_8) (aK.mk u2_9 u2_10)) u2_12) u2_11) fun z0 =>
 .ite (!z0) (
 .leaf (.next (u2_0, (wr ((wr ((IntKind.u64.wrap (wr (u2_13 + u2_0))) / 2 ^ (Int.toNat (1 : Int)))) + (1 : Int)))))) (
 .leaf (.next ((wr ((IntKind.u64.wrap (wr (u2_13 + u2_0))) / 2 ^ (Int.toNat (1 : Int)))), u2_13)))) (
 .leaf (.l u2_13))
def uI : LpM := ⟨Int × Int × Int × Int × Bool × Bool × Int × Int × Int × Int × Int × (Sq aT), Int × Int, Int, Unit, fun p => ⟨[(1, .fn 133 [.ptr 0 0]), (5, .int .i64 p.2.2), (6, .int .i64 p.2.1)], [(0, .var [.fn 111 [.ptr 1 0, .ptr 2 0]]), (1, .var [.int .i64 p.1.1, .int .i64 p.1.2.1, .int .i64 p.1.2.2.1, .int .i64 p.1.2.2.2.1, .bool p.1.2.2.2.2.1, .bool p.1.2.2.2.2.2.1, .int .i64 p.1.2.2.2.2.2.2.1, .int .i64 p.1.2.2.2.2.2.2.2.1, .int .i64 p.1.2.2.2.2.2.2.2.2.1, .int .i64 p.1.2.2.2.2.2.2.2.2.2.1, .own 3 0]), (2, .var [.int .i64 p.1.2.2.2.2.2.2.2.2.2.2.1]), (3, rowA 0 5 172 aT.enc p.1.2.2.2.2.2.2.2.2.2.2.2)], 260⟩, fun f v => nN f.1 f.2.1 f.2.2.1 f.2.2.2.1 f.2.2.2.2.1 f.2.2.2.2.2.1 f.2.2.2.2.2.2.1 f.2.2.2.2.2.2.2.1 f.2.2.2.2.2.2.2.2.1 f.2.2.2.2.2.2.2.2.2.1 f.2.2.2.2.2.2.2.2.2.2.1 f.2.2.2.2.2.2.2.2.2.2.2 v.1 v.2, true, (.exit 0), (fun x a => ⟨[(5, .int .i64 a)], [(0, .var [.fn 111 [.ptr 1 0, .ptr 2 0]]), (1, blkS x 1), (2, blkS x 2), (3, blkS x 3)], 260⟩), .ret, (fun _ _ => ⟨[], [], 0⟩), c1, c1k⟩
def Qb (u2_1 u2_2 u2_3 u2_4 : Int) (u2_5 u2_6 : Bool) (u2_7 u2_8 u2_9 u2_10 u2_11 : Int) (u2_12 : Sq aT) (u2_0 u2_13 : Int) : Option ((Int) ⊕ (Unit)) := uI.val ((u2_1, u2_2, u2_3, u2_4, u2_5, u2_6, u2_7, u2_8, u2_9, u2_10, u2_11, u2_12), (u2_0, u2_13))
theorem VH (u2_1 u2_2 u2_3 u2_4 : Int) (u2_5 u2_6 : Bool) (u2_7 u2_8 u2_9 u2_10 u2_11 : Int) (u2_12 : Sq aT) (u2_0 u2_13 : Int) : Qb u2_1 u2_2 u2_3 u2_4 u2_5 u2_6 u2_7 u2_8 u2_9 u2_10 u2_11 u2_12 u2_0 u2_13 = fixO (fun v : Int × Int => nN u2_1 u2_2 u2_3 u2_4 u2_5 u2_6 u2_7 u2_8 u2_9 u2_10 u2_11 u2_12 v.1 v.2) (u2_0, u2_13) := uI.val_eq (fun x => ((intA (cellS x 1 0), intA (cellS x 1 1), intA (cellS x 1 2), intA (cellS x 1 3), iR (cellS x 1 4), iR (cellS x 1 5), intA (cellS x 1 6), intA (cellS x 1 7), intA (cellS x 1 8), intA (cellS x 1 9), intA (cellS x 2 0), sqB aT.dec (blkS x 3)), (intA (aget x.tm 6), intA (aget x.tm 5)))) (fun p => by kernel_rfl) ((u2_1, u2_2, u2_3, u2_4, u2_5, u2_6, u2_7, u2_8, u2_9, u2_10, u2_11, u2_12), (u2_0, u2_13))
def Ki (n : Int) (y0 : aY) (y1 : Int) : DT (Int) :=
 .sum (Qb y0.Road.From y0.Road.To y0.Road.Length y0.Road.Area y0.Road.Walk y0.Road.Closed y0.Road.Rest.Low y0.Road.Rest.High y0.Road.Lift.Low y0.Road.Lift.High y1 y0.blowers_ n (0 : Int)) (fun y2 =>
 .leaf y2) (fun _ => .fail)
def tK : FnM := nfM (Int × aY × Int) (Int) (fun p => ([.int .i64 p.1, .fn 133 [.ptr 0 0]], [.var [.fn 111 [.ptr 1 0, .ptr 2 0]], .var [.int .i64 p.2.1.Road.From, .int .i64 p.2.1.Road.To, .int .i64 p.2.1.Road.Length, .int .i64 p.2.1.Road.Area, .bool p.2.1.Road.Walk, .bool p.2.1.Road.Closed, .int .i64 p.2.1.Road.Rest.Low, .int .i64 p.2.1.Road.Rest.High, .int .i64 p.2.1.Road.Lift.Low, .int .i64 p.2.1.Road.Lift.High, .own 3 0], .var [.int .i64 p.2.2], rowA 0 5 172 aT.enc p.2.1.blowers_])) (fun p => Ki p.1 p.2.1 p.2.2) (fun r => .int .i64 r) (fun ins _ => [dB ins 0, dB ins 1, dB ins 2, dB ins 3])
def NP : Env := envM [(133, kV.c)] [(2, [1, 5, 6], [5])] [(2, uI.c)] [] [(2, [0, 1, 2, 3])] 4
def acw : Env := { NP with nt := 26 }
theorem Pe : aG acw (aH 2 Tryz.f93) uI.c := uI.tells 260 (fun _ => by kernel_rfl) (fun _ _ _ _ => by kernel_rfl) (fun _ _ _ _ => by kernel_rfl) fun R f v N K => by kernel_rfl
theorem VI : aN Tryz.prog 93 tK.c := tK.tells Tryz.func93 (show ∀ p, arun NP Tryz.f93 (tK.enc p).1 (tK.enc p).2 = _ from fun p => by kernel_rfl) (bf [aH 2 Tryz.f93] (by kernel_rfl) ⟨lpT (by kernel_rfl) Pe, trivial⟩) (.cons OG .nil)
def sort_Search (n : Int) (y0 : aY) (y1 : Int) : Option (Int) := tK.val (n, y0, y1)
theorem aaH (n : Int) (y0 : aY) (y1 : Int) : sort_Search n y0 y1 = (Ki n y0 y1).get := tK.val_eq (fun x => (intA (gd x.1 0), ⟨⟨intA (gd (varL (dB x.2 1)) 0), intA (gd (varL (dB x.2 1)) 1), intA (gd (varL (dB x.2 1)) 2), intA (gd (varL (dB x.2 1)) 3), iR (gd (varL (dB x.2 1)) 4), iR (gd (varL (dB x.2 1)) 5), ⟨intA (gd (varL (dB x.2 1)) 6), intA (gd (varL (dB x.2 1)) 7)⟩, ⟨intA (gd (varL (dB x.2 1)) 8), intA (gd (varL (dB x.2 1)) 9)⟩⟩, sqB aT.dec (dB x.2 3)⟩, intA (gd (varL (dB x.2 2)) 0))) (fun p => by kernel_rfl) (n, y0, y1)
def FW (y0 : aY) (y1 : Int) : DT (Int) :=
 .bind (sort_Search (2097153 : Int) y0 y1) fun z0 =>
 .leaf (wr (z0 - (1048576 : Int)))
def pY : FnM := nfM (aY × Int) (Int) (fun p => ([.fn 111 [.ptr 0 0, .ptr 1 0]], [.var [.int .i64 p.1.Road.From, .int .i64 p.1.Road.To, .int .i64 p.1.Road.Length, .int .i64 p.1.Road.Area, .bool p.1.Road.Walk, .bool p.1.Road.Closed, .int .i64 p.1.Road.Rest.Low, .int .i64 p.1.Road.Rest.High, .int .i64 p.1.Road.Lift.Low, .int .i64 p.1.Road.Lift.High, .own 2 0], .var [.int .i64 p.2], rowA 0 5 172 aT.enc p.1.blowers_])) (fun p => FW p.1 p.2) (fun r => .int .i64 r) (fun ins _ => [dB ins 0, dB ins 1, dB ins 2])
def WE : Env := envM [(93, tK.c)] [] [] [] [] 3
theorem RX : aN Tryz.prog 110 pY.c := pY.tells Tryz.func110 (show ∀ p, arun WE Tryz.f110 (pY.enc p).1 (pY.enc p).2 = _ from fun p => by kernel_rfl) aP (.cons VI .nil)
def LX (y0 : aY) (y1 : Int) : Option (Int) := pY.val (y0, y1)
theorem Yi (y0 : aY) (y1 : Int) : LX y0 y1 = (FW y0 y1).get := pY.val_eq (fun x => (⟨⟨intA (gd (varL (dB x.2 0)) 0), intA (gd (varL (dB x.2 0)) 1), intA (gd (varL (dB x.2 0)) 2), intA (gd (varL (dB x.2 0)) 3), iR (gd (varL (dB x.2 0)) 4), iR (gd (varL (dB x.2 0)) 5), ⟨intA (gd (varL (dB x.2 0)) 6), intA (gd (varL (dB x.2 0)) 7)⟩, ⟨intA (gd (varL (dB x.2 0)) 8), intA (gd (varL (dB x.2 0)) 9)⟩⟩, sqB aT.dec (dB x.2 2)⟩, intA (gd (varL (dB x.2 1)) 0))) (fun p => by kernel_rfl) (y0, y1)
def Dp (flow : Int) (x : aY) (x2 : Int) : DT (Bool) :=
 .bind (uW x flow) fun z0 =>
 .leaf (decide (z0.Low ≥ x2))
def mR : FnM := nfM (Int × aY × Int) (Bool) (fun p => ([.int .i64 p.1, .ptr 0 0, .ptr 1 0], [.var [.int .i64 p.2.1.Road.From, .int .i64 p.2.1.Road.To, .int .i64 p.2.1.Road.Length, .int .i64 p.2.1.Road.Area, .bool p.2.1.Road.Walk, .bool p.2.1.Road.Closed, .int .i64 p.2.1.Road.Rest.Low, .int .i64 p.2.1.Road.Rest.High, .int .i64 p.2.1.Road.Lift.Low, .int .i64 p.2.1.Road.Lift.High, .own 2 0], .var [.int .i64 p.2.2], rowA 0 5 172 aT.enc p.2.1.blowers_])) (fun p => Dp p.1 p.2.1 p.2.2) (fun r => .bool r) (fun ins _ => [dB ins 0, dB ins 1, dB ins 2])
def Uq : Env := envM [(112, dX.c)] [] [] [] [] 3
theorem Qu : aN Tryz.prog 113 mR.c := mR.tells Tryz.func113 (show ∀ p, arun Uq Tryz.f113 (mR.enc p).1 (mR.enc p).2 = _ from fun p => by kernel_rfl) aP (.cons zm .nil)
def IJ (flow : Int) (x : aY) (x2 : Int) : Option (Bool) := mR.val (flow, x, x2)
theorem WA (flow : Int) (x : aY) (x2 : Int) : IJ flow x x2 = (Dp flow x x2).get := mR.val_eq (fun x => (intA (gd x.1 0), ⟨⟨intA (gd (varL (dB x.2 0)) 0), intA (gd (varL (dB x.2 0)) 1), intA (gd (varL (dB x.2 0)) 2), intA (gd (varL (dB x.2 0)) 3), iR (gd (varL (dB x.2 0)) 4), iR (gd (varL (dB x.2 0)) 5), ⟨intA (gd (varL (dB x.2 0)) 6), intA (gd (varL (dB x.2 0)) 7)⟩, ⟨intA (gd (varL (dB x.2 0)) 8), intA (gd (varL (dB x.2 0)) 9)⟩⟩, sqB aT.dec (dB x.2 2)⟩, intA (gd (varL (dB x.2 1)) 0))) (fun p => by kernel_rfl) (flow, x, x2)
def yR (i : Int) (y0 : aY) (y1 : Int) : DT (Bool) :=
 .bind (IJ (wr (i - (1048576 : Int))) y0 y1) fun z0 =>
 .leaf z0
def iC : FnM := nfM (Int × aY × Int) (Bool) (fun p => ([.int .i64 p.1, .ptr 0 0], [.var [.fn 113 [.ptr 1 0, .ptr 2 0]], .var [.int .i64 p.2.1.Road.From, .int .i64 p.2.1.Road.To, .int .i64 p.2.1.Road.Length, .int .i64 p.2.1.Road.Area, .bool p.2.1.Road.Walk, .bool p.2.1.Road.Closed, .int .i64 p.2.1.Road.Rest.Low, .int .i64 p.2.1.Road.Rest.High, .int .i64 p.2.1.Road.Lift.Low, .int .i64 p.2.1.Road.Lift.High, .own 3 0], .var [.int .i64 p.2.2], rowA 0 5 172 aT.enc p.2.1.blowers_])) (fun p => yR p.1 p.2.1 p.2.2) (fun r => .bool r) (fun ins _ => [dB ins 0, dB ins 1, dB ins 2, dB ins 3])
def LY : Env := envM [(113, mR.c)] [] [] [] [] 4
theorem IV : aN Tryz.prog 133 iC.c := iC.tells Tryz.func133 (show ∀ p, arun LY Tryz.f133 (iC.enc p).1 (iC.enc p).2 = _ from fun p => by kernel_rfl) aP (.cons Qu .nil)
def AB (i : Int) (y0 : aY) (y1 : Int) : Option (Bool) := iC.val (i, y0, y1)
theorem OH (i : Int) (y0 : aY) (y1 : Int) : AB i y0 y1 = (yR i y0 y1).get := iC.val_eq (fun x => (intA (gd x.1 0), ⟨⟨intA (gd (varL (dB x.2 1)) 0), intA (gd (varL (dB x.2 1)) 1), intA (gd (varL (dB x.2 1)) 2), intA (gd (varL (dB x.2 1)) 3), iR (gd (varL (dB x.2 1)) 4), iR (gd (varL (dB x.2 1)) 5), ⟨intA (gd (varL (dB x.2 1)) 6), intA (gd (varL (dB x.2 1)) 7)⟩, ⟨intA (gd (varL (dB x.2 1)) 8), intA (gd (varL (dB x.2 1)) 9)⟩⟩, sqB aT.dec (dB x.2 3)⟩, intA (gd (varL (dB x.2 2)) 0))) (fun p => by kernel_rfl) (i, y0, y1)
def jJ (u2_1 u2_2 u2_3 u2_4 : Int) (u2_5 u2_6 : Bool) (u2_7 u2_8 u2_9 u2_10 u2_11 : Int) (u2_12 : Sq aT) (u2_0 u2_13 : Int) : DT (LR (Int × Int) (Int) (Unit)) :=
 .ite (decide (u2_13 < u2_0)) (
 .bind (AB (wr ((IntKind.u64.wrap (wr (u2_13 + u2_0))) / 2 ^ (Int.toNat (1 : Int)))) (aY.mk (aB.mk u2_1 u2_2 u2_3 u2_4 u2_5 u2_6 (aK.mk u2_7 u2_8) (aK.mk u2_9 u2_10)) u2_12) u2_11) fun z0 =>
 .ite (!z0) (
 .leaf (.next (u2_0, (wr ((wr ((IntKind.u64.wrap (wr (u2_13 + u2_0))) / 2 ^ (Int.toNat (1 : Int)))) + (1 : Int)))))) (
 .leaf (.next ((wr ((IntKind.u64.wrap (wr (u2_13 + u2_0))) / 2 ^ (Int.toNat (1 : Int)))), u2_13)))) (
 .leaf (.l u2_13))
def nO : LpM := ⟨Int × Int × Int × Int × Bool × Bool × Int × Int × Int × Int × Int × (Sq aT), Int × Int, Int, Unit, fun p => ⟨[(1, .fn 133 [.ptr 0 0]), (5, .int .i64 p.2.2), (6, .int .i64 p.2.1)], [(0, .var [.fn 113 [.ptr 1 0, .ptr 2 0]]), (1, .var [.int .i64 p.1.1, .int .i64 p.1.2.1, .int .i64 p.1.2.2.1, .int .i64 p.1.2.2.2.1, .bool p.1.2.2.2.2.1, .bool p.1.2.2.2.2.2.1, .int .i64 p.1.2.2.2.2.2.2.1, .int .i64 p.1.2.2.2.2.2.2.2.1, .int .i64 p.1.2.2.2.2.2.2.2.2.1, .int .i64 p.1.2.2.2.2.2.2.2.2.2.1, .own 3 0]), (2, .var [.int .i64 p.1.2.2.2.2.2.2.2.2.2.2.1]), (3, rowA 0 5 172 aT.enc p.1.2.2.2.2.2.2.2.2.2.2.2)], 260⟩, fun f v => jJ f.1 f.2.1 f.2.2.1 f.2.2.2.1 f.2.2.2.2.1 f.2.2.2.2.2.1 f.2.2.2.2.2.2.1 f.2.2.2.2.2.2.2.1 f.2.2.2.2.2.2.2.2.1 f.2.2.2.2.2.2.2.2.2.1 f.2.2.2.2.2.2.2.2.2.2.1 f.2.2.2.2.2.2.2.2.2.2.2 v.1 v.2, true, (.exit 0), (fun x a => ⟨[(5, .int .i64 a)], [(0, .var [.fn 113 [.ptr 1 0, .ptr 2 0]]), (1, blkS x 1), (2, blkS x 2), (3, blkS x 3)], 260⟩), .ret, (fun _ _ => ⟨[], [], 0⟩), c1, c1k⟩
def Ij (u2_1 u2_2 u2_3 u2_4 : Int) (u2_5 u2_6 : Bool) (u2_7 u2_8 u2_9 u2_10 u2_11 : Int) (u2_12 : Sq aT) (u2_0 u2_13 : Int) : Option ((Int) ⊕ (Unit)) := nO.val ((u2_1, u2_2, u2_3, u2_4, u2_5, u2_6, u2_7, u2_8, u2_9, u2_10, u2_11, u2_12), (u2_0, u2_13))
theorem Pf (u2_1 u2_2 u2_3 u2_4 : Int) (u2_5 u2_6 : Bool) (u2_7 u2_8 u2_9 u2_10 u2_11 : Int) (u2_12 : Sq aT) (u2_0 u2_13 : Int) : Ij u2_1 u2_2 u2_3 u2_4 u2_5 u2_6 u2_7 u2_8 u2_9 u2_10 u2_11 u2_12 u2_0 u2_13 = fixO (fun v : Int × Int => jJ u2_1 u2_2 u2_3 u2_4 u2_5 u2_6 u2_7 u2_8 u2_9 u2_10 u2_11 u2_12 v.1 v.2) (u2_0, u2_13) := nO.val_eq (fun x => ((intA (cellS x 1 0), intA (cellS x 1 1), intA (cellS x 1 2), intA (cellS x 1 3), iR (cellS x 1 4), iR (cellS x 1 5), intA (cellS x 1 6), intA (cellS x 1 7), intA (cellS x 1 8), intA (cellS x 1 9), intA (cellS x 2 0), sqB aT.dec (blkS x 3)), (intA (aget x.tm 6), intA (aget x.tm 5)))) (fun p => by kernel_rfl) ((u2_1, u2_2, u2_3, u2_4, u2_5, u2_6, u2_7, u2_8, u2_9, u2_10, u2_11, u2_12), (u2_0, u2_13))
def Cg (n : Int) (y0 : aY) (y1 : Int) : DT (Int) :=
 .sum (Ij y0.Road.From y0.Road.To y0.Road.Length y0.Road.Area y0.Road.Walk y0.Road.Closed y0.Road.Rest.Low y0.Road.Rest.High y0.Road.Lift.Low y0.Road.Lift.High y1 y0.blowers_ n (0 : Int)) (fun y2 =>
 .leaf y2) (fun _ => .fail)
def lu : FnM := nfM (Int × aY × Int) (Int) (fun p => ([.int .i64 p.1, .fn 133 [.ptr 0 0]], [.var [.fn 113 [.ptr 1 0, .ptr 2 0]], .var [.int .i64 p.2.1.Road.From, .int .i64 p.2.1.Road.To, .int .i64 p.2.1.Road.Length, .int .i64 p.2.1.Road.Area, .bool p.2.1.Road.Walk, .bool p.2.1.Road.Closed, .int .i64 p.2.1.Road.Rest.Low, .int .i64 p.2.1.Road.Rest.High, .int .i64 p.2.1.Road.Lift.Low, .int .i64 p.2.1.Road.Lift.High, .own 3 0], .var [.int .i64 p.2.2], rowA 0 5 172 aT.enc p.2.1.blowers_])) (fun p => Cg p.1 p.2.1 p.2.2) (fun r => .int .i64 r) (fun ins _ => [dB ins 0, dB ins 1, dB ins 2, dB ins 3])
def FE : Env := envM [(133, iC.c)] [(2, [1, 5, 6], [5])] [(2, nO.c)] [] [(2, [0, 1, 2, 3])] 4
def XJ : Env := { FE with nt := 26 }
theorem Kj : aG XJ (aH 2 Tryz.f93) nO.c := nO.tells 260 (fun _ => by kernel_rfl) (fun _ _ _ _ => by kernel_rfl) (fun _ _ _ _ => by kernel_rfl) fun R f v N K => by kernel_rfl
theorem Pg : aN Tryz.prog 93 lu.c := lu.tells Tryz.func93 (show ∀ p, arun FE Tryz.f93 (lu.enc p).1 (lu.enc p).2 = _ from fun p => by kernel_rfl) (bf [aH 2 Tryz.f93] (by kernel_rfl) ⟨lpT (by kernel_rfl) Kj, trivial⟩) (.cons IV .nil)
def GH (n : Int) (y0 : aY) (y1 : Int) : Option (Int) := lu.val (n, y0, y1)
theorem VJ (n : Int) (y0 : aY) (y1 : Int) : GH n y0 y1 = (Cg n y0 y1).get := lu.val_eq (fun x => (intA (gd x.1 0), ⟨⟨intA (gd (varL (dB x.2 1)) 0), intA (gd (varL (dB x.2 1)) 1), intA (gd (varL (dB x.2 1)) 2), intA (gd (varL (dB x.2 1)) 3), iR (gd (varL (dB x.2 1)) 4), iR (gd (varL (dB x.2 1)) 5), ⟨intA (gd (varL (dB x.2 1)) 6), intA (gd (varL (dB x.2 1)) 7)⟩, ⟨intA (gd (varL (dB x.2 1)) 8), intA (gd (varL (dB x.2 1)) 9)⟩⟩, sqB aT.dec (dB x.2 3)⟩, intA (gd (varL (dB x.2 2)) 0))) (fun p => by kernel_rfl) (n, y0, y1)
def AJ (y0 : aY) (y1 : Int) : DT (Int) :=
 .bind (GH (2097153 : Int) y0 y1) fun z0 =>
 .leaf (wr (z0 - (1048576 : Int)))
def jP : FnM := nfM (aY × Int) (Int) (fun p => ([.fn 113 [.ptr 0 0, .ptr 1 0]], [.var [.int .i64 p.1.Road.From, .int .i64 p.1.Road.To, .int .i64 p.1.Road.Length, .int .i64 p.1.Road.Area, .bool p.1.Road.Walk, .bool p.1.Road.Closed, .int .i64 p.1.Road.Rest.Low, .int .i64 p.1.Road.Rest.High, .int .i64 p.1.Road.Lift.Low, .int .i64 p.1.Road.Lift.High, .own 2 0], .var [.int .i64 p.2], rowA 0 5 172 aT.enc p.1.blowers_])) (fun p => AJ p.1 p.2) (fun r => .int .i64 r) (fun ins _ => [dB ins 0, dB ins 1, dB ins 2])
def Qy : Env := envM [(93, lu.c)] [] [] [] [] 3
theorem LZ : aN Tryz.prog 110 jP.c := jP.tells Tryz.func110 (show ∀ p, arun Qy Tryz.f110 (jP.enc p).1 (jP.enc p).2 = _ from fun p => by kernel_rfl) aP (.cons Pg .nil)
def Du (y0 : aY) (y1 : Int) : Option (Int) := jP.val (y0, y1)
theorem RY (y0 : aY) (y1 : Int) : Du y0 y1 = (AJ y0 y1).get := jP.val_eq (fun x => (⟨⟨intA (gd (varL (dB x.2 0)) 0), intA (gd (varL (dB x.2 0)) 1), intA (gd (varL (dB x.2 0)) 2), intA (gd (varL (dB x.2 0)) 3), iR (gd (varL (dB x.2 0)) 4), iR (gd (varL (dB x.2 0)) 5), ⟨intA (gd (varL (dB x.2 0)) 6), intA (gd (varL (dB x.2 0)) 7)⟩, ⟨intA (gd (varL (dB x.2 0)) 8), intA (gd (varL (dB x.2 0)) 9)⟩⟩, sqB aT.dec (dB x.2 2)⟩, intA (gd (varL (dB x.2 1)) 0))) (fun p => by kernel_rfl) (y0, y1)
def IK (a : SAir) (s : au) (road pressure : Int) : DT (aK) :=
 .bind (IX a s road) fun z0 =>
 .ite (!z0.2) (
 .leaf (aK.mk (0 : Int) (0 : Int))) (
 .bind (LX z0.1 pressure) fun z1 =>
 .bind (Du z0.1 pressure) fun z2 =>
 .leaf (aK.mk (wr (z1 - (1 : Int))) z2))
def rX : FnM := flM (SAir × au × Int × Int) (aK) (fun p => ([.agg (SAir.enc p.1), .agg (au.enc p.2.1), .int .i64 p.2.2.1, .int .i64 p.2.2.2], [])) (fun p => IK p.1 p.2.1 p.2.2.1 p.2.2.2) (fun r => .agg (aK.enc r)) (fun _ => rfl)
def Yg : Env := envM [(109, rZ.c), (110, orC [6, 111, 2, 5, 0, 0, 5, 1, 0, 10, 11, 1, 1, 1, 1, 2, 2, 1, 1, 1, 1, 4, 2, 0, 10, 1, 1, 11, 5] pY.c (jP.c))] [] [] [] [] 0
theorem Ur : aN Tryz.prog 91 rX.c := rX.tells Tryz.func91 (show ∀ p, arun Yg Tryz.f91 (rX.enc p).1 (rX.enc p).2 = _ from fun p => by kernel_rfl) aP (.cons Uw (.cons (ahA RX (LZ)) .nil))
def Av (a : SAir) (s : au) (road pressure : Int) : Option (aK) := rX.val (a, s, road, pressure)
theorem ZB (a : SAir) (s : au) (road pressure : Int) : Av a s road pressure = (IK a s road pressure).get := rX.val_eq (fun x => (SAir.dec (aggL (gd x.1 0)), au.dec (aggL (gd x.1 1)), intA (gd x.1 2), intA (gd x.1 3))) (fun p => by kernel_rfl) (a, s, road, pressure)
def nY (j : aU) (road pressure : Int) : DT (aK) :=
 .bind (N9 j.air_.Mine road j.place_) fun z0 =>
 .ite (decide ((0 : Int) ≤ z0 ∧ z0 < ((j.pressures_.n : Nat) : Int))) (
 .ite (decide ((0 : Int) ≤ road ∧ road < ((j.air_.Mine.Roads.n : Nat) : Int))) (
 .ite ((j.air_.Mine.Roads.f (Int.toNat road)).From == j.place_) (
 .bind (Av j.air_ j.setting_ road (wr (pressure - (j.pressures_.f (Int.toNat z0))))) fun z1 =>
 .leaf z1) (
 .bind (Av j.air_ j.setting_ road (wr ((j.pressures_.f (Int.toNat z0)) - pressure))) fun z2 =>
 .leaf (aK.mk (wr (0 - z2.High)) (wr (0 - z2.Low))))) (
 .fail)) (
 .fail)
def bJ : FnM := nfM (aU × Int × Int) (aK) (fun p => ([.ptr 0 0, .int .i64 p.2.1, .int .i64 p.2.2], [.var [sqA 2 ay.enc p.1.air_.Mine.Places, .own 1 0, .own 2 0, .own 3 0, .own 4 0, .own 5 0, sqA 1 (eI .i64) p.1.pressures_, .int .i64 p.1.place_], rowA 0 10 70 aB.enc p.1.air_.Mine.Roads, rowA 0 4 73 SFan.enc p.1.air_.Fans, rowA 0 3 91 aC.enc p.1.air_.Doors, rowA 0 1 3 (eI .i64) p.1.setting_.Fans, rowA 0 1 3 (eI .i64) p.1.setting_.Doors])) (fun p => nY p.1 p.2.1 p.2.2) (fun r => .agg (aK.enc r)) (fun ins _ => [dB ins 0, dB ins 1, dB ins 2, dB ins 3, dB ins 4, dB ins 5])
def Cz : Env := envM [(90, rC.c), (91, rX.c)] [] [] [] [] 6
theorem Bq : aN Tryz.prog 71 bJ.c := bJ.tells Tryz.func71 (show ∀ p, arun Cz Tryz.f71 (bJ.enc p).1 (bJ.enc p).2 = _ from fun p => by kernel_rfl) aP (.cons KD (.cons Ur .nil))
def kN (j : aU) (road pressure : Int) : Option (aK) := bJ.val (j, road, pressure)
theorem Dl (j : aU) (road pressure : Int) : kN j road pressure = (nY j road pressure).get := bJ.val_eq (fun x => (⟨⟨⟨sqD ay.dec (gd (varL (dB x.2 0)) 0), sqB aB.dec (dB x.2 1)⟩, sqB SFan.dec (dB x.2 2), sqB aC.dec (dB x.2 3)⟩, ⟨sqB dI (dB x.2 4), sqB dI (dB x.2 5)⟩, sqD dI (gd (varL (dB x.2 0)) 6), intA (gd (varL (dB x.2 0)) 7)⟩, intA (gd x.1 1), intA (gd x.1 2))) (fun p => by kernel_rfl) (j, road, pressure)
def eZ (u3_0 : Int) (u3_2 : Sq ay) (u3_3 : Sq Int) (u3_4 : Int) (u3_5 : Sq aB) (u3_6 : Sq SFan) (u3_7 : Sq aC) (u3_8 u3_9 : Sq Int) (u3_10 u3_11 u3_12 : Int) : DT (LR (Int × Int × Int) (Int × Int) (Unit)) :=
 .ite (decide (u3_10 < ((u3_5.n : Nat) : Int))) (
 .bind (kN (aU.mk (SAir.mk (aL.mk u3_2 u3_5) u3_6 u3_7) (au.mk u3_8 u3_9) u3_3 u3_4) u3_10 u3_0) fun z0 =>
 .leaf (.next ((wr (u3_10 + (1 : Int))), (wr (u3_11 + z0.Low)), (wr (u3_12 + z0.High))))) (
 .leaf (.l (u3_11, u3_12)))
def gI : LpM := ⟨Int × (Sq ay) × (Sq Int) × Int × (Sq aB) × (Sq SFan) × (Sq aC) × (Sq Int) × (Sq Int), Int × Int × Int, Int × Int, Unit, fun p => ⟨[(0, .ptr 0 0), (1, .int .i64 p.1.1), (4, .ptr 6 0), (5, .ptr 70 0), (14, .int .i64 ((p.1.2.2.2.2.1.n : Nat) : Int)), (15, .int .i64 p.2.1)], [(0, .var [sqA 2 ay.enc p.1.2.1, .own 1 0, .own 2 0, .own 3 0, .own 4 0, .own 5 0, sqA 1 (eI .i64) p.1.2.2.1, .int .i64 p.1.2.2.2.1]), (1, rowA 0 10 70 aB.enc p.1.2.2.2.2.1), (2, rowA 0 4 73 SFan.enc p.1.2.2.2.2.2.1), (3, rowA 0 3 91 aC.enc p.1.2.2.2.2.2.2.1), (4, rowA 0 1 3 (eI .i64) p.1.2.2.2.2.2.2.2.1), (5, rowA 0 1 3 (eI .i64) p.1.2.2.2.2.2.2.2.2), (6, .var [.int .i64 (0 : Int), .int .i64 (0 : Int)]), (70, .var [.int .i64 p.2.2.1, .int .i64 p.2.2.2])], 646⟩, fun f v => eZ f.1 f.2.1 f.2.2.1 f.2.2.2.1 f.2.2.2.2.1 f.2.2.2.2.2.1 f.2.2.2.2.2.2.1 f.2.2.2.2.2.2.2.1 f.2.2.2.2.2.2.2.2 v.1 v.2.1 v.2.2, true, (.exit 0), (fun x a => ⟨[(4, .ptr 6 0), (5, .ptr 70 0)], [(0, blkS x 0), (1, blkS x 1), (2, blkS x 2), (3, blkS x 3), (4, blkS x 4), (5, blkS x 5), (6, .var [.int .i64 (0 : Int), .int .i64 (0 : Int)]), (70, .var [.int .i64 a.1, .int .i64 a.2])], 646⟩), .ret, (fun _ _ => ⟨[], [], 0⟩), c1, c1k⟩
def rW (u3_0 : Int) (u3_2 : Sq ay) (u3_3 : Sq Int) (u3_4 : Int) (u3_5 : Sq aB) (u3_6 : Sq SFan) (u3_7 : Sq aC) (u3_8 u3_9 : Sq Int) (u3_10 u3_11 u3_12 : Int) : Option ((Int × Int) ⊕ (Unit)) := gI.val ((u3_0, u3_2, u3_3, u3_4, u3_5, u3_6, u3_7, u3_8, u3_9), (u3_10, u3_11, u3_12))
theorem ED (u3_0 : Int) (u3_2 : Sq ay) (u3_3 : Sq Int) (u3_4 : Int) (u3_5 : Sq aB) (u3_6 : Sq SFan) (u3_7 : Sq aC) (u3_8 u3_9 : Sq Int) (u3_10 u3_11 u3_12 : Int) : rW u3_0 u3_2 u3_3 u3_4 u3_5 u3_6 u3_7 u3_8 u3_9 u3_10 u3_11 u3_12 = fixO (fun v : Int × Int × Int => eZ u3_0 u3_2 u3_3 u3_4 u3_5 u3_6 u3_7 u3_8 u3_9 v.1 v.2.1 v.2.2) (u3_10, u3_11, u3_12) := gI.val_eq (fun x => ((intA (aget x.tm 1), sqD ay.dec (cellS x 0 0), sqD dI (cellS x 0 6), intA (cellS x 0 7), sqB aB.dec (blkS x 1), sqB SFan.dec (blkS x 2), sqB aC.dec (blkS x 3), sqB dI (blkS x 4), sqB dI (blkS x 5)), (intA (aget x.tm 15), intA (cellS x 70 0), intA (cellS x 70 1)))) (fun p => by kernel_rfl) ((u3_0, u3_2, u3_3, u3_4, u3_5, u3_6, u3_7, u3_8, u3_9), (u3_10, u3_11, u3_12))
def uN (j : aU) (pressure : Int) : DT (aK) :=
 .sum (rW pressure j.air_.Mine.Places j.pressures_ j.place_ j.air_.Mine.Roads j.air_.Fans j.air_.Doors j.setting_.Fans j.setting_.Doors (0 : Int) (0 : Int) (0 : Int)) (fun y0 =>
 .leaf (aK.mk y0.1 y0.2)) (fun _ => .fail)
def bE : FnM := nfM (aU × Int) (aK) (fun p => ([.ptr 0 0, .int .i64 p.2], [.var [sqA 2 ay.enc p.1.air_.Mine.Places, .own 1 0, .own 2 0, .own 3 0, .own 4 0, .own 5 0, sqA 1 (eI .i64) p.1.pressures_, .int .i64 p.1.place_], rowA 0 10 70 aB.enc p.1.air_.Mine.Roads, rowA 0 4 73 SFan.enc p.1.air_.Fans, rowA 0 3 91 aC.enc p.1.air_.Doors, rowA 0 1 3 (eI .i64) p.1.setting_.Fans, rowA 0 1 3 (eI .i64) p.1.setting_.Doors])) (fun p => uN p.1 p.2) (fun r => .agg (aK.enc r)) (fun ins _ => [dB ins 0, dB ins 1, dB ins 2, dB ins 3, dB ins 4, dB ins 5])
def zl : Env := envM [(71, bJ.c)] [(3, [0, 1, 4, 5, 14, 15], [4, 5])] [(3, gI.c)] [] [(3, [0, 1, 2, 3, 4, 5, 6, 70])] 6
def KX : Env := { zl with nt := 36 }
theorem BG : aG KX (aH 3 Tryz.f46) gI.c := gI.tells 646 (fun _ => by kernel_rfl) (fun _ _ _ _ => by kernel_rfl) (fun _ _ _ _ => by kernel_rfl) fun R f v N K => by kernel_rfl
theorem nZ : aN Tryz.prog 46 bE.c := bE.tells Tryz.func46 (show ∀ p, arun zl Tryz.f46 (bE.enc p).1 (bE.enc p).2 = _ from fun p => by kernel_rfl) (bf [aH 3 Tryz.f46] (by kernel_rfl) ⟨lpT (by kernel_rfl) BG, trivial⟩) (.cons Bq .nil)
def lF (j : aU) (pressure : Int) : Option (aK) := bE.val (j, pressure)
theorem IB (j : aU) (pressure : Int) : lF j pressure = (uN j pressure).get := bE.val_eq (fun x => (⟨⟨⟨sqD ay.dec (gd (varL (dB x.2 0)) 0), sqB aB.dec (dB x.2 1)⟩, sqB SFan.dec (dB x.2 2), sqB aC.dec (dB x.2 3)⟩, ⟨sqB dI (dB x.2 4), sqB dI (dB x.2 5)⟩, sqD dI (gd (varL (dB x.2 0)) 6), intA (gd (varL (dB x.2 0)) 7)⟩, intA (gd x.1 1))) (fun p => by kernel_rfl) (j, pressure)
def Iy (a : SAir) (s : au) (pressures : Sq Int) (place : Int) : DT (aK) :=
 .bind (uJ a s pressures place) fun z0 =>
 .ite (!z0) (
 .leaf (aK.mk (0 : Int) (0 : Int))) (
 .bind (oJ a s pressures place) fun z1 =>
 .ite (decide ((0 : Int) ≤ place ∧ place < ((pressures.n : Nat) : Int))) (
 .bind (lF z1 (pressures.f (Int.toNat place))) fun z2 =>
 .leaf z2) (
 .fail))
def oI : FnM := flM (SAir × au × (Sq Int) × Int) (aK) (fun p => ([.agg (SAir.enc p.1), .agg (au.enc p.2.1), sqA 1 (eI .i64) p.2.2.1, .int .i64 p.2.2.2], [])) (fun p => Iy p.1 p.2.1 p.2.2.1 p.2.2.2) (fun r => .agg (aK.enc r)) (fun _ => rfl)
def Ye : Env := envM [(44, gX.c), (45, bV.c), (46, bE.c)] [] [] [] [] 0
theorem GU : aN Tryz.prog 24 oI.c := oI.tells Tryz.func24 (show ∀ p, arun Ye Tryz.f24 (oI.enc p).1 (oI.enc p).2 = _ from fun p => by kernel_rfl) aP (.cons xK (.cons qE (.cons nZ .nil)))
def Dj (a : SAir) (s : au) (pressures : Sq Int) (place : Int) : Option (aK) := oI.val (a, s, pressures, place)
theorem ZA (a : SAir) (s : au) (pressures : Sq Int) (place : Int) : Dj a s pressures place = (Iy a s pressures place).get := oI.val_eq (fun x => (SAir.dec (aggL (gd x.1 0)), au.dec (aggL (gd x.1 1)), sqD dI (gd x.1 2), intA (gd x.1 3))) (fun p => by kernel_rfl) (a, s, pressures, place)
def nC (u4_0 _u4_1 : Int) (_u4_2 : Sq ay) (_u4_3 : Sq aB) (_u4_4 : Sq SFan) (u4_5 : Sq aC) (_u4_6 u4_7 : Sq Int) (_u4_8 _u4_9 _u4_10 _u4_11 : Int) (_u4_12 _u4_13 : Bool) (_u4_14 _u4_15 _u4_16 _u4_17 u4_18 u4_19 u4_20 : Int) : DT (LR (Int × Int × Int) (Int × Int) (Unit)) :=
 .ite (decide (u4_18 < ((u4_5.n : Nat) : Int))) (
 .ite (decide ((0 : Int) ≤ u4_18 ∧ u4_18 < ((u4_5.n : Nat) : Int))) (
 .ite ((u4_5.f (Int.toNat u4_18)).Road == u4_0) (
 .ite (decide ((0 : Int) ≤ u4_18 ∧ u4_18 < ((u4_5.n : Nat) : Int))) (
 .ite (decide ((0 : Int) ≤ u4_18 ∧ u4_18 < ((u4_7.n : Nat) : Int))) (
 .bind (Oe (u4_5.f (Int.toNat u4_18)) (u4_7.f (Int.toNat u4_18))) fun z0 =>
 .leaf (.next ((wr (u4_18 + (1 : Int))), (wr (u4_19 + z0.Low)), (wr (u4_20 + z0.High))))) (
 .fail)) (
 .fail)) (
 .leaf (.next ((wr (u4_18 + (1 : Int))), u4_19, u4_20)))) (
 .fail)) (
 .leaf (.l (u4_19, u4_20)))
def uw : LpM := ⟨Int × Int × (Sq ay) × (Sq aB) × (Sq SFan) × (Sq aC) × (Sq Int) × (Sq Int) × Int × Int × Int × Int × Bool × Bool × Int × Int × Int × Int, Int × Int × Int, Int × Int, Unit, fun p => ⟨[(2, .int .i64 p.1.1), (3, .int .i64 p.1.2.1), (4, .ptr 0 0), (5, .ptr 64 0), (8, .ptr 128 0), (9, .ptr 576 0), (10, .ptr 832 0), (11, .int .i64 p.2.1)], [(0, .var [sqA 2 ay.enc p.1.2.2.1, sqA 10 aB.enc p.1.2.2.2.1, sqA 4 SFan.enc p.1.2.2.2.2.1, sqA 3 aC.enc p.1.2.2.2.2.2.1]), (64, .var [sqA 1 (eI .i64) p.1.2.2.2.2.2.2.1, sqA 1 (eI .i64) p.1.2.2.2.2.2.2.2.1]), (128, .var [.int .i64 (0 : Int), .int .i64 (0 : Int)]), (576, .var [.int .i64 p.1.2.2.2.2.2.2.2.2.1, .int .i64 p.1.2.2.2.2.2.2.2.2.2.1, .int .i64 p.1.2.2.2.2.2.2.2.2.2.2.1, .int .i64 p.1.2.2.2.2.2.2.2.2.2.2.2.1, .bool p.1.2.2.2.2.2.2.2.2.2.2.2.2.1, .bool p.1.2.2.2.2.2.2.2.2.2.2.2.2.2.1, .int .i64 p.1.2.2.2.2.2.2.2.2.2.2.2.2.2.2.1, .int .i64 p.1.2.2.2.2.2.2.2.2.2.2.2.2.2.2.2.1, .int .i64 p.1.2.2.2.2.2.2.2.2.2.2.2.2.2.2.2.2.1, .int .i64 p.1.2.2.2.2.2.2.2.2.2.2.2.2.2.2.2.2.2]), (832, .var [.int .i64 p.2.2.1, .int .i64 p.2.2.2])], 1024⟩, fun f v => nC f.1 f.2.1 f.2.2.1 f.2.2.2.1 f.2.2.2.2.1 f.2.2.2.2.2.1 f.2.2.2.2.2.2.1 f.2.2.2.2.2.2.2.1 f.2.2.2.2.2.2.2.2.1 f.2.2.2.2.2.2.2.2.2.1 f.2.2.2.2.2.2.2.2.2.2.1 f.2.2.2.2.2.2.2.2.2.2.2.1 f.2.2.2.2.2.2.2.2.2.2.2.2.1 f.2.2.2.2.2.2.2.2.2.2.2.2.2.1 f.2.2.2.2.2.2.2.2.2.2.2.2.2.2.1 f.2.2.2.2.2.2.2.2.2.2.2.2.2.2.2.1 f.2.2.2.2.2.2.2.2.2.2.2.2.2.2.2.2.1 f.2.2.2.2.2.2.2.2.2.2.2.2.2.2.2.2.2 v.1 v.2.1 v.2.2, true, (.exit 0), (fun x a => ⟨[(2, aget x.tm 2), (3, aget x.tm 3), (4, .ptr 0 0), (5, .ptr 64 0), (8, .ptr 128 0), (9, .ptr 576 0), (10, .ptr 832 0)], [(0, blkS x 0), (64, blkS x 64), (128, .var [.int .i64 (0 : Int), .int .i64 (0 : Int)]), (576, blkS x 576), (832, .var [.int .i64 a.1, .int .i64 a.2])], 1024⟩), .ret, (fun _ _ => ⟨[], [], 0⟩), c1, c1k⟩
def Gl (u4_0 u4_1 : Int) (u4_2 : Sq ay) (u4_3 : Sq aB) (u4_4 : Sq SFan) (u4_5 : Sq aC) (u4_6 u4_7 : Sq Int) (u4_8 u4_9 u4_10 u4_11 : Int) (u4_12 u4_13 : Bool) (u4_14 u4_15 u4_16 u4_17 u4_18 u4_19 u4_20 : Int) : Option ((Int × Int) ⊕ (Unit)) := uw.val ((u4_0, u4_1, u4_2, u4_3, u4_4, u4_5, u4_6, u4_7, u4_8, u4_9, u4_10, u4_11, u4_12, u4_13, u4_14, u4_15, u4_16, u4_17), (u4_18, u4_19, u4_20))
theorem Vj (u4_0 u4_1 : Int) (u4_2 : Sq ay) (u4_3 : Sq aB) (u4_4 : Sq SFan) (u4_5 : Sq aC) (u4_6 u4_7 : Sq Int) (u4_8 u4_9 u4_10 u4_11 : Int) (u4_12 u4_13 : Bool) (u4_14 u4_15 u4_16 u4_17 u4_18 u4_19 u4_20 : Int) : Gl u4_0 u4_1 u4_2 u4_3 u4_4 u4_5 u4_6 u4_7 u4_8 u4_9 u4_10 u4_11 u4_12 u4_13 u4_14 u4_15 u4_16 u4_17 u4_18 u4_19 u4_20 = fixO (fun v : Int × Int × Int => nC u4_0 u4_1 u4_2 u4_3 u4_4 u4_5 u4_6 u4_7 u4_8 u4_9 u4_10 u4_11 u4_12 u4_13 u4_14 u4_15 u4_16 u4_17 v.1 v.2.1 v.2.2) (u4_18, u4_19, u4_20) := uw.val_eq (fun x => ((intA (aget x.tm 2), intA (aget x.tm 3), sqD ay.dec (cellS x 0 0), sqD aB.dec (cellS x 0 1), sqD SFan.dec (cellS x 0 2), sqD aC.dec (cellS x 0 3), sqD dI (cellS x 64 0), sqD dI (cellS x 64 1), intA (cellS x 576 0), intA (cellS x 576 1), intA (cellS x 576 2), intA (cellS x 576 3), iR (cellS x 576 4), iR (cellS x 576 5), intA (cellS x 576 6), intA (cellS x 576 7), intA (cellS x 576 8), intA (cellS x 576 9)), (intA (aget x.tm 11), intA (cellS x 832 0), intA (cellS x 832 1)))) (fun p => by kernel_rfl) ((u4_0, u4_1, u4_2, u4_3, u4_4, u4_5, u4_6, u4_7, u4_8, u4_9, u4_10, u4_11, u4_12, u4_13, u4_14, u4_15, u4_16, u4_17), (u4_18, u4_19, u4_20))
def lS (u14_0 u14_1 : Int) (_u14_2 : Sq ay) (_u14_3 : Sq aB) (u14_4 : Sq SFan) (_u14_5 : Sq aC) (u14_6 _u14_7 : Sq Int) (u14_8 u14_9 u14_10 : Int) : DT (LR (Int × Int × Int) (Int × Int) (Unit)) :=
 .ite (decide (u14_10 < ((u14_4.n : Nat) : Int))) (
 .ite (decide ((0 : Int) ≤ u14_10 ∧ u14_10 < ((u14_4.n : Nat) : Int))) (
 .ite ((u14_4.f (Int.toNat u14_10)).Road == u14_0) (
 .ite (decide ((0 : Int) ≤ u14_10 ∧ u14_10 < ((u14_4.n : Nat) : Int))) (
 .ite (decide ((0 : Int) ≤ u14_10 ∧ u14_10 < ((u14_6.n : Nat) : Int))) (
 .bind (JC (u14_4.f (Int.toNat u14_10)) (u14_6.f (Int.toNat u14_10)) u14_1) fun z1 =>
 .leaf (.next ((wr (u14_8 - z1.High)), (wr (u14_9 - z1.Low)), (wr (u14_10 + (1 : Int)))))) (
 .fail)) (
 .fail)) (
 .leaf (.next (u14_8, u14_9, (wr (u14_10 + (1 : Int))))))) (
 .fail)) (
 .leaf (.l (u14_8, u14_9)))
def qL : LpM := ⟨Int × Int × (Sq ay) × (Sq aB) × (Sq SFan) × (Sq aC) × (Sq Int) × (Sq Int), Int × Int × Int, Int × Int, Unit, fun p => ⟨[(2, .int .i64 p.1.1), (3, .int .i64 p.1.2.1), (4, .ptr 0 0), (5, .ptr 64 0), (8, .ptr 128 0), (13, .ptr 1856 0), (14, .int .i64 p.2.2.2)], [(0, .var [sqA 2 ay.enc p.1.2.2.1, sqA 10 aB.enc p.1.2.2.2.1, sqA 4 SFan.enc p.1.2.2.2.2.1, sqA 3 aC.enc p.1.2.2.2.2.2.1]), (64, .var [sqA 1 (eI .i64) p.1.2.2.2.2.2.2.1, sqA 1 (eI .i64) p.1.2.2.2.2.2.2.2]), (128, .var [.int .i64 (0 : Int), .int .i64 (0 : Int)]), (1856, .var [.int .i64 p.2.1, .int .i64 p.2.2.1])], 3712⟩, fun f v => lS f.1 f.2.1 f.2.2.1 f.2.2.2.1 f.2.2.2.2.1 f.2.2.2.2.2.1 f.2.2.2.2.2.2.1 f.2.2.2.2.2.2.2 v.1 v.2.1 v.2.2, true, (.exit 2), (fun x a => ⟨[(8, .ptr 128 0), (13, .ptr 1856 0)], [(0, blkS x 0), (64, blkS x 64), (128, .var [.int .i64 (0 : Int), .int .i64 (0 : Int)]), (1856, .var [.int .i64 a.1, .int .i64 a.2])], 3712⟩), .ret, (fun _ _ => ⟨[], [], 0⟩), c1, c1k⟩
def zQ (u14_0 u14_1 : Int) (u14_2 : Sq ay) (u14_3 : Sq aB) (u14_4 : Sq SFan) (u14_5 : Sq aC) (u14_6 u14_7 : Sq Int) (u14_8 u14_9 u14_10 : Int) : Option ((Int × Int) ⊕ (Unit)) := qL.val ((u14_0, u14_1, u14_2, u14_3, u14_4, u14_5, u14_6, u14_7), (u14_8, u14_9, u14_10))
theorem Tv (u14_0 u14_1 : Int) (u14_2 : Sq ay) (u14_3 : Sq aB) (u14_4 : Sq SFan) (u14_5 : Sq aC) (u14_6 u14_7 : Sq Int) (u14_8 u14_9 u14_10 : Int) : zQ u14_0 u14_1 u14_2 u14_3 u14_4 u14_5 u14_6 u14_7 u14_8 u14_9 u14_10 = fixO (fun v : Int × Int × Int => lS u14_0 u14_1 u14_2 u14_3 u14_4 u14_5 u14_6 u14_7 v.1 v.2.1 v.2.2) (u14_8, u14_9, u14_10) := qL.val_eq (fun x => ((intA (aget x.tm 2), intA (aget x.tm 3), sqD ay.dec (cellS x 0 0), sqD aB.dec (cellS x 0 1), sqD SFan.dec (cellS x 0 2), sqD aC.dec (cellS x 0 3), sqD dI (cellS x 64 0), sqD dI (cellS x 64 1)), (intA (cellS x 1856 0), intA (cellS x 1856 1), intA (aget x.tm 14)))) (fun p => by kernel_rfl) ((u14_0, u14_1, u14_2, u14_3, u14_4, u14_5, u14_6, u14_7), (u14_8, u14_9, u14_10))
def JM (a : SAir) (s : au) (road flow : Int) : DT (aK) :=
 .ite (decide ((0 : Int) ≤ road ∧ road < ((a.Mine.Roads.n : Nat) : Int))) (
 .sum (Gl road flow a.Mine.Places a.Mine.Roads a.Fans a.Doors s.Fans s.Doors (a.Mine.Roads.f (Int.toNat road)).From (a.Mine.Roads.f (Int.toNat road)).To (a.Mine.Roads.f (Int.toNat road)).Length (a.Mine.Roads.f (Int.toNat road)).Area (a.Mine.Roads.f (Int.toNat road)).Walk (a.Mine.Roads.f (Int.toNat road)).Closed (a.Mine.Roads.f (Int.toNat road)).Rest.Low (a.Mine.Roads.f (Int.toNat road)).Rest.High (a.Mine.Roads.f (Int.toNat road)).Lift.Low (a.Mine.Roads.f (Int.toNat road)).Lift.High (0 : Int) (a.Mine.Roads.f (Int.toNat road)).Rest.Low (a.Mine.Roads.f (Int.toNat road)).Rest.High) (fun y0 =>
 .ite (decide (flow < (0 : Int))) (
 .sum (zQ road flow a.Mine.Places a.Mine.Roads a.Fans a.Doors s.Fans s.Doors (wr ((wr (0 - (wr ((wr (y0.2 * flow)) * flow)))) - (a.Mine.Roads.f (Int.toNat road)).Lift.High)) (wr ((wr (0 - (wr ((wr (y0.1 * flow)) * flow)))) - (a.Mine.Roads.f (Int.toNat road)).Lift.Low)) (0 : Int)) (fun y1 =>
 .leaf (aK.mk y1.1 y1.2)) (fun _ => .fail)) (
 .sum (zQ road flow a.Mine.Places a.Mine.Roads a.Fans a.Doors s.Fans s.Doors (wr ((wr ((wr (y0.1 * flow)) * flow)) - (a.Mine.Roads.f (Int.toNat road)).Lift.High)) (wr ((wr ((wr (y0.2 * flow)) * flow)) - (a.Mine.Roads.f (Int.toNat road)).Lift.Low)) (0 : Int)) (fun y2 =>
 .leaf (aK.mk y2.1 y2.2)) (fun _ => .fail))) (fun _ => .fail)) (
 .fail)
def o9 : FnM := flM (SAir × au × Int × Int) (aK) (fun p => ([.agg (SAir.enc p.1), .agg (au.enc p.2.1), .int .i64 p.2.2.1, .int .i64 p.2.2.2], [])) (fun p => JM p.1 p.2.1 p.2.2.1 p.2.2.2) (fun r => .agg (aK.enc r)) (fun _ => rfl)
def M6 : Env := envM [(49, rF.c), (50, oV.c)] [(4, [2, 3, 4, 5, 8, 9, 10, 11], [2, 3, 4, 5, 8, 9, 10]), (14, [2, 3, 4, 5, 8, 13, 14], [8, 13])] [(4, uw.c), (14, qL.c)] [] [(4, [0, 64, 128, 576, 832]), (14, [0, 64, 128, 1856])] 0
def Tt : Env := { M6 with nt := 138 }
theorem O1 : aG Tt (aH 4 Tryz.f117) uw.c := uw.tells 1024 (fun _ => by kernel_rfl) (fun _ _ _ _ => by kernel_rfl) (fun _ _ _ _ => by kernel_rfl) fun R f v N K => by kernel_rfl
theorem M7 : aG Tt (aH 14 Tryz.f117) qL.c := qL.tells 3712 (fun _ => by kernel_rfl) (fun _ _ _ _ => by kernel_rfl) (fun _ _ _ _ => by kernel_rfl) fun R f v N K => by kernel_rfl
theorem HY : aN Tryz.prog 117 o9.c := o9.tells Tryz.func117 (show ∀ p, arun M6 Tryz.f117 (o9.enc p).1 (o9.enc p).2 = _ from fun p => by kernel_rfl) (bf [aH 4 Tryz.f117, aH 14 Tryz.f117] (by kernel_rfl) ⟨lpT (by kernel_rfl) O1, ⟨lpT (by kernel_rfl) M7, trivial⟩⟩) (.cons KG (.cons Hy .nil))
def JL (a : SAir) (s : au) (road flow : Int) : Option (aK) := o9.val (a, s, road, flow)
theorem aal (a : SAir) (s : au) (road flow : Int) : JL a s road flow = (JM a s road flow).get := o9.val_eq (fun x => (SAir.dec (aggL (gd x.1 0)), au.dec (aggL (gd x.1 1)), intA (gd x.1 2), intA (gd x.1 3))) (fun p => by kernel_rfl) (a, s, road, flow)
def qA (u2_0 u2_1 : Int) (u2_2 : Sq ay) (u2_3 : Sq aB) (u2_4 : Sq SFan) (u2_5 : Sq aC) (u2_6 u2_7 : Sq Int) (u2_8 u2_9 : Int) : DT (LR (Int × Int) (Int) (Unit)) :=
 .ite (decide (u2_8 < u2_9)) (
 .bind (JL (SAir.mk (aL.mk u2_2 u2_3) u2_4 u2_5) (au.mk u2_6 u2_7) u2_0 (wr (u2_8 + (wr (Int.tdiv (wr ((wr (u2_9 - u2_8)) + (1 : Int))) (2 : Int)))))) fun z0 =>
 .ite (decide (z0.High ≤ u2_1)) (
 .leaf (.next ((wr (u2_8 + (wr (Int.tdiv (wr ((wr (u2_9 - u2_8)) + (1 : Int))) (2 : Int))))), u2_9))) (
 .leaf (.next (u2_8, (wr ((wr (u2_8 + (wr (Int.tdiv (wr ((wr (u2_9 - u2_8)) + (1 : Int))) (2 : Int))))) - (1 : Int))))))) (
 .leaf (.l u2_8))
def qM : LpM := ⟨Int × Int × (Sq ay) × (Sq aB) × (Sq SFan) × (Sq aC) × (Sq Int) × (Sq Int), Int × Int, Int, Unit, fun p => ⟨[(2, .int .i64 p.1.1), (3, .int .i64 p.1.2.1), (4, .ptr 0 0), (5, .ptr 64 0), (9, .int .i64 p.2.1), (10, .int .i64 p.2.2)], [(0, .var [sqA 2 ay.enc p.1.2.2.1, sqA 10 aB.enc p.1.2.2.2.1, sqA 4 SFan.enc p.1.2.2.2.2.1, sqA 3 aC.enc p.1.2.2.2.2.2.1]), (64, .var [sqA 1 (eI .i64) p.1.2.2.2.2.2.2.1, sqA 1 (eI .i64) p.1.2.2.2.2.2.2.2])], 320⟩, fun f v => qA f.1 f.2.1 f.2.2.1 f.2.2.2.1 f.2.2.2.2.1 f.2.2.2.2.2.1 f.2.2.2.2.2.2.1 f.2.2.2.2.2.2.2 v.1 v.2, true, (.exit 0), (fun x a => ⟨[(9, .int .i64 a)], [(0, blkS x 0), (64, blkS x 64)], 320⟩), .ret, (fun _ _ => ⟨[], [], 0⟩), c1, c1k⟩
def M8 (u2_0 u2_1 : Int) (u2_2 : Sq ay) (u2_3 : Sq aB) (u2_4 : Sq SFan) (u2_5 : Sq aC) (u2_6 u2_7 : Sq Int) (u2_8 u2_9 : Int) : Option ((Int) ⊕ (Unit)) := qM.val ((u2_0, u2_1, u2_2, u2_3, u2_4, u2_5, u2_6, u2_7), (u2_8, u2_9))
theorem Tx (u2_0 u2_1 : Int) (u2_2 : Sq ay) (u2_3 : Sq aB) (u2_4 : Sq SFan) (u2_5 : Sq aC) (u2_6 u2_7 : Sq Int) (u2_8 u2_9 : Int) : M8 u2_0 u2_1 u2_2 u2_3 u2_4 u2_5 u2_6 u2_7 u2_8 u2_9 = fixO (fun v : Int × Int => qA u2_0 u2_1 u2_2 u2_3 u2_4 u2_5 u2_6 u2_7 v.1 v.2) (u2_8, u2_9) := qM.val_eq (fun x => ((intA (aget x.tm 2), intA (aget x.tm 3), sqD ay.dec (cellS x 0 0), sqD aB.dec (cellS x 0 1), sqD SFan.dec (cellS x 0 2), sqD aC.dec (cellS x 0 3), sqD dI (cellS x 64 0), sqD dI (cellS x 64 1)), (intA (aget x.tm 9), intA (aget x.tm 10)))) (fun p => by kernel_rfl) ((u2_0, u2_1, u2_2, u2_3, u2_4, u2_5, u2_6, u2_7), (u2_8, u2_9))
def Gm (a : SAir) (s : au) (road pressure : Int) : DT (Int) :=
 .sum (M8 road pressure a.Mine.Places a.Mine.Roads a.Fans a.Doors s.Fans s.Doors (-1048577 : Int) (1048576 : Int)) (fun y0 =>
 .leaf y0) (fun _ => .fail)
def mE : FnM := flM (SAir × au × Int × Int) (Int) (fun p => ([.agg (SAir.enc p.1), .agg (au.enc p.2.1), .int .i64 p.2.2.1, .int .i64 p.2.2.2], [])) (fun p => Gm p.1 p.2.1 p.2.2.1 p.2.2.2) (fun r => .int .i64 r) (fun _ => rfl)
def KI : Env := envM [(117, o9.c)] [(2, [2, 3, 4, 5, 9, 10], [9])] [(2, qM.c)] [] [(2, [0, 64])] 0
def aam : Env := { KI with nt := 34 }
theorem M9 : aG aam (aH 2 Tryz.f98) qM.c := qM.tells 320 (fun _ => by kernel_rfl) (fun _ _ _ _ => by kernel_rfl) (fun _ _ _ _ => by kernel_rfl) fun R f v N K => by kernel_rfl
theorem Fy : aN Tryz.prog 98 mE.c := mE.tells Tryz.func98 (show ∀ p, arun KI Tryz.f98 (mE.enc p).1 (mE.enc p).2 = _ from fun p => by kernel_rfl) (bf [aH 2 Tryz.f98] (by kernel_rfl) ⟨lpT (by kernel_rfl) M9, trivial⟩) (.cons HY .nil)
def wE (a : SAir) (s : au) (road pressure : Int) : Option (Int) := mE.val (a, s, road, pressure)
theorem Y4 (a : SAir) (s : au) (road pressure : Int) : wE a s road pressure = (Gm a s road pressure).get := mE.val_eq (fun x => (SAir.dec (aggL (gd x.1 0)), au.dec (aggL (gd x.1 1)), intA (gd x.1 2), intA (gd x.1 3))) (fun p => by kernel_rfl) (a, s, road, pressure)
def o8 (u2_0 u2_1 : Int) (u2_2 : Sq ay) (u2_3 : Sq aB) (u2_4 : Sq SFan) (u2_5 : Sq aC) (u2_6 u2_7 : Sq Int) (u2_8 u2_9 : Int) : DT (LR (Int × Int) (Int) (Unit)) :=
 .ite (decide (u2_9 < u2_8)) (
 .bind (JL (SAir.mk (aL.mk u2_2 u2_3) u2_4 u2_5) (au.mk u2_6 u2_7) u2_0 (wr (u2_9 + (wr (Int.tdiv (wr (u2_8 - u2_9)) (2 : Int)))))) fun z0 =>
 .ite (decide (z0.Low ≥ u2_1)) (
 .leaf (.next ((wr (u2_9 + (wr (Int.tdiv (wr (u2_8 - u2_9)) (2 : Int))))), u2_9))) (
 .leaf (.next (u2_8, (wr ((wr (u2_9 + (wr (Int.tdiv (wr (u2_8 - u2_9)) (2 : Int))))) + (1 : Int))))))) (
 .leaf (.l u2_9))
def o7 : LpM := ⟨Int × Int × (Sq ay) × (Sq aB) × (Sq SFan) × (Sq aC) × (Sq Int) × (Sq Int), Int × Int, Int, Unit, fun p => ⟨[(2, .int .i64 p.1.1), (3, .int .i64 p.1.2.1), (4, .ptr 0 0), (5, .ptr 64 0), (9, .int .i64 p.2.2), (10, .int .i64 p.2.1)], [(0, .var [sqA 2 ay.enc p.1.2.2.1, sqA 10 aB.enc p.1.2.2.2.1, sqA 4 SFan.enc p.1.2.2.2.2.1, sqA 3 aC.enc p.1.2.2.2.2.2.1]), (64, .var [sqA 1 (eI .i64) p.1.2.2.2.2.2.2.1, sqA 1 (eI .i64) p.1.2.2.2.2.2.2.2])], 320⟩, fun f v => o8 f.1 f.2.1 f.2.2.1 f.2.2.2.1 f.2.2.2.2.1 f.2.2.2.2.2.1 f.2.2.2.2.2.2.1 f.2.2.2.2.2.2.2 v.1 v.2, true, (.exit 0), (fun x a => ⟨[(9, .int .i64 a)], [(0, blkS x 0), (64, blkS x 64)], 320⟩), .ret, (fun _ _ => ⟨[], [], 0⟩), c1, c1k⟩
def KH (u2_0 u2_1 : Int) (u2_2 : Sq ay) (u2_3 : Sq aB) (u2_4 : Sq SFan) (u2_5 : Sq aC) (u2_6 u2_7 : Sq Int) (u2_8 u2_9 : Int) : Option ((Int) ⊕ (Unit)) := o7.val ((u2_0, u2_1, u2_2, u2_3, u2_4, u2_5, u2_6, u2_7), (u2_8, u2_9))
theorem Ri (u2_0 u2_1 : Int) (u2_2 : Sq ay) (u2_3 : Sq aB) (u2_4 : Sq SFan) (u2_5 : Sq aC) (u2_6 u2_7 : Sq Int) (u2_8 u2_9 : Int) : KH u2_0 u2_1 u2_2 u2_3 u2_4 u2_5 u2_6 u2_7 u2_8 u2_9 = fixO (fun v : Int × Int => o8 u2_0 u2_1 u2_2 u2_3 u2_4 u2_5 u2_6 u2_7 v.1 v.2) (u2_8, u2_9) := o7.val_eq (fun x => ((intA (aget x.tm 2), intA (aget x.tm 3), sqD ay.dec (cellS x 0 0), sqD aB.dec (cellS x 0 1), sqD SFan.dec (cellS x 0 2), sqD aC.dec (cellS x 0 3), sqD dI (cellS x 64 0), sqD dI (cellS x 64 1)), (intA (aget x.tm 10), intA (aget x.tm 9)))) (fun p => by kernel_rfl) ((u2_0, u2_1, u2_2, u2_3, u2_4, u2_5, u2_6, u2_7), (u2_8, u2_9))
def D6 (a : SAir) (s : au) (road pressure : Int) : DT (Int) :=
 .sum (KH road pressure a.Mine.Places a.Mine.Roads a.Fans a.Doors s.Fans s.Doors (1048577 : Int) (-1048576 : Int)) (fun y0 =>
 .leaf y0) (fun _ => .fail)
def kE : FnM := flM (SAir × au × Int × Int) (Int) (fun p => ([.agg (SAir.enc p.1), .agg (au.enc p.2.1), .int .i64 p.2.2.1, .int .i64 p.2.2.2], [])) (fun p => D6 p.1 p.2.1 p.2.2.1 p.2.2.2) (fun r => .int .i64 r) (fun _ => rfl)
def HV : Env := envM [(117, o9.c)] [(2, [2, 3, 4, 5, 9, 10], [9])] [(2, o7.c)] [] [(2, [0, 64])] 0
def Y3 : Env := { HV with nt := 33 }
theorem K7 : aG Y3 (aH 2 Tryz.f99) o7.c := o7.tells 320 (fun _ => by kernel_rfl) (fun _ _ _ _ => by kernel_rfl) (fun _ _ _ _ => by kernel_rfl) fun R f v N K => by kernel_rfl
theorem D7 : aN Tryz.prog 99 kE.c := kE.tells Tryz.func99 (show ∀ p, arun HV Tryz.f99 (kE.enc p).1 (kE.enc p).2 = _ from fun p => by kernel_rfl) (bf [aH 2 Tryz.f99] (by kernel_rfl) ⟨lpT (by kernel_rfl) K7, trivial⟩) (.cons HY .nil)
def sV (a : SAir) (s : au) (road pressure : Int) : Option (Int) := kE.val (a, s, road, pressure)
theorem Xr (a : SAir) (s : au) (road pressure : Int) : sV a s road pressure = (D6 a s road pressure).get := kE.val_eq (fun x => (SAir.dec (aggL (gd x.1 0)), au.dec (aggL (gd x.1 1)), intA (gd x.1 2), intA (gd x.1 3))) (fun p => by kernel_rfl) (a, s, road, pressure)
def fT (u3_0 : Sq Int) (u3_1 : Int) (u3_2 : Sq ay) (u3_3 : Sq aB) (u3_4 : Sq SFan) (u3_5 : Sq aC) (u3_6 u3_7 : Sq Int) (u3_8 u3_9 : Int) : DT (LR (Int × Int) (Int) (Unit)) :=
 .ite (decide (u3_8 < ((u3_3.n : Nat) : Int))) (
 .ite (decide ((0 : Int) ≤ u3_8 ∧ u3_8 < ((u3_3.n : Nat) : Int))) (
 .ite (u3_3.f (Int.toNat u3_8)).Closed (
 .leaf (.next ((wr (u3_8 + (1 : Int))), u3_9))) (
 .ite ((u3_3.f (Int.toNat u3_8)).From == u3_1) (
 .ite (decide ((0 : Int) ≤ (u3_3.f (Int.toNat u3_8)).From ∧ (u3_3.f (Int.toNat u3_8)).From < ((u3_0.n : Nat) : Int))) (
 .ite (decide ((0 : Int) ≤ (u3_3.f (Int.toNat u3_8)).To ∧ (u3_3.f (Int.toNat u3_8)).To < ((u3_0.n : Nat) : Int))) (
 .bind (wE (SAir.mk (aL.mk u3_2 u3_3) u3_4 u3_5) (au.mk u3_6 u3_7) u3_8 (wr ((u3_0.f (Int.toNat (u3_3.f (Int.toNat u3_8)).From)) - (u3_0.f (Int.toNat (u3_3.f (Int.toNat u3_8)).To))))) fun z0 =>
 .ite ((u3_3.f (Int.toNat u3_8)).To == u3_1) (
 .ite (decide ((0 : Int) ≤ (u3_3.f (Int.toNat u3_8)).From ∧ (u3_3.f (Int.toNat u3_8)).From < ((u3_0.n : Nat) : Int))) (
 .ite (decide ((0 : Int) ≤ (u3_3.f (Int.toNat u3_8)).To ∧ (u3_3.f (Int.toNat u3_8)).To < ((u3_0.n : Nat) : Int))) (
 .bind (sV (SAir.mk (aL.mk u3_2 u3_3) u3_4 u3_5) (au.mk u3_6 u3_7) u3_8 (wr ((u3_0.f (Int.toNat (u3_3.f (Int.toNat u3_8)).From)) - (u3_0.f (Int.toNat (u3_3.f (Int.toNat u3_8)).To))))) fun z1 =>
 .leaf (.next ((wr (u3_8 + (1 : Int))), (wr ((wr (u3_9 + z0)) - z1))))) (
 .fail)) (
 .fail)) (
 .leaf (.next ((wr (u3_8 + (1 : Int))), (wr (u3_9 + z0)))))) (
 .fail)) (
 .fail)) (
 .ite ((u3_3.f (Int.toNat u3_8)).To == u3_1) (
 .ite (decide ((0 : Int) ≤ (u3_3.f (Int.toNat u3_8)).From ∧ (u3_3.f (Int.toNat u3_8)).From < ((u3_0.n : Nat) : Int))) (
 .ite (decide ((0 : Int) ≤ (u3_3.f (Int.toNat u3_8)).To ∧ (u3_3.f (Int.toNat u3_8)).To < ((u3_0.n : Nat) : Int))) (
 .bind (sV (SAir.mk (aL.mk u3_2 u3_3) u3_4 u3_5) (au.mk u3_6 u3_7) u3_8 (wr ((u3_0.f (Int.toNat (u3_3.f (Int.toNat u3_8)).From)) - (u3_0.f (Int.toNat (u3_3.f (Int.toNat u3_8)).To))))) fun z2 =>
 .leaf (.next ((wr (u3_8 + (1 : Int))), (wr (u3_9 - z2))))) (
 .fail)) (
 .fail)) (
 .leaf (.next ((wr (u3_8 + (1 : Int))), u3_9)))))) (
 .fail)) (
 .leaf (.l u3_9))
def qN : LpM := ⟨(Sq Int) × Int × (Sq ay) × (Sq aB) × (Sq SFan) × (Sq aC) × (Sq Int) × (Sq Int), Int × Int, Int, Unit, fun p => ⟨[(2, sqA 1 (eI .i64) p.1.1), (3, .int .i64 p.1.2.1), (4, .ptr 0 0), (5, .ptr 64 0), (9, .int .i64 p.2.2), (10, .int .i64 p.2.1)], [(0, .var [sqA 2 ay.enc p.1.2.2.1, sqA 10 aB.enc p.1.2.2.2.1, sqA 4 SFan.enc p.1.2.2.2.2.1, sqA 3 aC.enc p.1.2.2.2.2.2.1]), (64, .var [sqA 1 (eI .i64) p.1.2.2.2.2.2.2.1, sqA 1 (eI .i64) p.1.2.2.2.2.2.2.2])], 320⟩, fun f v => fT f.1 f.2.1 f.2.2.1 f.2.2.2.1 f.2.2.2.2.1 f.2.2.2.2.2.1 f.2.2.2.2.2.2.1 f.2.2.2.2.2.2.2 v.1 v.2, true, (.exit 0), (fun x a => ⟨[(9, .int .i64 a)], [(0, blkS x 0), (64, blkS x 64)], 320⟩), .ret, (fun _ _ => ⟨[], [], 0⟩), c1, c1k⟩
def D9 (u3_0 : Sq Int) (u3_1 : Int) (u3_2 : Sq ay) (u3_3 : Sq aB) (u3_4 : Sq SFan) (u3_5 : Sq aC) (u3_6 u3_7 : Sq Int) (u3_8 u3_9 : Int) : Option ((Int) ⊕ (Unit)) := qN.val ((u3_0, u3_1, u3_2, u3_3, u3_4, u3_5, u3_6, u3_7), (u3_8, u3_9))
theorem TA (u3_0 : Sq Int) (u3_1 : Int) (u3_2 : Sq ay) (u3_3 : Sq aB) (u3_4 : Sq SFan) (u3_5 : Sq aC) (u3_6 u3_7 : Sq Int) (u3_8 u3_9 : Int) : D9 u3_0 u3_1 u3_2 u3_3 u3_4 u3_5 u3_6 u3_7 u3_8 u3_9 = fixO (fun v : Int × Int => fT u3_0 u3_1 u3_2 u3_3 u3_4 u3_5 u3_6 u3_7 v.1 v.2) (u3_8, u3_9) := qN.val_eq (fun x => ((sqD dI (aget x.tm 2), intA (aget x.tm 3), sqD ay.dec (cellS x 0 0), sqD aB.dec (cellS x 0 1), sqD SFan.dec (cellS x 0 2), sqD aC.dec (cellS x 0 3), sqD dI (cellS x 64 0), sqD dI (cellS x 64 1)), (intA (aget x.tm 10), intA (aget x.tm 9)))) (fun p => by kernel_rfl) ((u3_0, u3_1, u3_2, u3_3, u3_4, u3_5, u3_6, u3_7), (u3_8, u3_9))
def Gs (a : SAir) (s : au) (pressures : Sq Int) (place : Int) : DT (Int) :=
 .sum (D9 pressures place a.Mine.Places a.Mine.Roads a.Fans a.Doors s.Fans s.Doors (0 : Int) (0 : Int)) (fun y0 =>
 .leaf y0) (fun _ => .fail)
def qg : FnM := flM (SAir × au × (Sq Int) × Int) (Int) (fun p => ([.agg (SAir.enc p.1), .agg (au.enc p.2.1), sqA 1 (eI .i64) p.2.2.1, .int .i64 p.2.2.2], [])) (fun p => Gs p.1 p.2.1 p.2.2.1 p.2.2.2) (fun r => .int .i64 r) (fun _ => rfl)
def KL : Env := envM [(98, mE.c), (99, kE.c)] [(3, [2, 3, 4, 5, 9, 10], [9])] [(3, qN.c)] [] [(3, [0, 64])] 0
def aao : Env := { KL with nt := 71 }
theorem Nf : aG aao (aH 3 Tryz.f78) qN.c := qN.tells 320 (fun _ => by kernel_rfl) (fun _ _ _ _ => by kernel_rfl) (fun _ _ _ _ => by kernel_rfl) fun R f v N K => by kernel_rfl
theorem TB : aN Tryz.prog 78 qg.c := qg.tells Tryz.func78 (show ∀ p, arun KL Tryz.f78 (qg.enc p).1 (qg.enc p).2 = _ from fun p => by kernel_rfl) (bf [aH 3 Tryz.f78] (by kernel_rfl) ⟨lpT (by kernel_rfl) Nf, trivial⟩) (.cons Fy (.cons D7 .nil))
def zo (a : SAir) (s : au) (pressures : Sq Int) (place : Int) : Option (Int) := qg.val (a, s, pressures, place)
theorem Y7 (a : SAir) (s : au) (pressures : Sq Int) (place : Int) : zo a s pressures place = (Gs a s pressures place).get := qg.val_eq (fun x => (SAir.dec (aggL (gd x.1 0)), au.dec (aggL (gd x.1 1)), sqD dI (gd x.1 2), intA (gd x.1 3))) (fun p => by kernel_rfl) (a, s, pressures, place)
def fC (u3_0 : Sq Int) (u3_1 : Int) (u3_2 : Sq ay) (u3_3 : Sq aB) (u3_4 : Sq SFan) (u3_5 : Sq aC) (u3_6 u3_7 : Sq Int) (u3_8 u3_9 : Int) : DT (LR (Int × Int) (Int) (Unit)) :=
 .ite (decide (u3_8 < ((u3_3.n : Nat) : Int))) (
 .ite (decide ((0 : Int) ≤ u3_8 ∧ u3_8 < ((u3_3.n : Nat) : Int))) (
 .ite (u3_3.f (Int.toNat u3_8)).Closed (
 .leaf (.next ((wr (u3_8 + (1 : Int))), u3_9))) (
 .ite ((u3_3.f (Int.toNat u3_8)).From == u3_1) (
 .ite (decide ((0 : Int) ≤ (u3_3.f (Int.toNat u3_8)).From ∧ (u3_3.f (Int.toNat u3_8)).From < ((u3_0.n : Nat) : Int))) (
 .ite (decide ((0 : Int) ≤ (u3_3.f (Int.toNat u3_8)).To ∧ (u3_3.f (Int.toNat u3_8)).To < ((u3_0.n : Nat) : Int))) (
 .bind (sV (SAir.mk (aL.mk u3_2 u3_3) u3_4 u3_5) (au.mk u3_6 u3_7) u3_8 (wr ((u3_0.f (Int.toNat (u3_3.f (Int.toNat u3_8)).From)) - (u3_0.f (Int.toNat (u3_3.f (Int.toNat u3_8)).To))))) fun z0 =>
 .ite ((u3_3.f (Int.toNat u3_8)).To == u3_1) (
 .ite (decide ((0 : Int) ≤ (u3_3.f (Int.toNat u3_8)).From ∧ (u3_3.f (Int.toNat u3_8)).From < ((u3_0.n : Nat) : Int))) (
 .ite (decide ((0 : Int) ≤ (u3_3.f (Int.toNat u3_8)).To ∧ (u3_3.f (Int.toNat u3_8)).To < ((u3_0.n : Nat) : Int))) (
 .bind (wE (SAir.mk (aL.mk u3_2 u3_3) u3_4 u3_5) (au.mk u3_6 u3_7) u3_8 (wr ((u3_0.f (Int.toNat (u3_3.f (Int.toNat u3_8)).From)) - (u3_0.f (Int.toNat (u3_3.f (Int.toNat u3_8)).To))))) fun z1 =>
 .leaf (.next ((wr (u3_8 + (1 : Int))), (wr ((wr (u3_9 + z0)) - z1))))) (
 .fail)) (
 .fail)) (
 .leaf (.next ((wr (u3_8 + (1 : Int))), (wr (u3_9 + z0)))))) (
 .fail)) (
 .fail)) (
 .ite ((u3_3.f (Int.toNat u3_8)).To == u3_1) (
 .ite (decide ((0 : Int) ≤ (u3_3.f (Int.toNat u3_8)).From ∧ (u3_3.f (Int.toNat u3_8)).From < ((u3_0.n : Nat) : Int))) (
 .ite (decide ((0 : Int) ≤ (u3_3.f (Int.toNat u3_8)).To ∧ (u3_3.f (Int.toNat u3_8)).To < ((u3_0.n : Nat) : Int))) (
 .bind (wE (SAir.mk (aL.mk u3_2 u3_3) u3_4 u3_5) (au.mk u3_6 u3_7) u3_8 (wr ((u3_0.f (Int.toNat (u3_3.f (Int.toNat u3_8)).From)) - (u3_0.f (Int.toNat (u3_3.f (Int.toNat u3_8)).To))))) fun z2 =>
 .leaf (.next ((wr (u3_8 + (1 : Int))), (wr (u3_9 - z2))))) (
 .fail)) (
 .fail)) (
 .leaf (.next ((wr (u3_8 + (1 : Int))), u3_9)))))) (
 .fail)) (
 .leaf (.l u3_9))
def pq : LpM := ⟨(Sq Int) × Int × (Sq ay) × (Sq aB) × (Sq SFan) × (Sq aC) × (Sq Int) × (Sq Int), Int × Int, Int, Unit, fun p => ⟨[(2, sqA 1 (eI .i64) p.1.1), (3, .int .i64 p.1.2.1), (4, .ptr 0 0), (5, .ptr 64 0), (9, .int .i64 p.2.2), (10, .int .i64 p.2.1)], [(0, .var [sqA 2 ay.enc p.1.2.2.1, sqA 10 aB.enc p.1.2.2.2.1, sqA 4 SFan.enc p.1.2.2.2.2.1, sqA 3 aC.enc p.1.2.2.2.2.2.1]), (64, .var [sqA 1 (eI .i64) p.1.2.2.2.2.2.2.1, sqA 1 (eI .i64) p.1.2.2.2.2.2.2.2])], 320⟩, fun f v => fC f.1 f.2.1 f.2.2.1 f.2.2.2.1 f.2.2.2.2.1 f.2.2.2.2.2.1 f.2.2.2.2.2.2.1 f.2.2.2.2.2.2.2 v.1 v.2, true, (.exit 0), (fun x a => ⟨[(9, .int .i64 a)], [(0, blkS x 0), (64, blkS x 64)], 320⟩), .ret, (fun _ _ => ⟨[], [], 0⟩), c1, c1k⟩
def BS (u3_0 : Sq Int) (u3_1 : Int) (u3_2 : Sq ay) (u3_3 : Sq aB) (u3_4 : Sq SFan) (u3_5 : Sq aC) (u3_6 u3_7 : Sq Int) (u3_8 u3_9 : Int) : Option ((Int) ⊕ (Unit)) := pq.val ((u3_0, u3_1, u3_2, u3_3, u3_4, u3_5, u3_6, u3_7), (u3_8, u3_9))
theorem Rl (u3_0 : Sq Int) (u3_1 : Int) (u3_2 : Sq ay) (u3_3 : Sq aB) (u3_4 : Sq SFan) (u3_5 : Sq aC) (u3_6 u3_7 : Sq Int) (u3_8 u3_9 : Int) : BS u3_0 u3_1 u3_2 u3_3 u3_4 u3_5 u3_6 u3_7 u3_8 u3_9 = fixO (fun v : Int × Int => fC u3_0 u3_1 u3_2 u3_3 u3_4 u3_5 u3_6 u3_7 v.1 v.2) (u3_8, u3_9) := pq.val_eq (fun x => ((sqD dI (aget x.tm 2), intA (aget x.tm 3), sqD ay.dec (cellS x 0 0), sqD aB.dec (cellS x 0 1), sqD SFan.dec (cellS x 0 2), sqD aC.dec (cellS x 0 3), sqD dI (cellS x 64 0), sqD dI (cellS x 64 1)), (intA (aget x.tm 10), intA (aget x.tm 9)))) (fun p => by kernel_rfl) ((u3_0, u3_1, u3_2, u3_3, u3_4, u3_5, u3_6, u3_7), (u3_8, u3_9))
def D8 (a : SAir) (s : au) (pressures : Sq Int) (place : Int) : DT (Int) :=
 .sum (BS pressures place a.Mine.Places a.Mine.Roads a.Fans a.Doors s.Fans s.Doors (0 : Int) (0 : Int)) (fun y0 =>
 .leaf y0) (fun _ => .fail)
def nH : FnM := flM (SAir × au × (Sq Int) × Int) (Int) (fun p => ([.agg (SAir.enc p.1), .agg (au.enc p.2.1), sqA 1 (eI .i64) p.2.2.1, .int .i64 p.2.2.2], [])) (fun p => D8 p.1 p.2.1 p.2.2.1 p.2.2.2) (fun r => .int .i64 r) (fun _ => rfl)
def HZ : Env := envM [(99, kE.c), (98, mE.c)] [(3, [2, 3, 4, 5, 9, 10], [9])] [(3, pq.c)] [] [(3, [0, 64])] 0
def Y6 : Env := { HZ with nt := 71 }
theorem K8 : aG Y6 (aH 3 Tryz.f79) pq.c := pq.tells 320 (fun _ => by kernel_rfl) (fun _ _ _ _ => by kernel_rfl) (fun _ _ _ _ => by kernel_rfl) fun R f v N K => by kernel_rfl
theorem Rm : aN Tryz.prog 79 nH.c := nH.tells Tryz.func79 (show ∀ p, arun HZ Tryz.f79 (nH.enc p).1 (nH.enc p).2 = _ from fun p => by kernel_rfl) (bf [aH 3 Tryz.f79] (by kernel_rfl) ⟨lpT (by kernel_rfl) K8, trivial⟩) (.cons D7 (.cons Fy .nil))
def w9 (a : SAir) (s : au) (pressures : Sq Int) (place : Int) : Option (Int) := nH.val (a, s, pressures, place)
theorem Xv (a : SAir) (s : au) (pressures : Sq Int) (place : Int) : w9 a s pressures place = (D8 a s pressures place).get := nH.val_eq (fun x => (SAir.dec (aggL (gd x.1 0)), au.dec (aggL (gd x.1 1)), sqD dI (gd x.1 2), intA (gd x.1 3))) (fun p => by kernel_rfl) (a, s, pressures, place)
def MG (m : aL) : DT (Bool) :=
 .bind (N8 m) fun z0 =>
 .leaf (z0 == (0 : Int))
def vW : FnM := flM (aL) (Bool) (fun p => ([.agg (aL.enc p)], [])) (fun p => MG p) (fun r => .bool r) (fun _ => rfl)
def Z5 : Env := envM [(61, rA.c)] [] [] [] [] 0
theorem Xd : aN Tryz.prog 104 vW.c := vW.tells Tryz.func104 (show ∀ p, arun Z5 Tryz.f104 (vW.enc p).1 (vW.enc p).2 = _ from fun p => by kernel_rfl) aP (.cons KC .nil)
def U3 (m : aL) : Option (Bool) := vW.val m
theorem abS (m : aL) : U3 m = (MG m).get := vW.val_eq (fun x => aL.dec (aggL (gd x.1 0))) (fun p => by kernel_rfl) m
def AZ (x : Int) : DT (Int) :=
 .ite (decide (x ≥ (4294967296 : Int))) (
 .fail) (
 .ite (decide (x ≥ (65536 : Int))) (
 .fail) (
 .ite (decide (x ≥ (256 : Int))) (
 .ite (decide ((0 : Int) ≤ (IntKind.u8.wrap (x / 2 ^ (Int.toNat (8 : Int)))) ∧ (IntKind.u8.wrap (x / 2 ^ (Int.toNat (8 : Int)))) < ((ByteArray.size (⟨#[0, 1, 2, 2, 3, 3, 3, 3, 4, 4, 4, 4, 4, 4, 4, 4, 5, 5, 5, 5, 5, 5, 5, 5, 5, 5, 5, 5, 5, 5, 5, 5, 6, 6, 6, 6, 6, 6, 6, 6, 6, 6, 6, 6, 6, 6, 6, 6, 6, 6, 6, 6, 6, 6, 6, 6, 6, 6, 6, 6, 6, 6, 6, 6, 7, 7, 7, 7, 7, 7, 7, 7, 7, 7, 7, 7, 7, 7, 7, 7, 7, 7, 7, 7, 7, 7, 7, 7, 7, 7, 7, 7, 7, 7, 7, 7, 7, 7, 7, 7, 7, 7, 7, 7, 7, 7, 7, 7, 7, 7, 7, 7, 7, 7, 7, 7, 7, 7, 7, 7, 7, 7, 7, 7, 7, 7, 7, 7, 8, 8, 8, 8, 8, 8, 8, 8, 8, 8, 8, 8, 8, 8, 8, 8, 8, 8, 8, 8, 8, 8, 8, 8, 8, 8, 8, 8, 8, 8, 8, 8, 8, 8, 8, 8, 8, 8, 8, 8, 8, 8, 8, 8, 8, 8, 8, 8, 8, 8, 8, 8, 8, 8, 8, 8, 8, 8, 8, 8, 8, 8, 8, 8, 8, 8, 8, 8, 8, 8, 8, 8, 8, 8, 8, 8, 8, 8, 8, 8, 8, 8, 8, 8, 8, 8, 8, 8, 8, 8, 8, 8, 8, 8, 8, 8, 8, 8, 8, 8, 8, 8, 8, 8, 8, 8, 8, 8, 8, 8, 8, 8, 8, 8, 8, 8, 8, 8, 8, 8, 8, 8, 8, 8, 8, 8, 8, 8]⟩ : ByteArray) : Nat) : Int))) (.leaf (wr ((8 : Int) + (wr (agZ (⟨#[0, 1, 2, 2, 3, 3, 3, 3, 4, 4, 4, 4, 4, 4, 4, 4, 5, 5, 5, 5, 5, 5, 5, 5, 5, 5, 5, 5, 5, 5, 5, 5, 6, 6, 6, 6, 6, 6, 6, 6, 6, 6, 6, 6, 6, 6, 6, 6, 6, 6, 6, 6, 6, 6, 6, 6, 6, 6, 6, 6, 6, 6, 6, 6, 7, 7, 7, 7, 7, 7, 7, 7, 7, 7, 7, 7, 7, 7, 7, 7, 7, 7, 7, 7, 7, 7, 7, 7, 7, 7, 7, 7, 7, 7, 7, 7, 7, 7, 7, 7, 7, 7, 7, 7, 7, 7, 7, 7, 7, 7, 7, 7, 7, 7, 7, 7, 7, 7, 7, 7, 7, 7, 7, 7, 7, 7, 7, 7, 8, 8, 8, 8, 8, 8, 8, 8, 8, 8, 8, 8, 8, 8, 8, 8, 8, 8, 8, 8, 8, 8, 8, 8, 8, 8, 8, 8, 8, 8, 8, 8, 8, 8, 8, 8, 8, 8, 8, 8, 8, 8, 8, 8, 8, 8, 8, 8, 8, 8, 8, 8, 8, 8, 8, 8, 8, 8, 8, 8, 8, 8, 8, 8, 8, 8, 8, 8, 8, 8, 8, 8, 8, 8, 8, 8, 8, 8, 8, 8, 8, 8, 8, 8, 8, 8, 8, 8, 8, 8, 8, 8, 8, 8, 8, 8, 8, 8, 8, 8, 8, 8, 8, 8, 8, 8, 8, 8, 8, 8, 8, 8, 8, 8, 8, 8, 8, 8, 8, 8, 8, 8, 8, 8, 8, 8, 8, 8]⟩ : ByteArray) (IntKind.u8.wrap (x / 2 ^ (Int.toNat (8 : Int))))))))) (.fail)) (
 .ite (decide ((0 : Int) ≤ (IntKind.u8.wrap x) ∧ (IntKind.u8.wrap x) < ((ByteArray.size (⟨#[0, 1, 2, 2, 3, 3, 3, 3, 4, 4, 4, 4, 4, 4, 4, 4, 5, 5, 5, 5, 5, 5, 5, 5, 5, 5, 5, 5, 5, 5, 5, 5, 6, 6, 6, 6, 6, 6, 6, 6, 6, 6, 6, 6, 6, 6, 6, 6, 6, 6, 6, 6, 6, 6, 6, 6, 6, 6, 6, 6, 6, 6, 6, 6, 7, 7, 7, 7, 7, 7, 7, 7, 7, 7, 7, 7, 7, 7, 7, 7, 7, 7, 7, 7, 7, 7, 7, 7, 7, 7, 7, 7, 7, 7, 7, 7, 7, 7, 7, 7, 7, 7, 7, 7, 7, 7, 7, 7, 7, 7, 7, 7, 7, 7, 7, 7, 7, 7, 7, 7, 7, 7, 7, 7, 7, 7, 7, 7, 8, 8, 8, 8, 8, 8, 8, 8, 8, 8, 8, 8, 8, 8, 8, 8, 8, 8, 8, 8, 8, 8, 8, 8, 8, 8, 8, 8, 8, 8, 8, 8, 8, 8, 8, 8, 8, 8, 8, 8, 8, 8, 8, 8, 8, 8, 8, 8, 8, 8, 8, 8, 8, 8, 8, 8, 8, 8, 8, 8, 8, 8, 8, 8, 8, 8, 8, 8, 8, 8, 8, 8, 8, 8, 8, 8, 8, 8, 8, 8, 8, 8, 8, 8, 8, 8, 8, 8, 8, 8, 8, 8, 8, 8, 8, 8, 8, 8, 8, 8, 8, 8, 8, 8, 8, 8, 8, 8, 8, 8, 8, 8, 8, 8, 8, 8, 8, 8, 8, 8, 8, 8, 8, 8, 8, 8, 8, 8]⟩ : ByteArray) : Nat) : Int))) (.leaf (wr ((0 : Int) + (wr (agZ (⟨#[0, 1, 2, 2, 3, 3, 3, 3, 4, 4, 4, 4, 4, 4, 4, 4, 5, 5, 5, 5, 5, 5, 5, 5, 5, 5, 5, 5, 5, 5, 5, 5, 6, 6, 6, 6, 6, 6, 6, 6, 6, 6, 6, 6, 6, 6, 6, 6, 6, 6, 6, 6, 6, 6, 6, 6, 6, 6, 6, 6, 6, 6, 6, 6, 7, 7, 7, 7, 7, 7, 7, 7, 7, 7, 7, 7, 7, 7, 7, 7, 7, 7, 7, 7, 7, 7, 7, 7, 7, 7, 7, 7, 7, 7, 7, 7, 7, 7, 7, 7, 7, 7, 7, 7, 7, 7, 7, 7, 7, 7, 7, 7, 7, 7, 7, 7, 7, 7, 7, 7, 7, 7, 7, 7, 7, 7, 7, 7, 8, 8, 8, 8, 8, 8, 8, 8, 8, 8, 8, 8, 8, 8, 8, 8, 8, 8, 8, 8, 8, 8, 8, 8, 8, 8, 8, 8, 8, 8, 8, 8, 8, 8, 8, 8, 8, 8, 8, 8, 8, 8, 8, 8, 8, 8, 8, 8, 8, 8, 8, 8, 8, 8, 8, 8, 8, 8, 8, 8, 8, 8, 8, 8, 8, 8, 8, 8, 8, 8, 8, 8, 8, 8, 8, 8, 8, 8, 8, 8, 8, 8, 8, 8, 8, 8, 8, 8, 8, 8, 8, 8, 8, 8, 8, 8, 8, 8, 8, 8, 8, 8, 8, 8, 8, 8, 8, 8, 8, 8, 8, 8, 8, 8, 8, 8, 8, 8, 8, 8, 8, 8, 8, 8, 8, 8, 8, 8]⟩ : ByteArray) (IntKind.u8.wrap x)))))) (.fail))))
def jS : FnM := flM (Int) (Int) (fun p => ([.int .u64 p], [])) (fun p => AZ p) (fun r => .int .i64 r) (fun _ => rfl)
def QU : Env := envM [] [] [] [] [] 0
theorem Mt : aN Tryz.prog 131 jS.c := jS.tells Tryz.func131 (show ∀ p, arun QU Tryz.f131 (jS.enc p).1 (jS.enc p).2 = _ from fun p => by kernel_rfl) aP .nil
def DN (x : Int) : Option (Int) := jS.val x
theorem SC (x : Int) : DN x = (AZ x).get := jS.val_eq (fun x => intA (gd x.1 0)) (fun p => by kernel_rfl) x
def DR (x : Int) : DT (Int) :=
 .bind (DN x) fun z0 =>
 .leaf z0
def mW : FnM := flM (Int) (Int) (fun p => ([.int .u64 p], [])) (fun p => DR p) (fun r => .int .i64 r) (fun _ => rfl)
def UY : Env := envM [(131, jS.c)] [] [] [] [] 0
theorem QV : aN Tryz.prog 107 mW.c := mW.tells Tryz.func107 (show ∀ p, arun UY Tryz.f107 (mW.enc p).1 (mW.enc p).2 = _ from fun p => by kernel_rfl) aP (.cons Mt .nil)
def Jk (x : Int) : Option (Int) := mW.val x
theorem WW (x : Int) : Jk x = (DR x).get := mW.val_eq (fun x => intA (gd x.1 0)) (fun p => by kernel_rfl) x
def QB (x : Int) : DT (Bool) :=
 .leaf (x != x)
def yS : FnM := flM (Int) (Bool) (fun p => ([.int .i64 p], [])) (fun p => QB p) (fun r => .bool r) (fun _ => rfl)
def abp : Env := envM [] [] [] [] [] 0
theorem Yo : aN Tryz.prog 143 yS.c := yS.tells Tryz.func143 (show ∀ p, arun abp Tryz.f143 (yS.enc p).1 (yS.enc p).2 = _ from fun p => by kernel_rfl) aP .nil
def R9 (x : Int) : Option (Bool) := yS.val x
theorem ac2 (x : Int) : R9 x = (QB x).get := yS.val_eq (fun x => intA (gd x.1 0)) (fun p => by kernel_rfl) x
def UC (x y : Int) : DT (Bool) :=
 .bind (R9 x) fun z0 =>
 .ite z0 (
 .bind (R9 y) fun z1 =>
 .ite (!z1) (.leaf true) (.leaf (decide (x < y)))) (
 .leaf (decide (x < y)))
def AO : FnM := flM (Int × Int) (Bool) (fun p => ([.int .i64 p.1, .int .i64 p.2], [])) (fun p => UC p.1 p.2) (fun r => .bool r) (fun _ => rfl)
def ac1 : Env := envM [(143, yS.c)] [] [] [] [] 0
theorem ZI : aN Tryz.prog 127 AO.c := AO.tells Tryz.func127 (show ∀ p, arun ac1 Tryz.f127 (AO.enc p).1 (AO.enc p).2 = _ from fun p => by kernel_rfl) aP (.cons Yo .nil)
def abo (x y : Int) : Option (Bool) := AO.val (x, y)
theorem aei (x y : Int) : abo x y = (UC x y).get := AO.val_eq (fun x => (intA (gd x.1 0), intA (gd x.1 1))) (fun p => by kernel_rfl) (x, y)
def dL (u4_0 _u4_1 _u4_2 : Int) (u4_3 : Sq Int) (u4_4 : Int) : DT (LR ((Sq Int) × Int) ((Sq Int)) (Unit)) :=
 .ite (decide (u4_4 > u4_0)) (
 .ite (decide ((0 : Int) ≤ u4_4 ∧ u4_4 < ((u4_3.n : Nat) : Int))) (
 .ite (decide ((0 : Int) ≤ (wr (u4_4 - (1 : Int))) ∧ (wr (u4_4 - (1 : Int))) < ((u4_3.n : Nat) : Int))) (
 .bind (abo (u4_3.f (Int.toNat u4_4)) (u4_3.f (Int.toNat (wr (u4_4 - (1 : Int)))))) fun z0 =>
 .ite z0 (
 .ite (decide ((0 : Int) ≤ (wr (u4_4 - (1 : Int))) ∧ (wr (u4_4 - (1 : Int))) < ((u4_3.n : Nat) : Int))) (
 .ite (decide ((0 : Int) ≤ u4_4 ∧ u4_4 < ((u4_3.n : Nat) : Int))) (
 .ite (decide ((0 : Int) ≤ u4_4 ∧ u4_4 < ((u4_3.n : Nat) : Int))) (
 .ite (decide ((0 : Int) ≤ (wr (u4_4 - (1 : Int))) ∧ (wr (u4_4 - (1 : Int))) < ((u4_3.n : Nat) : Int))) (
 .leaf (.next ((Sq.mk u4_3.n (fun k0 => (cond (Nat.beq k0 (Int.toNat (wr (u4_4 - (1 : Int))))) (u4_3.f (Int.toNat u4_4)) (cond (Nat.beq k0 (Int.toNat u4_4)) (u4_3.f (Int.toNat (wr (u4_4 - (1 : Int))))) (u4_3.f k0))))), (wr (u4_4 - (1 : Int)))))) (
 .fail)) (
 .fail)) (
 .fail)) (
 .fail)) (
 .leaf (.l u4_3))) (
 .fail)) (
 .fail)) (
 .leaf (.l u4_3))
def bU : LpM := ⟨Int × Int × Int, (Sq Int) × Int, (Sq Int), Unit, fun p => ⟨[(0, .own 0 0), (1, .int .i64 p.1.1), (2, .int .i64 p.1.2.1), (6, .int .i64 p.1.2.2), (7, .int .i64 p.2.2)], [(0, rowA 0 1 3 (eI .i64) p.2.1)], 513⟩, fun f v => dL f.1 f.2.1 f.2.2 v.1 v.2, true, (.exit 2), (fun x a => ⟨[(0, .own 0 0), (1, aget x.tm 1), (2, aget x.tm 2), (6, aget x.tm 6)], [(0, rowA 0 1 3 (eI .i64) a)], 513⟩), .ret, (fun _ _ => ⟨[], [], 0⟩), c1, c1k⟩
def kM (u4_0 u4_1 u4_2 : Int) (u4_3 : Sq Int) (u4_4 : Int) : Option (((Sq Int)) ⊕ (Unit)) := bU.val ((u4_0, u4_1, u4_2), (u4_3, u4_4))
theorem Ae (u4_0 u4_1 u4_2 : Int) (u4_3 : Sq Int) (u4_4 : Int) : kM u4_0 u4_1 u4_2 u4_3 u4_4 = fixO (fun v : (Sq Int) × Int => dL u4_0 u4_1 u4_2 v.1 v.2) (u4_3, u4_4) := bU.val_eq (fun x => ((intA (aget x.tm 1), intA (aget x.tm 2), intA (aget x.tm 6)), (sqB dI (blkS x 0), intA (aget x.tm 7)))) (fun p => by kernel_rfl) ((u4_0, u4_1, u4_2), (u4_3, u4_4))
def dK (u1_0 u1_1 u1_2 : Int) (u1_3 : Sq Int) : DT (LR (Int × (Sq Int)) ((Sq Int)) (Unit)) :=
 .ite (decide (u1_2 < u1_1)) (
 .sum (kM u1_0 u1_1 u1_2 u1_3 u1_2) (fun y0 =>
 .leaf (.next ((wr (u1_2 + (1 : Int))), y0))) (fun _ => .fail)) (
 .leaf (.l u1_3))
def bS : LpM := ⟨Int × Int, Int × (Sq Int), (Sq Int), Unit, fun p => ⟨[(0, .own 0 0), (1, .int .i64 p.1.1), (2, .int .i64 p.1.2), (6, .int .i64 p.2.1)], [(0, rowA 0 1 3 (eI .i64) p.2.2)], 193⟩, fun f v => dK f.1 f.2 v.1 v.2, true, (.exit 0), (fun _ a => ⟨[], [(0, rowA 0 1 3 (eI .i64) a)], 193⟩), .ret, (fun _ _ => ⟨[], [], 0⟩), c1, c1k⟩
def rM (u1_0 u1_1 u1_2 : Int) (u1_3 : Sq Int) : Option (((Sq Int)) ⊕ (Unit)) := bS.val ((u1_0, u1_1), (u1_2, u1_3))
theorem Ad (u1_0 u1_1 u1_2 : Int) (u1_3 : Sq Int) : rM u1_0 u1_1 u1_2 u1_3 = fixO (fun v : Int × (Sq Int) => dK u1_0 u1_1 v.1 v.2) (u1_2, u1_3) := bS.val_eq (fun x => ((intA (aget x.tm 1), intA (aget x.tm 2)), (intA (aget x.tm 6), sqB dI (blkS x 0)))) (fun p => by kernel_rfl) ((u1_0, u1_1), (u1_2, u1_3))
def lg (data : Sq Int) (a b : Int) : DT ((Sq Int)) :=
 .sum (rM a b (wr (a + (1 : Int))) data) (fun y1 =>
 .leaf y1) (fun _ => .fail)
def bA : FnM := nfM ((Sq Int) × Int × Int) ((Sq Int)) (fun p => ([.own 0 0, .int .i64 p.2.1, .int .i64 p.2.2], [rowA 0 1 3 (eI .i64) p.1])) (fun p => lg p.1 p.2.1 p.2.2) (fun _ => .tup []) (fun _ r => [rowA 0 1 3 (eI .i64) r])
def q9 : Env := envM [(127, AO.c)] [(4, [0, 1, 2, 6, 7], [0, 1, 2, 6]), (1, [0, 1, 2, 6], [])] [(4, bU.c), (1, bS.c)] [] [(4, [0]), (1, [0])] 1
def uH : Env := { q9 with nt := 49 }
theorem yD : aG uH (aH 4 Tryz.f121) bU.c := bU.tells 513 (fun _ => by kernel_rfl) (fun _ _ _ _ => by kernel_rfl) (fun _ _ _ _ => by kernel_rfl) fun R f v N K => by kernel_rfl
theorem yC : aG uH (aH 1 Tryz.f121) bS.c := bS.tells 193 (fun _ => by kernel_rfl) (fun _ _ _ _ => by kernel_rfl) (fun _ _ _ _ => by kernel_rfl) fun R f v N K => by kernel_rfl
theorem Af : aN Tryz.prog 121 bA.c := bA.tells Tryz.func121 (show ∀ p, arun q9 Tryz.f121 (bA.enc p).1 (bA.enc p).2 = _ from fun p => by kernel_rfl) (bf [aH 1 Tryz.f121, aH 4 Tryz.f121] (by kernel_rfl) ⟨lpT (by kernel_rfl) yC, ⟨lpT (by kernel_rfl) yD, trivial⟩⟩) (.cons ZI .nil)
def nM (data : Sq Int) (a b : Int) : Option ((Sq Int)) := bA.val (data, a, b)
theorem Bz (data : Sq Int) (a b : Int) : nM data a b = (lg data a b).get := bA.val_eq (fun x => (sqB dI (dB x.2 0), intA (gd x.1 1), intA (gd x.1 2))) (fun p => by kernel_rfl) (data, a, b)
def lq (u2_0 u2_1 u2_2 : Int) (u2_3 : Sq Int) : DT (LR (Unit) ((Sq Int)) (Unit)) :=
 .ite (decide ((wr (u2_1 - u2_0)) ≤ (12 : Int))) (
 .bind (nM u2_3 u2_0 u2_1) fun z0 =>
 .leaf (.l z0)) (
 .ite (u2_2 == (0 : Int)) (.fail) (.fail))
def fO : LpM := ⟨Int × Int × Int × (Sq Int), Unit, (Sq Int), Unit, fun p => ⟨[(0, .own 0 0), (1, .int .i64 p.1.1), (2, .int .i64 p.1.2.1), (3, .int .i64 p.1.2.2.1), (8, .bool true), (9, .bool true)], [(0, rowA 0 1 3 (eI .i64) p.1.2.2.2)], 129⟩, fun f _ => lq f.1 f.2.1 f.2.2.1 f.2.2.2, true, .ret, (fun _ a => ⟨[], [(0, rowA 0 1 3 (eI .i64) a)], 129⟩), .ret, (fun _ _ => ⟨[], [], 0⟩), c1, c1k⟩
def ru (u2_0 u2_1 u2_2 : Int) (u2_3 : Sq Int) : Option (((Sq Int)) ⊕ (Unit)) := fO.val ((u2_0, u2_1, u2_2, u2_3), ())
theorem EA (u2_0 u2_1 u2_2 : Int) (u2_3 : Sq Int) : ru u2_0 u2_1 u2_2 u2_3 = fixO (fun _ : Unit => lq u2_0 u2_1 u2_2 u2_3) () := fO.val_eq (fun x => ((intA (aget x.tm 1), intA (aget x.tm 2), intA (aget x.tm 3), sqB dI (blkS x 0)), ())) (fun p => by kernel_rfl) ((u2_0, u2_1, u2_2, u2_3), ())
def tJ (data : Sq Int) (a b limit : Int) : DT ((Sq Int)) :=
 .sum (ru a b limit data) (fun y0 =>
 .leaf y0) (fun _ => .fail)
def dM : FnM := nfM ((Sq Int) × Int × Int × Int) ((Sq Int)) (fun p => ([.own 0 0, .int .i64 p.2.1, .int .i64 p.2.2.1, .int .i64 p.2.2.2], [rowA 0 1 3 (eI .i64) p.1])) (fun p => tJ p.1 p.2.1 p.2.2.1 p.2.2.2) (fun _ => .tup []) (fun _ r => [rowA 0 1 3 (eI .i64) r])
def yE : Env := envM [(121, bA.c)] [(2, [0, 1, 2, 3, 8, 9], []), (2000121, [], [])] [(2, fO.c)] [] [(2, [0])] 1
def Kh : Env := { yE with nt := 134 }
theorem BA : aG Kh (aH 2 Tryz.f106) fO.c := fO.tells 129 (fun _ => by kernel_rfl) (fun _ _ _ _ => by kernel_rfl) (fun _ _ _ _ => by kernel_rfl) fun R f v N K => by kernel_rfl
theorem EB : aN Tryz.prog 106 dM.c := dM.tells Tryz.func106 (show ∀ p, arun yE Tryz.f106 (dM.enc p).1 (dM.enc p).2 = _ from fun p => by kernel_rfl) (bf [aH 2 Tryz.f106] (by kernel_rfl) ⟨lpT (by kernel_rfl) BA, trivial⟩) (.cons Af .nil)
def wT (data : Sq Int) (a b limit : Int) : Option ((Sq Int)) := dM.val (data, a, b, limit)
theorem Ii (data : Sq Int) (a b limit : Int) : wT data a b limit = (tJ data a b limit).get := dM.val_eq (fun x => (sqB dI (dB x.2 0), intA (gd x.1 1), intA (gd x.1 2), intA (gd x.1 3))) (fun p => by kernel_rfl) (data, a, b, limit)
def Kg (x : Sq Int) : DT ((Sq Int)) :=
 .bind (Jk (IntKind.u64.wrap ((x.n : Nat) : Int))) fun z0 =>
 .bind (wT x (0 : Int) ((x.n : Nat) : Int) z0) fun z1 =>
 .leaf z1
def pV : FnM := nfM ((Sq Int)) ((Sq Int)) (fun p => ([.own 0 0], [rowA 0 1 3 (eI .i64) p])) (fun p => Kg p) (fun _ => .tup []) (fun _ r => [rowA 0 1 3 (eI .i64) r])
def Zk : Env := envM [(107, mW.c), (106, dM.c)] [(2000106, [], [])] [] [] [] 1
theorem Ih : aN Tryz.prog 89 pV.c := pV.tells Tryz.func89 (show ∀ p, arun Zk Tryz.f89 (pV.enc p).1 (pV.enc p).2 = _ from fun p => by kernel_rfl) aP (.cons QV (.cons EB .nil))
def Ke (x : Sq Int) : Option ((Sq Int)) := pV.val x
theorem aaG (x : Sq Int) : Ke x = (Kg x).get := pV.val_eq (fun x => sqB dI (dB x.2 0)) (fun p => by kernel_rfl) x
def wZ (u7_2 : Sq ay) (u7_3 : Sq aB) (u7_5 : Sq Int) (u7_7 : Int) (u7_1 : Sq Bool) (u7_4 : Sq Int) (u7_6 : Int) : DT (LR ((Sq Bool) × (Sq Int) × Int) ((Sq Bool) × (Sq Int)) (Unit)) :=
 .ite (decide (u7_6 < ((u7_5.n : Nat) : Int))) (
 .ite (decide ((0 : Int) ≤ u7_6 ∧ u7_6 < ((u7_5.n : Nat) : Int))) (
 .ite (decide ((0 : Int) ≤ u7_7 ∧ u7_7 < ((u7_4.n : Nat) : Int))) (
 .bind (N9 (aL.mk u7_2 u7_3) (u7_5.f (Int.toNat u7_6)) (u7_4.f (Int.toNat u7_7))) fun z0 =>
 .ite (decide ((0 : Int) ≤ (u7_5.f (Int.toNat u7_6)) ∧ (u7_5.f (Int.toNat u7_6)) < ((u7_3.n : Nat) : Int))) (
 .ite (!(u7_3.f (Int.toNat (u7_5.f (Int.toNat u7_6)))).Closed) (
 .ite (decide ((0 : Int) ≤ z0 ∧ z0 < ((u7_1.n : Nat) : Int))) (
 .ite (!(u7_1.f (Int.toNat z0))) (
 .ite (decide ((0 : Int) ≤ z0 ∧ z0 < ((u7_1.n : Nat) : Int))) (
 .ite (decide ((u7_4.n + 1) * 8 ≤ 140737488355328 ∧ (u7_4.n + 1) ≤ 1099511627776)) (
 .leaf (.next ((Sq.mk u7_1.n (fun k0 => (cond (Nat.beq k0 (Int.toNat z0)) true (u7_1.f k0)))), (Sq.mk (u7_4.n + 1) (fun k1 => (cond (Nat.blt k1 u7_4.n) (u7_4.f k1) z0))), (wr (u7_6 + (1 : Int)))))) (
 .fail)) (
 .fail)) (
 .leaf (.next (u7_1, u7_4, (wr (u7_6 + (1 : Int))))))) (
 .fail)) (
 .leaf (.next (u7_1, u7_4, (wr (u7_6 + (1 : Int))))))) (
 .fail)) (
 .fail)) (
 .fail)) (
 .leaf (.l (u7_1, u7_4)))
def yx : LpM := ⟨(Sq ay) × (Sq aB) × (Sq Int) × Int, (Sq Bool) × (Sq Int) × Int, (Sq Bool) × (Sq Int), Unit, fun p => ⟨[(2, .own 0 0), (3, .ptr 1 0), (7, .own 193 0), (8, .int .i64 p.1.2.2.2), (28, .own 1217 0), (29, .int .i64 ((p.1.2.2.1.n : Nat) : Int)), (30, .int .i64 p.2.2.2)], [(0, rowA 0 1 4 eO p.2.1), (1, .var [sqA 2 ay.enc p.1.1, sqA 10 aB.enc p.1.2.1]), (193, rowA 0 1 3 (eI .i64) p.2.2.1), (1217, rowA 0 1 3 (eI .i64) p.1.2.2.1)], 1409⟩, fun f v => wZ f.1 f.2.1 f.2.2.1 f.2.2.2 v.1 v.2.1 v.2.2, true, (.exit 2), (fun x a => ⟨[(2, .own 0 0), (3, .ptr 1 0), (7, .own 193 0), (8, aget x.tm 8)], [(0, rowA 0 1 4 eO a.1), (1, blkS x 1), (193, rowA 0 1 3 (eI .i64) a.2), (1217, blkS x 1217)], 1409⟩), .ret, (fun _ _ => ⟨[], [], 0⟩), c1, c1k⟩
def MI (u7_2 : Sq ay) (u7_3 : Sq aB) (u7_5 : Sq Int) (u7_7 : Int) (u7_1 : Sq Bool) (u7_4 : Sq Int) (u7_6 : Int) : Option (((Sq Bool) × (Sq Int)) ⊕ (Unit)) := yx.val ((u7_2, u7_3, u7_5, u7_7), (u7_1, u7_4, u7_6))
theorem YT (u7_2 : Sq ay) (u7_3 : Sq aB) (u7_5 : Sq Int) (u7_7 : Int) (u7_1 : Sq Bool) (u7_4 : Sq Int) (u7_6 : Int) : MI u7_2 u7_3 u7_5 u7_7 u7_1 u7_4 u7_6 = fixO (fun v : (Sq Bool) × (Sq Int) × Int => wZ u7_2 u7_3 u7_5 u7_7 v.1 v.2.1 v.2.2) (u7_1, u7_4, u7_6) := yx.val_eq (fun x => ((sqD ay.dec (cellS x 1 0), sqD aB.dec (cellS x 1 1), sqB dI (blkS x 1217), intA (aget x.tm 8)), (sqB dO (blkS x 0), sqB dI (blkS x 193), intA (aget x.tm 30)))) (fun p => by kernel_rfl) ((u7_2, u7_3, u7_5, u7_7), (u7_1, u7_4, u7_6))
def wY (u4_1 : Sq ay) (u4_2 : Sq aB) (u4_0 : Sq Bool) (u4_3 : Sq Int) (u4_4 : Int) : DT (LR ((Sq Bool) × (Sq Int) × Int) ((Sq Bool) × (Sq Int)) (Unit)) :=
 .ite (decide (u4_4 < ((u4_3.n : Nat) : Int))) (
 .ite (decide ((0 : Int) ≤ u4_4 ∧ u4_4 < ((u4_3.n : Nat) : Int))) (
 .bind (Oa (aL.mk u4_1 u4_2) (u4_3.f (Int.toNat u4_4))) fun z1 =>
 .sum (MI u4_1 u4_2 z1 u4_4 u4_0 u4_3 (0 : Int)) (fun y0 =>
 .leaf (.next (y0.1, y0.2, (wr (u4_4 + (1 : Int)))))) (fun _ => .fail)) (
 .fail)) (
 .leaf (.l (u4_0, u4_3)))
def yw : LpM := ⟨(Sq ay) × (Sq aB), (Sq Bool) × (Sq Int) × Int, (Sq Bool) × (Sq Int), Unit, fun p => ⟨[(2, .own 0 0), (3, .ptr 1 0), (7, .own 193 0), (8, .int .i64 p.2.2.2)], [(0, rowA 0 1 4 eO p.2.1), (1, .var [sqA 2 ay.enc p.1.1, sqA 10 aB.enc p.1.2]), (193, rowA 0 1 3 (eI .i64) p.2.2.1)], 641⟩, fun f v => wY f.1 f.2 v.1 v.2.1 v.2.2, true, (.exit 0), (fun x a => ⟨[(7, .own 193 0)], [(0, rowA 0 1 4 eO a.1), (1, blkS x 1), (193, rowA 0 1 3 (eI .i64) a.2)], 641⟩), .ret, (fun _ _ => ⟨[], [], 0⟩), c1, c1k⟩
def V4 (u4_1 : Sq ay) (u4_2 : Sq aB) (u4_0 : Sq Bool) (u4_3 : Sq Int) (u4_4 : Int) : Option (((Sq Bool) × (Sq Int)) ⊕ (Unit)) := yw.val ((u4_1, u4_2), (u4_0, u4_3, u4_4))
theorem YS (u4_1 : Sq ay) (u4_2 : Sq aB) (u4_0 : Sq Bool) (u4_3 : Sq Int) (u4_4 : Int) : V4 u4_1 u4_2 u4_0 u4_3 u4_4 = fixO (fun v : (Sq Bool) × (Sq Int) × Int => wY u4_1 u4_2 v.1 v.2.1 v.2.2) (u4_0, u4_3, u4_4) := yw.val_eq (fun x => ((sqD ay.dec (cellS x 1 0), sqD aB.dec (cellS x 1 1)), (sqB dO (blkS x 0), sqB dI (blkS x 193), intA (aget x.tm 8)))) (fun p => by kernel_rfl) ((u4_1, u4_2), (u4_0, u4_3, u4_4))
def Q5 (m : aL) (first : Int) (seen : Sq Bool) : DT ((Sq Int) × (Sq Bool)) :=
 .ite (decide ((0 : Int) ≤ first ∧ first < ((seen.n : Nat) : Int))) (
 .sum (V4 m.Places m.Roads (Sq.mk seen.n (fun k2 => (cond (Nat.beq k2 (Int.toNat first)) true (seen.f k2)))) (Sq.mk 1 (fun _ => first)) (0 : Int)) (fun y1 =>
 .bind (Ke y1.2) fun z2 =>
 .leaf (z2, y1.1)) (fun _ => .fail)) (
 .fail)
def ze : FnM := nfM (aL × Int × (Sq Bool)) ((Sq Int) × (Sq Bool)) (fun p => ([.agg (aL.enc p.1), .int .i64 p.2.1, .own 0 0], [rowA 0 1 4 eO p.2.2])) (fun p => Q5 p.1 p.2.1 p.2.2) (fun _ => .own 1 0) (fun _ r => [rowA 0 1 4 eO r.2, rowA 0 1 3 (eI .i64) r.1])
def SV : Env := envM [(69, rD.c), (90, rC.c), (89, pV.c)] [(7, [2, 3, 7, 8, 28, 29, 30], [2, 3, 7, 8]), (4, [2, 3, 7, 8], [7]), (2000089, [], [])] [(7, yx.c), (4, yw.c)] [] [(7, [0, 1, 193, 1217]), (4, [0, 1, 193])] 1
def YR : Env := { SV with nt := 66 }
theorem SY : aG YR (aH 7 Tryz.f105) yx.c := yx.tells 1409 (fun _ => by kernel_rfl) (fun _ _ _ _ => by kernel_rfl) (fun _ _ _ _ => by kernel_rfl) fun R f v N K => by kernel_rfl
theorem SX : aG YR (aH 4 Tryz.f105) yw.c := yw.tells 641 (fun _ => by kernel_rfl) (fun _ _ _ _ => by kernel_rfl) (fun _ _ _ _ => by kernel_rfl) fun R f v N K => by kernel_rfl
theorem YU : aN Tryz.prog 105 ze.c := ze.tells Tryz.func105 (show ∀ p, arun SV Tryz.f105 (ze.enc p).1 (ze.enc p).2 = _ from fun p => by kernel_rfl) (bf [aH 4 Tryz.f105, aH 7 Tryz.f105] (by kernel_rfl) ⟨lpT (by kernel_rfl) SX, ⟨lpT (by kernel_rfl) SY, trivial⟩⟩) (.cons KE (.cons KD (.cons Ih .nil)))
def YQ (m : aL) (first : Int) (seen : Sq Bool) : Option ((Sq Int) × (Sq Bool)) := ze.val (m, first, seen)
theorem adz (m : aL) (first : Int) (seen : Sq Bool) : YQ m first seen = (Q5 m first seen).get := ze.val_eq (fun x => (aL.dec (aggL (gd x.1 0)), intA (gd x.1 1), sqB dO (dB x.2 0))) (fun p => by kernel_rfl) (m, first, seen)
def vk (u6_1 : Sq ay) (u6_2 : Sq aB) (u6_3 : (Sq (Sq Int))) (u6_4 : Sq Bool) (u6_5 : Int) : DT (LR ((Sq (Sq Int)) × (Sq Bool) × Int) ((Sq (Sq Int)) × (Sq Bool)) (Unit)) :=
 .ite (decide (u6_5 < ((u6_1.n : Nat) : Int))) (
 .ite (decide ((0 : Int) ≤ u6_5 ∧ u6_5 < ((u6_4.n : Nat) : Int))) (
 .ite (!(u6_4.f (Int.toNat u6_5))) (
 .bind (YQ (aL.mk u6_1 u6_2) u6_5 u6_4) fun z0 =>
 .ite (decide ((u6_3.n + 1) * 24 ≤ 140737488355328 ∧ (u6_3.n + 1) ≤ 1099511627776)) (
 .leaf (.next ((Sq.mk (u6_3.n + 1) (fun k0 => (Sq.mk (cond (Nat.blt k0 u6_3.n) (u6_3.f k0).n z0.1.n) (fun k1 => (cond (Nat.blt k0 u6_3.n) ((u6_3.f k0).f k1) (z0.1.f k1)))))), z0.2, (wr (u6_5 + (1 : Int)))))) (
 .fail)) (
 .leaf (.next (u6_3, u6_4, (wr (u6_5 + (1 : Int))))))) (
 .fail)) (
 .leaf (.l (u6_3, u6_4)))
def vT : LpM := ⟨(Sq ay) × (Sq aB), (Sq (Sq Int)) × (Sq Bool) × Int, (Sq (Sq Int)) × (Sq Bool), Unit, fun p => ⟨[(1, .ptr 0 0), (3, .own 384 0), (4, .own 640 0), (15, .int .i64 ((p.1.1.n : Nat) : Int)), (16, .int .i64 p.2.2.2)], [(0, .var [sqA 2 ay.enc p.1.1, sqA 10 aB.enc p.1.2]), (384, rowA 0 1 23 (eQ 1 (eI .i64)) p.2.1), (640, rowA 0 1 4 eO p.2.2.1)], 1024⟩, fun f v => vk f.1 f.2 v.1 v.2.1 v.2.2, true, (.exit 0), (fun x a => ⟨[(3, .own 384 0)], [(0, blkS x 0), (384, rowA 0 1 23 (eQ 1 (eI .i64)) a.1), (640, rowA 0 1 4 eO a.2)], 1024⟩), .ret, (fun _ _ => ⟨[], [], 0⟩), c1, c1k⟩
def SI (u6_1 : Sq ay) (u6_2 : Sq aB) (u6_3 : (Sq (Sq Int))) (u6_4 : Sq Bool) (u6_5 : Int) : Option (((Sq (Sq Int)) × (Sq Bool)) ⊕ (Unit)) := vT.val ((u6_1, u6_2), (u6_3, u6_4, u6_5))
theorem Xa (u6_1 : Sq ay) (u6_2 : Sq aB) (u6_3 : (Sq (Sq Int))) (u6_4 : Sq Bool) (u6_5 : Int) : SI u6_1 u6_2 u6_3 u6_4 u6_5 = fixO (fun v : (Sq (Sq Int)) × (Sq Bool) × Int => vk u6_1 u6_2 v.1 v.2.1 v.2.2) (u6_3, u6_4, u6_5) := vT.val_eq (fun x => ((sqD ay.dec (cellS x 0 0), sqD aB.dec (cellS x 0 1)), (sqB (dQ dI) (blkS x 384), sqB dO (blkS x 640), intA (aget x.tm 16)))) (fun p => by kernel_rfl) ((u6_1, u6_2), (u6_3, u6_4, u6_5))
def ME (m : aL) : DT ((Sq (Sq Int))) :=
 .bind (U3 m) fun z1 =>
 .ite (!z1) (
 .leaf (Sq.mk 0 (fun _ => (Sq.mk 0 (fun _ => (0 : Int)))))) (
 .ite (decide ((0 : Int) ≤ ((m.Places.n : Nat) : Int) ∧ ((m.Places.n : Nat) : Int) ≤ ((m.Places.n : Nat) : Int) ∧ ((m.Places.n : Nat) : Int) * ((1 : Nat) : Int) ≤ 140737488355328 ∧ ((m.Places.n : Nat) : Int) ≤ 1099511627776)) (
 .sum (SI m.Places m.Roads (Sq.mk 0 (fun _ => (Sq.mk 0 (fun _ => (0 : Int))))) (Sq.mk (Int.toNat ((m.Places.n : Nat) : Int)) (fun _ => false)) (0 : Int)) (fun y0 =>
 .leaf y0.1) (fun _ => .fail)) (
 .fail))
def vU : FnM := nfM (aL) ((Sq (Sq Int))) (fun p => ([.agg (aL.enc p)], [])) (fun p => ME p) (fun _ => .own 0 0) (fun _ r => [rowA 0 1 23 (eQ 1 (eI .i64)) r])
def PO : Env := envM [(104, vW.c), (105, ze.c)] [(6, [1, 3, 4, 15, 16], [3]), (2000105, [], [])] [(6, vT.c)] [(1000006, [.asrow 384 23 1 (fun _ => (eQ 1 (eI .i64)) (Sq.mk 0 (fun _ => (0 : Int))))]), (2000000, [.asrow 320 23 1 (fun _ => (eQ 1 (eI .i64)) (Sq.mk 0 (fun _ => (0 : Int))))])] [(6, [0, 384, 640])] 0
def adx : Env := { PO with nt := 33 }
theorem QZ : aG adx (aH 6 Tryz.f88) vT.c := vT.tells 1024 (fun _ => by kernel_rfl) (fun _ _ _ _ => by kernel_rfl) (fun _ _ _ _ => by kernel_rfl) fun R f v N K => by kernel_rfl
theorem Xb : aN Tryz.prog 88 vU.c := vU.tells Tryz.func88 (show ∀ p, arun PO Tryz.f88 (vU.enc p).1 (vU.enc p).2 = _ from fun p => by kernel_rfl) (bf [aH 6 Tryz.f88] (by kernel_rfl) ⟨lpT (by kernel_rfl) QZ, trivial⟩) (.cons Xd (.cons YU .nil))
def U2 (m : aL) : Option ((Sq (Sq Int))) := vU.val m
theorem abQ (m : aL) : U2 m = (ME m).get := vU.val_eq (fun x => aL.dec (aggL (gd x.1 0))) (fun p => by kernel_rfl) m
def DV (place : Int) (x : aL) : DT (Bool) :=
 .ite (decide ((0 : Int) ≤ place ∧ place < ((x.Places.n : Nat) : Int))) (.leaf (x.Places.f (Int.toNat place)).Surface) (.fail)
def mY : FnM := nfM (Int × aL) (Bool) (fun p => ([.int .i64 p.1, .ptr 0 0], [.var (aL.enc p.2)])) (fun p => DV p.1 p.2) (fun r => .bool r) (fun ins _ => [dB ins 0])
def U0 : Env := envM [] [] [] [] [] 1
theorem QY : aN Tryz.prog 87 mY.c := mY.tells Tryz.func87 (show ∀ p, arun U0 Tryz.f87 (mY.enc p).1 (mY.enc p).2 = _ from fun p => by kernel_rfl) aP .nil
def Jp (place : Int) (x : aL) : Option (Bool) := mY.val (place, x)
theorem W9 (place : Int) (x : aL) : Jp place x = (DV place x).get := mY.val_eq (fun x => (intA (gd x.1 0), aL.dec (varL (dB x.2 0)))) (fun p => by kernel_rfl) (place, x)
def iN (u2_0 : Sq Int) (u2_2 : Sq ay) (u2_3 : Sq aB) (u2_4 : Int) : DT (LR (Int) (Unit) (Int)) :=
 .ite (decide (u2_4 < ((u2_0.n : Nat) : Int))) (
 .ite (decide ((0 : Int) ≤ u2_4 ∧ u2_4 < ((u2_0.n : Nat) : Int))) (
 .bind (Jp (u2_0.f (Int.toNat u2_4)) (aL.mk u2_2 u2_3)) fun z0 =>
 .ite z0 (
 .leaf (.r u2_4)) (
 .leaf (.next (wr (u2_4 + (1 : Int)))))) (
 .fail)) (
 .leaf (.l ()))
def gT : LpM := ⟨(Sq Int) × (Sq ay) × (Sq aB), Int, Unit, Int, fun p => ⟨[(0, sqA 1 (eI .i64) p.1.1), (1, .fn 87 [.ptr 0 0]), (7, .int .i64 ((p.1.1.n : Nat) : Int)), (8, .int .i64 p.2)], [(0, .var [sqA 2 ay.enc p.1.2.1, sqA 10 aB.enc p.1.2.2])], 257⟩, fun f v => iN f.1 f.2.1 f.2.2 v, false, (.exit 0), (fun x _ => ⟨[(4, .undef)], [(0, blkS x 0)], 257⟩), .ret, (fun x a => ⟨[(4, .int .i64 a)], [(0, blkS x 0)], 257⟩), c1, c1k⟩
def zX (u2_0 : Sq Int) (u2_2 : Sq ay) (u2_3 : Sq aB) (u2_4 : Int) : Option ((Unit) ⊕ (Int)) := gT.val ((u2_0, u2_2, u2_3), u2_4)
theorem EU (u2_0 : Sq Int) (u2_2 : Sq ay) (u2_3 : Sq aB) (u2_4 : Int) : zX u2_0 u2_2 u2_3 u2_4 = fixO (fun v : Int => iN u2_0 u2_2 u2_3 v) u2_4 := gT.val_eq (fun x => ((sqD dI (aget x.tm 0), sqD ay.dec (cellS x 0 0), sqD aB.dec (cellS x 0 1)), intA (aget x.tm 8))) (fun p => by kernel_rfl) ((u2_0, u2_2, u2_3), u2_4)
def uS (s : Sq Int) (y0 : aL) : DT (Int) :=
 .sum (zX s y0.Places y0.Roads (0 : Int)) (fun _ =>
 .leaf (-1 : Int)) (fun y1 => .leaf y1)
def eU : FnM := nfM ((Sq Int) × aL) (Int) (fun p => ([sqA 1 (eI .i64) p.1, .fn 87 [.ptr 0 0]], [.var (aL.enc p.2)])) (fun p => uS p.1 p.2) (fun r => .int .i64 r) (fun ins _ => [dB ins 0])
def zw : Env := envM [(87, mY.c)] [(2, [0, 1, 7, 8], [4])] [(2, gT.c)] [] [(2, [0])] 1
def Lc : Env := { zw with nt := 19 }
theorem Cc : aG Lc (aH 2 Tryz.f65) gT.c := gT.tells 257 (fun _ => by kernel_rfl) (fun _ _ _ _ => by kernel_rfl) (fun _ _ _ _ => by kernel_rfl) fun R f v N K => by kernel_rfl
theorem EW : aN Tryz.prog 65 eU.c := eU.tells Tryz.func65 (show ∀ p, arun zw Tryz.f65 (eU.enc p).1 (eU.enc p).2 = _ from fun p => by kernel_rfl) (bf [aH 2 Tryz.f65] (by kernel_rfl) ⟨lpT (by kernel_rfl) Cc, trivial⟩) (.cons QY .nil)
def xX (s : Sq Int) (y0 : aL) : Option (Int) := eU.val (s, y0)
theorem J9 (s : Sq Int) (y0 : aL) : xX s y0 = (uS s y0).get := eU.val_eq (fun x => (sqD dI (gd x.1 0), aL.dec (varL (dB x.2 0)))) (fun p => by kernel_rfl) (s, y0)
def qp (s : Sq Int) (y0 : aL) : DT (Bool) :=
 .bind (xX s y0) fun z0 =>
 .leaf (decide (z0 ≥ (0 : Int)))
def bO : FnM := nfM ((Sq Int) × aL) (Bool) (fun p => ([sqA 1 (eI .i64) p.1, .fn 87 [.ptr 0 0]], [.var (aL.enc p.2)])) (fun p => qp p.1 p.2) (fun r => .bool r) (fun ins _ => [dB ins 0])
def Ev : Env := envM [(65, eU.c)] [] [] [] [] 1
theorem Ca : aN Tryz.prog 40 bO.c := bO.tells Tryz.func40 (show ∀ p, arun Ev Tryz.f40 (bO.enc p).1 (bO.enc p).2 = _ from fun p => by kernel_rfl) aP (.cons EW .nil)
def l9 (s : Sq Int) (y0 : aL) : Option (Bool) := bO.val (s, y0)
theorem ES (s : Sq Int) (y0 : aL) : l9 s y0 = (qp s y0).get := bO.val_eq (fun x => (sqD dI (gd x.1 0), aL.dec (varL (dB x.2 0)))) (fun p => by kernel_rfl) (s, y0)
def sM (u4_1 : Sq ay) (u4_2 : Sq aB) (u4_4 : (Sq (Sq Int))) (u4_3 : Sq Int) (u4_5 : Int) : DT (LR ((Sq Int) × Int) ((Sq Int)) (Unit)) :=
 .ite (decide (u4_5 < ((u4_4.n : Nat) : Int))) (
 .ite (decide ((0 : Int) ≤ u4_5 ∧ u4_5 < ((u4_4.n : Nat) : Int))) (
 .bind (l9 (u4_4.f (Int.toNat u4_5)) (aL.mk u4_1 u4_2)) fun z0 =>
 .ite (!z0) (
 .ite (decide ((u4_3.n + (u4_4.f (Int.toNat u4_5)).n) * 8 ≤ 140737488355328 ∧ (u4_3.n + (u4_4.f (Int.toNat u4_5)).n) ≤ 1099511627776)) (
 .leaf (.next ((Sq.mk (u4_3.n + (u4_4.f (Int.toNat u4_5)).n) (fun k0 => (cond (Nat.blt k0 u4_3.n) (u4_3.f k0) ((u4_4.f (Int.toNat u4_5)).f (k0 - u4_3.n))))), (wr (u4_5 + (1 : Int)))))) (
 .fail)) (
 .leaf (.next (u4_3, (wr (u4_5 + (1 : Int))))))) (
 .fail)) (
 .leaf (.l u4_3))
def tZ : LpM := ⟨(Sq ay) × (Sq aB) × (Sq (Sq Int)), (Sq Int) × Int, (Sq Int), Unit, fun p => ⟨[(3, .own 128 0), (4, .fn 87 [.ptr 0 0]), (9, .own 384 0), (10, .int .i64 ((p.1.2.2.n : Nat) : Int)), (11, .int .i64 p.2.2)], [(0, .var [sqA 2 ay.enc p.1.1, sqA 10 aB.enc p.1.2.1]), (128, rowA 0 1 3 (eI .i64) p.2.1), (384, rowA 0 1 23 (eQ 1 (eI .i64)) p.1.2.2)], 576⟩, fun f v => sM f.1 f.2.1 f.2.2 v.1 v.2, true, (.exit 0), (fun x a => ⟨[(3, .own 128 0)], [(0, blkS x 0), (128, rowA 0 1 3 (eI .i64) a), (384, blkS x 384)], 576⟩), .ret, (fun _ _ => ⟨[], [], 0⟩), c1, c1k⟩
def PN (u4_1 : Sq ay) (u4_2 : Sq aB) (u4_4 : (Sq (Sq Int))) (u4_3 : Sq Int) (u4_5 : Int) : Option (((Sq Int)) ⊕ (Unit)) := tZ.val ((u4_1, u4_2, u4_4), (u4_3, u4_5))
theorem U1 (u4_1 : Sq ay) (u4_2 : Sq aB) (u4_4 : (Sq (Sq Int))) (u4_3 : Sq Int) (u4_5 : Int) : PN u4_1 u4_2 u4_4 u4_3 u4_5 = fixO (fun v : (Sq Int) × Int => sM u4_1 u4_2 u4_4 v.1 v.2) (u4_3, u4_5) := tZ.val_eq (fun x => ((sqD ay.dec (cellS x 0 0), sqD aB.dec (cellS x 0 1), sqB (dQ dI) (blkS x 384)), (sqB dI (blkS x 128), intA (aget x.tm 11)))) (fun p => by kernel_rfl) ((u4_1, u4_2, u4_4), (u4_3, u4_5))
def Jq (m : aL) : DT ((Sq Int)) :=
 .bind (U2 m) fun z1 =>
 .sum (PN m.Places m.Roads z1 (Sq.mk 0 (fun _ => (0 : Int))) (0 : Int)) (fun y0 =>
 .bind (Ke y0) fun z2 =>
 .leaf z2) (fun _ => .fail)
def oP : FnM := nfM (aL) ((Sq Int)) (fun p => ([.agg (aL.enc p)], [])) (fun p => Jq p) (fun _ => .own 0 0) (fun _ r => [rowA 0 1 3 (eI .i64) r])
def MB : Env := envM [(88, vU.c), (40, bO.c), (89, pV.c)] [(4, [3, 4, 9, 10, 11], [3]), (2000089, [], [])] [(4, tZ.c)] [(1000004, [.asrow 128 3 1 (fun _ => (eI .i64) (0 : Int))])] [(4, [0, 128, 384])] 0
def abO : Env := { MB with nt := 26 }
theorem OU : aG abO (aH 4 Tryz.f66) tZ.c := tZ.tells 576 (fun _ => by kernel_rfl) (fun _ _ _ _ => by kernel_rfl) (fun _ _ _ _ => by kernel_rfl) fun R f v N K => by kernel_rfl
theorem Ht : aN Tryz.prog 66 oP.c := oP.tells Tryz.func66 (show ∀ p, arun MB Tryz.f66 (oP.enc p).1 (oP.enc p).2 = _ from fun p => by kernel_rfl) (bf [aH 4 Tryz.f66] (by kernel_rfl) ⟨lpT (by kernel_rfl) OU, trivial⟩) (.cons Xb (.cons Ca (.cons Ih .nil)))
def DU (m : aL) : Option ((Sq Int)) := oP.val m
theorem Z0 (m : aL) : DU m = (Jq m).get := oP.val_eq (fun x => aL.dec (aggL (gd x.1 0))) (fun p => by kernel_rfl) m
def Bl (s : Sq Int) (v : Int) : DT (Bool) :=
 .bind (slices_Index s v) fun z0 =>
 .leaf (decide (z0 ≥ (0 : Int)))
def fK : FnM := flM ((Sq Int) × Int) (Bool) (fun p => ([sqA 1 (eI .i64) p.1, .int .i64 p.2], [])) (fun p => Bl p.1 p.2) (fun r => .bool r) (fun _ => rfl)
def Rs : Env := envM [(70, mG.c)] [] [] [] [] 0
theorem wO : aN Tryz.prog 67 fK.c := fK.tells Tryz.func67 (show ∀ p, arun Rs Tryz.f67 (fK.enc p).1 (fK.enc p).2 = _ from fun p => by kernel_rfl) aP (.cons FD .nil)
def slices_Contains (s : Sq Int) (v : Int) : Option (Bool) := fK.val (s, v)
theorem TW (s : Sq Int) (v : Int) : slices_Contains s v = (Bl s v).get := fK.val_eq (fun x => (sqD dI (gd x.1 0), intA (gd x.1 1))) (fun p => by kernel_rfl) (s, v)
def oo (s : Sq Int) : DT ((Sq Int)) :=
 .ite (decide (0 < s.n)) (
 .ite (decide ((0 + s.n) * 8 ≤ 140737488355328 ∧ (0 + s.n) ≤ 1099511627776)) (.leaf (Sq.mk (0 + s.n) (fun k0 => (s.f k0)))) (.fail)) (
 .fail)
def fI : FnM := nfM ((Sq Int)) ((Sq Int)) (fun p => ([sqA 1 (eI .i64) p], [])) (fun p => oo p) (fun _ => .own 0 0) (fun _ r => [rowA 0 1 3 (eI .i64) r])
def TV : Env := envM [] [] [] [] [] 0
theorem Pd : aN Tryz.prog 52 fI.c := fI.tells Tryz.func52 (show ∀ p, arun TV Tryz.f52 (fI.enc p).1 (fI.enc p).2 = _ from fun p => by kernel_rfl) aP .nil
def aaE (s : Sq Int) : Option ((Sq Int)) := fI.val s
theorem agj (s : Sq Int) : aaE s = (oo s).get := fI.val_eq (fun x => sqD dI (gd x.1 0)) (fun p => by kernel_rfl) s
def oQ (u4_0 u4_1 : Sq Int) (u4_2 : Int) : DT (LR (Int) (Unit) (Unit)) :=
 .ite (decide (u4_2 < ((u4_0.n : Nat) : Int))) (
 .ite (decide ((0 : Int) ≤ u4_2 ∧ u4_2 < ((u4_0.n : Nat) : Int))) (
 .ite (decide ((0 : Int) ≤ u4_2 ∧ u4_2 < ((u4_1.n : Nat) : Int))) (
 .ite ((u4_0.f (Int.toNat u4_2)) != (u4_1.f (Int.toNat u4_2))) (
 .leaf (.r ())) (
 .leaf (.next (wr (u4_2 + (1 : Int)))))) (
 .fail)) (
 .fail)) (
 .leaf (.l ()))
def wz : LpM := ⟨(Sq Int) × (Sq Int), Int, Unit, Unit, fun p => ⟨[(0, sqA 1 (eI .i64) p.1.1), (1, sqA 1 (eI .i64) p.1.2), (5, .int .i64 p.2)], [], 512⟩, fun f v => oQ f.1 f.2 v, false, (.exit 0), (fun _ _ => ⟨[(4, .undef)], [], 512⟩), .ret, (fun _ _ => ⟨[(4, .bool false)], [], 512⟩), c1, c1k⟩
def Jv (u4_0 u4_1 : Sq Int) (u4_2 : Int) : Option ((Unit) ⊕ (Unit)) := wz.val ((u4_0, u4_1), u4_2)
theorem Xm (u4_0 u4_1 : Sq Int) (u4_2 : Int) : Jv u4_0 u4_1 u4_2 = fixO (fun v : Int => oQ u4_0 u4_1 v) u4_2 := wz.val_eq (fun x => ((sqD dI (aget x.tm 0), sqD dI (aget x.tm 1)), intA (aget x.tm 5))) (fun p => by kernel_rfl) ((u4_0, u4_1), u4_2)
def MQ (a b : Sq Int) : DT (Bool) :=
 .ite (((a.n : Nat) : Int) != ((b.n : Nat) : Int)) (
 .leaf false) (
 .sum (Jv a b (0 : Int)) (fun _ =>
 .leaf true) (fun _ => .leaf false))
def kD : FnM := flM ((Sq Int) × (Sq Int)) (Bool) (fun p => ([sqA 1 (eI .i64) p.1, sqA 1 (eI .i64) p.2], [])) (fun p => MQ p.1 p.2) (fun r => .bool r) (fun _ => rfl)
def PW : Env := envM [] [(4, [0, 1, 5], [4])] [(4, wz.c)] [] [(4, [])] 0
def adC : Env := { PW with nt := 26 }
theorem Ra : aG adC (aH 4 Tryz.f17) wz.c := wz.tells 512 (fun _ => by kernel_rfl) (fun _ _ _ _ => by kernel_rfl) (fun _ _ _ _ => by kernel_rfl) fun R f v N K => by kernel_rfl
theorem ug : aN Tryz.prog 17 kD.c := kD.tells Tryz.func17 (show ∀ p, arun PW Tryz.f17 (kD.enc p).1 (kD.enc p).2 = _ from fun p => by kernel_rfl) (bf [aH 4 Tryz.f17] (by kernel_rfl) ⟨lpT (by kernel_rfl) Ra, trivial⟩) .nil
def fJ (a b : Sq Int) : Option (Bool) := kD.val (a, b)
theorem abY (a b : Sq Int) : fJ a b = (MQ a b).get := kD.val_eq (fun x => (sqD dI (gd x.1 0), sqD dI (gd x.1 1))) (fun p => by kernel_rfl) (a, b)
def Fw (m : aL) : DT (aL) :=
 .ite (decide (m.Places.n * 16 ≤ 140737488355328 ∧ m.Places.n ≤ 1099511627776)) (
 .ite (decide (m.Roads.n * 72 ≤ 140737488355328 ∧ m.Roads.n ≤ 1099511627776)) (.leaf m) (.fail)) (
 .fail)
def rE : FnM := nfM (aL) (aL) (fun p => ([.agg (aL.enc p)], [])) (fun p => Fw p) (fun _ => .agg [.own 0 0, .own 1 0]) (fun _ r => [rowA 0 2 61 ay.enc r.Places, rowA 0 10 70 aB.enc r.Roads])
def Z9 : Env := envM [] [] [] [] [] 0
theorem KF : aN Tryz.prog 26 rE.c := rE.tells Tryz.func26 (show ∀ p, arun Z9 Tryz.f26 (rE.enc p).1 (rE.enc p).2 = _ from fun p => by kernel_rfl) aP .nil
def Hu (m : aL) : Option (aL) := rE.val m
theorem Td (m : aL) : Hu m = (Fw m).get := rE.val_eq (fun x => aL.dec (aggL (gd x.1 0))) (fun p => by kernel_rfl) m
end
end Go.Proofs.YtmfiagdelnddkaaGreat.Ab
