/- Mirrors of code, stage 12. -/
import Derived.Test.YtmfiagdelnddkaaGreatXa
namespace Go.Proofs.YtmfiagdelnddkaaGreat.Ab
noncomputable section
open Go
attribute [local irreducible] arun
def Jr (n low high : Int) : DT (Bool) :=
 .ite (decide (low ≤ n)) (.leaf (decide (n ≤ high))) (.leaf false)
def lZ : FnM := flM (Int × Int × Int) (Bool) (fun p => ([.int .i64 p.1, .int .i64 p.2.1, .int .i64 p.2.2], [])) (fun p => Jr p.1 p.2.1 p.2.2) (fun r => .bool r) (fun _ => rfl)
def YV : Env := envM [] [] [] [] [] 0
theorem A8 : aN Tryz.prog 81 lZ.c := lZ.tells Tryz.func81 (show ∀ p, arun YV Tryz.f81 (lZ.enc p).1 (lZ.enc p).2 = _ from fun p => by kernel_rfl) aP .nil
def vY (n low high : Int) : Option (Bool) := lZ.val (n, low, high)
theorem Z7 (n low high : Int) : vY n low high = (Jr n low high).get := lZ.val_eq (fun x => (intA (gd x.1 0), intA (gd x.1 1), intA (gd x.1 2))) (fun p => by kernel_rfl) (n, low, high)
def MJ (s : aK) (low high : Int) : DT (Bool) :=
 .ite (decide (low ≤ s.Low)) (
 .ite (decide (s.Low ≤ s.High)) (.leaf (decide (s.High ≤ high))) (.leaf false)) (
 .leaf false)
def vX : FnM := flM (aK × Int × Int) (Bool) (fun p => ([.agg (aK.enc p.1), .int .i64 p.2.1, .int .i64 p.2.2], [])) (fun p => MJ p.1 p.2.1 p.2.2) (fun r => .bool r) (fun _ => rfl)
def Z6 : Env := envM [] [] [] [] [] 0
theorem Xg : aN Tryz.prog 100 vX.c := vX.tells Tryz.func100 (show ∀ p, arun Z6 Tryz.f100 (vX.enc p).1 (vX.enc p).2 = _ from fun p => by kernel_rfl) aP .nil
def Ob (s : aK) (low high : Int) : Option (Bool) := vX.val (s, low, high)
theorem abT (s : aK) (low high : Int) : Ob s low high = (MJ s low high).get := vX.val_eq (fun x => (aK.dec (aggL (gd x.1 0)), intA (gd x.1 1), intA (gd x.1 2))) (fun p => by kernel_rfl) (s, low, high)
def BQ (r : aB) (places : Int) : DT (Int) :=
 .bind (vY r.From (0 : Int) (wr (places - (1 : Int)))) fun z0 =>
 .ite (!z0) (
 .leaf (4 : Int)) (
 .bind (vY r.To (0 : Int) (wr (places - (1 : Int)))) fun z1 =>
 .ite (!z1) (
 .leaf (4 : Int)) (
 .ite (r.From == r.To) (
 .leaf (4 : Int)) (
 .bind (vY r.Length (1 : Int) (100000 : Int)) fun z2 =>
 .ite (!z2) (
 .leaf (1 : Int)) (
 .bind (vY r.Area (1 : Int) (1000 : Int)) fun z3 =>
 .ite (!z3) (
 .leaf (1 : Int)) (
 .bind (Ob r.Rest (1 : Int) (262144 : Int)) fun z4 =>
 .ite (!z4) (
 .leaf (1 : Int)) (
 .bind (Ob r.Lift (-2199023255552 : Int) (2199023255552 : Int)) fun z5 =>
 .ite (!z5) (.leaf (1 : Int)) (.leaf (0 : Int))))))))
def kZ : FnM := flM (aB × Int) (Int) (fun p => ([.agg (aB.enc p.1), .int .i64 p.2], [])) (fun p => BQ p.1 p.2) (fun r => .int .i64 r) (fun _ => rfl)
def SQ : Env := envM [(81, lZ.c), (100, vX.c)] [] [] [] [] 0
theorem OV : aN Tryz.prog 82 kZ.c := kZ.tells Tryz.func82 (show ∀ p, arun SQ Tryz.f82 (kZ.enc p).1 (kZ.enc p).2 = _ from fun p => by kernel_rfl) aP (.cons A8 (.cons Xg .nil))
def Gc (r : aB) (places : Int) : Option (Int) := kZ.val (r, places)
theorem U4 (r : aB) (places : Int) : Gc r places = (BQ r places).get := kZ.val_eq (fun x => (aB.dec (aggL (gd x.1 0)), intA (gd x.1 1))) (fun p => by kernel_rfl) (r, places)
def oO (u4_0 : Sq ay) (_u4_2 : Sq aB) (u4_3 : Int) : DT (LR (Int) (Unit) (Unit)) :=
 .ite (decide (u4_3 < ((u4_0.n : Nat) : Int))) (
 .ite (decide ((0 : Int) ≤ u4_3 ∧ u4_3 < ((u4_0.n : Nat) : Int))) (
 .bind (vY (u4_0.f (Int.toNat u4_3)).Height (-10000 : Int) (10000 : Int)) fun z0 =>
 .ite (!z0) (
 .leaf (.r ())) (
 .leaf (.next (wr (u4_3 + (1 : Int)))))) (
 .fail)) (
 .leaf (.l ()))
def vS : LpM := ⟨(Sq ay) × (Sq aB), Int, Unit, Unit, fun p => ⟨[(1, .ptr 0 0), (19, sqA 2 ay.enc p.1.1), (20, .int .i64 ((p.1.1.n : Nat) : Int)), (21, .int .i64 p.2)], [(0, .var [sqA 2 ay.enc p.1.1, sqA 10 aB.enc p.1.2])], 1088⟩, fun f v => oO f.1 f.2 v, false, (.exit 0), (fun x _ => ⟨[(1, .ptr 0 0), (2, .undef)], [(0, blkS x 0)], 1088⟩), .ret, (fun x _ => ⟨[(1, .ptr 0 0), (2, .int .i64 (1 : Int))], [(0, blkS x 0)], 1088⟩), c1, c1k⟩
def Jo (u4_0 : Sq ay) (u4_2 : Sq aB) (u4_3 : Int) : Option ((Unit) ⊕ (Unit)) := vS.val ((u4_0, u4_2), u4_3)
theorem WZ (u4_0 : Sq ay) (u4_2 : Sq aB) (u4_3 : Int) : Jo u4_0 u4_2 u4_3 = fixO (fun v : Int => oO u4_0 u4_2 v) u4_3 := vS.val_eq (fun x => ((sqD ay.dec (aget x.tm 19), sqD aB.dec (cellS x 0 1)), intA (aget x.tm 21))) (fun p => by kernel_rfl) ((u4_0, u4_2), u4_3)
def mX (u10_0 : Sq aB) (u10_2 : Sq ay) (u10_3 : Int) : DT (LR (Int) (Unit) (Int)) :=
 .ite (decide (u10_3 < ((u10_0.n : Nat) : Int))) (
 .ite (decide ((0 : Int) ≤ u10_3 ∧ u10_3 < ((u10_0.n : Nat) : Int))) (
 .bind (Gc (u10_0.f (Int.toNat u10_3)) ((u10_2.n : Nat) : Int)) fun z1 =>
 .ite (z1 != (0 : Int)) (
 .leaf (.r z1)) (
 .leaf (.next (wr (u10_3 + (1 : Int)))))) (
 .fail)) (
 .leaf (.l ()))
def tY : LpM := ⟨(Sq aB) × (Sq ay), Int, Unit, Int, fun p => ⟨[(1, .ptr 0 0), (31, sqA 10 aB.enc p.1.1), (32, .int .i64 ((p.1.1.n : Nat) : Int)), (33, .int .i64 p.2)], [(0, .var [sqA 2 ay.enc p.1.2, sqA 10 aB.enc p.1.1])], 1344⟩, fun f v => mX f.1 f.2 v, false, (.exit 2), (fun x _ => ⟨[(2, .undef)], [(0, blkS x 0)], 1344⟩), .ret, (fun x a => ⟨[(2, .int .i64 a)], [(0, blkS x 0)], 1344⟩), c1, c1k⟩
def Gb (u10_0 : Sq aB) (u10_2 : Sq ay) (u10_3 : Int) : Option ((Unit) ⊕ (Int)) := tY.val ((u10_0, u10_2), u10_3)
theorem UZ (u10_0 : Sq aB) (u10_2 : Sq ay) (u10_3 : Int) : Gb u10_0 u10_2 u10_3 = fixO (fun v : Int => mX u10_0 u10_2 v) u10_3 := tY.val_eq (fun x => ((sqD aB.dec (aget x.tm 31), sqD ay.dec (cellS x 0 0)), intA (aget x.tm 33))) (fun p => by kernel_rfl) ((u10_0, u10_2), u10_3)
def Mx (m : aL) : DT (Int) :=
 .ite (decide (((m.Places.n : Nat) : Int) > (64 : Int))) (
 .leaf (2 : Int)) (
 .ite (decide (((m.Roads.n : Nat) : Int) > (128 : Int))) (
 .leaf (2 : Int)) (
 .sum (Jo m.Places m.Roads (0 : Int)) (fun _ =>
 .sum (Gb m.Roads m.Places (0 : Int)) (fun _ =>
 .leaf (0 : Int)) (fun y0 => .leaf y0)) (fun _ => .leaf (1 : Int))))
def rA : FnM := flM (aL) (Int) (fun p => ([.agg (aL.enc p)], [])) (fun p => Mx p) (fun r => .int .i64 r) (fun _ => rfl)
def PL : Env := envM [(81, lZ.c), (82, kZ.c)] [(4, [1, 19, 20, 21], [1, 2]), (10, [1, 31, 32, 33], [2])] [(4, vS.c), (10, tY.c)] [] [(4, [0]), (10, [0])] 0
def VY : Env := { PL with nt := 46 }
theorem QX : aG VY (aH 4 Tryz.f61) vS.c := vS.tells 1088 (fun _ => by kernel_rfl) (fun _ _ _ _ => by kernel_rfl) (fun _ _ _ _ => by kernel_rfl) fun R f v N K => by kernel_rfl
theorem OT : aG VY (aH 10 Tryz.f61) tY.c := tY.tells 1344 (fun _ => by kernel_rfl) (fun _ _ _ _ => by kernel_rfl) (fun _ _ _ _ => by kernel_rfl) fun R f v N K => by kernel_rfl
theorem KC : aN Tryz.prog 61 rA.c := rA.tells Tryz.func61 (show ∀ p, arun PL Tryz.f61 (rA.enc p).1 (rA.enc p).2 = _ from fun p => by kernel_rfl) (bf [aH 4 Tryz.f61, aH 10 Tryz.f61] (by kernel_rfl) ⟨lpT (by kernel_rfl) QX, ⟨lpT (by kernel_rfl) OT, trivial⟩⟩) (.cons A8 (.cons OV .nil))
def N8 (m : aL) : Option (Int) := rA.val m
theorem abN (m : aL) : N8 m = (Mx m).get := rA.val_eq (fun x => aL.dec (aggL (gd x.1 0))) (fun p => by kernel_rfl) m
def Mg (n low high : Int) : DT (Bool) :=
 .ite (decide (low ≤ n)) (.leaf (decide (n ≤ high))) (.leaf false)
def rz : FnM := flM (Int × Int × Int) (Bool) (fun p => ([.int .i64 p.1, .int .i64 p.2.1, .int .i64 p.2.2], [])) (fun p => Mg p.1 p.2.1 p.2.2) (fun r => .bool r) (fun _ => rfl)
def ZR : Env := envM [] [] [] [] [] 0
theorem KA : aN Tryz.prog 101 rz.c := rz.tells Tryz.func101 (show ∀ p, arun ZR Tryz.f101 (rz.enc p).1 (rz.enc p).2 = _ from fun p => by kernel_rfl) aP .nil
def Hl (n low high : Int) : Option (Bool) := rz.val (n, low, high)
theorem abz (n low high : Int) : Hl n low high = (Mg n low high).get := rz.val_eq (fun x => (intA (gd x.1 0), intA (gd x.1 1), intA (gd x.1 2))) (fun p => by kernel_rfl) (n, low, high)
def QM (from_ to_ : aM) : DT (Bool) :=
 .ite (decide (from_.Flow < to_.Flow)) (.leaf (decide (from_.Pressure ≥ to_.Pressure))) (.leaf false)
def yU : FnM := flM (aM × aM) (Bool) (fun p => ([.agg (aM.enc p.1), .agg (aM.enc p.2)], [])) (fun p => QM p.1 p.2) (fun r => .bool r) (fun _ => rfl)
def aby : Env := envM [] [] [] [] [] 0
theorem YB : aN Tryz.prog 102 yU.c := yU.tells Tryz.func102 (show ∀ p, arun aby Tryz.f102 (yU.enc p).1 (yU.enc p).2 = _ from fun p => by kernel_rfl) aP .nil
def YA (from_ to_ : aM) : Option (Bool) := yU.val (from_, to_)
theorem ade (from_ to_ : aM) : YA from_ to_ = (QM from_ to_).get := yU.val_eq (fun x => (aM.dec (aggL (gd x.1 0)), aM.dec (aggL (gd x.1 1)))) (fun p => by kernel_rfl) (from_, to_)
def qG (u6_0 : Sq aM) (_u6_2 : Int) (_u6_3 _u6_4 : Bool) (u6_5 : Int) : DT (LR (Int) (Unit) (Int)) :=
 .ite (decide (u6_5 < ((u6_0.n : Nat) : Int))) (
 .ite (decide ((0 : Int) ≤ u6_5 ∧ u6_5 < ((u6_0.n : Nat) : Int))) (
 .bind (Hl (u6_0.f (Int.toNat u6_5)).Flow (-1048576 : Int) (1048576 : Int)) fun z0 =>
 .ite (!z0) (
 .leaf (.r (1 : Int))) (
 .bind (Hl (u6_0.f (Int.toNat u6_5)).Pressure (0 : Int) (2199023255552 : Int)) fun z1 =>
 .ite (!z1) (
 .leaf (.r (1 : Int))) (
 .ite (decide (u6_5 > (0 : Int))) (
 .ite (decide ((0 : Int) ≤ (wr (u6_5 - (1 : Int))) ∧ (wr (u6_5 - (1 : Int))) < ((u6_0.n : Nat) : Int))) (
 .bind (YA (u6_0.f (Int.toNat (wr (u6_5 - (1 : Int))))) (u6_0.f (Int.toNat u6_5))) fun z2 =>
 .ite (!z2) (
 .leaf (.r (14 : Int))) (
 .leaf (.next (wr (u6_5 + (1 : Int)))))) (
 .fail)) (
 .leaf (.next (wr (u6_5 + (1 : Int)))))))) (
 .fail)) (
 .leaf (.l ()))
def yu : LpM := ⟨(Sq aM) × Int × Bool × Bool, Int, Unit, Int, fun p => ⟨[(1, .ptr 0 0), (21, sqA 2 aM.enc p.1.1), (22, .int .i64 ((p.1.1.n : Nat) : Int)), (23, .int .i64 p.2)], [(0, .var [.int .i64 p.1.2.1, .bool p.1.2.2.1, .bool p.1.2.2.2, sqA 2 aM.enc p.1.1])], 1472⟩, fun f v => qG f.1 f.2.1 f.2.2.1 f.2.2.2 v, false, (.exit 1), (fun x _ => ⟨[(2, .undef)], [(0, blkS x 0)], 1472⟩), .ret, (fun x a => ⟨[(2, .int .i64 a)], [(0, blkS x 0)], 1472⟩), c1, c1k⟩
def Me (u6_0 : Sq aM) (u6_2 : Int) (u6_3 u6_4 : Bool) (u6_5 : Int) : Option ((Unit) ⊕ (Int)) := yu.val ((u6_0, u6_2, u6_3, u6_4), u6_5)
theorem Yv (u6_0 : Sq aM) (u6_2 : Int) (u6_3 u6_4 : Bool) (u6_5 : Int) : Me u6_0 u6_2 u6_3 u6_4 u6_5 = fixO (fun v : Int => qG u6_0 u6_2 u6_3 u6_4 v) u6_5 := yu.val_eq (fun x => ((sqD aM.dec (aget x.tm 21), intA (cellS x 0 0), iR (cellS x 0 1), iR (cellS x 0 2)), intA (aget x.tm 23))) (fun p => by kernel_rfl) ((u6_0, u6_2, u6_3, u6_4), u6_5)
def QK (f : SFan) : DT (Int) :=
 .ite (decide (f.Road < (0 : Int))) (
 .leaf (4 : Int)) (
 .ite (((f.Curve.n : Nat) : Int) == (0 : Int)) (
 .leaf (2 : Int)) (
 .ite (decide (((f.Curve.n : Nat) : Int) > (8 : Int))) (
 .leaf (2 : Int)) (
 .sum (Me f.Curve f.Road f.Back f.Auxiliary (0 : Int)) (fun _ =>
 .leaf (0 : Int)) (fun y0 => .leaf y0))))
def vR : FnM := flM (SFan) (Int) (fun p => ([.agg (SFan.enc p)], [])) (fun p => QK p) (fun r => .int .i64 r) (fun _ => rfl)
def Sm : Env := envM [(101, rz.c), (102, yU.c)] [(6, [1, 21, 22, 23], [2])] [(6, yu.c)] [] [(6, [0])] 0
def aes : Env := { Sm with nt := 52 }
theorem Sn : aG aes (aH 6 Tryz.f83) yu.c := yu.tells 1472 (fun _ => by kernel_rfl) (fun _ _ _ _ => by kernel_rfl) (fun _ _ _ _ => by kernel_rfl) fun R f v N K => by kernel_rfl
theorem Mf : aN Tryz.prog 83 vR.c := vR.tells Tryz.func83 (show ∀ p, arun Sm Tryz.f83 (vR.enc p).1 (vR.enc p).2 = _ from fun p => by kernel_rfl) (bf [aH 6 Tryz.f83] (by kernel_rfl) ⟨lpT (by kernel_rfl) Sn, trivial⟩) (.cons KA (.cons YB .nil))
def Sk (f : SFan) : Option (Int) := vR.val f
theorem adb (f : SFan) : Sk f = (QK f).get := vR.val_eq (fun x => SFan.dec (aggL (gd x.1 0))) (fun p => by kernel_rfl) f
def Dv (n low high : Int) : DT (Bool) :=
 .ite (decide (low ≤ n)) (.leaf (decide (n ≤ high))) (.leaf false)
def ko : FnM := flM (Int × Int × Int) (Bool) (fun p => ([.int .i64 p.1, .int .i64 p.2.1, .int .i64 p.2.2], [])) (fun p => Dv p.1 p.2.1 p.2.2) (fun r => .bool r) (fun _ => rfl)
def Uy : Env := envM [] [] [] [] [] 0
theorem Dw : aN Tryz.prog 86 ko.c := ko.tells Tryz.func86 (show ∀ p, arun Uy Tryz.f86 (ko.enc p).1 (ko.enc p).2 = _ from fun p => by kernel_rfl) aP .nil
def zJ (n low high : Int) : Option (Bool) := ko.val (n, low, high)
theorem WH (n low high : Int) : zJ n low high = (Dv n low high).get := ko.val_eq (fun x => (intA (gd x.1 0), intA (gd x.1 1), intA (gd x.1 2))) (fun p => by kernel_rfl) (n, low, high)
def BL (a : SAir) (road : Int) : DT (Bool) :=
 .bind (zJ road (0 : Int) (wr (((a.Mine.Roads.n : Nat) : Int) - (1 : Int)))) fun z0 =>
 .leaf z0
def gY : FnM := flM (SAir × Int) (Bool) (fun p => ([.agg (SAir.enc p.1), .int .i64 p.2], [])) (fun p => BL p.1 p.2) (fun r => .bool r) (fun _ => rfl)
def R3 : Env := envM [(86, ko.c)] [] [] [] [] 0
theorem xO : aN Tryz.prog 84 gY.c := gY.tells Tryz.func84 (show ∀ p, arun R3 Tryz.f84 (gY.enc p).1 (gY.enc p).2 = _ from fun p => by kernel_rfl) aP (.cons Dw .nil)
def yt (a : SAir) (road : Int) : Option (Bool) := gY.val (a, road)
theorem Uu (a : SAir) (road : Int) : yt a road = (BL a road).get := gY.val_eq (fun x => (SAir.dec (aggL (gd x.1 0)), intA (gd x.1 1))) (fun p => by kernel_rfl) (a, road)
def iI (u4_0 : Sq SFan) (u4_2 : Sq ay) (u4_3 : Sq aB) (u4_4 : Sq aC) (u4_5 : Int) : DT (LR (Int) (Unit) (Int)) :=
 .ite (decide (u4_5 < ((u4_0.n : Nat) : Int))) (
 .ite (decide ((0 : Int) ≤ u4_5 ∧ u4_5 < ((u4_0.n : Nat) : Int))) (
 .bind (Sk (u4_0.f (Int.toNat u4_5))) fun z0 =>
 .ite (z0 != (0 : Int)) (
 .leaf (.r z0)) (
 .bind (yt (SAir.mk (aL.mk u4_2 u4_3) u4_0 u4_4) (u4_0.f (Int.toNat u4_5)).Road) fun z1 =>
 .ite (!z1) (
 .leaf (.r (4 : Int))) (
 .leaf (.next (wr (u4_5 + (1 : Int))))))) (
 .fail)) (
 .leaf (.l ()))
def kg : LpM := ⟨(Sq SFan) × (Sq ay) × (Sq aB) × (Sq aC), Int, Unit, Int, fun p => ⟨[(1, .ptr 0 0), (11, sqA 4 SFan.enc p.1.1), (12, .int .i64 ((p.1.1.n : Nat) : Int)), (13, .int .i64 p.2)], [(0, .var [sqA 2 ay.enc p.1.2.1, sqA 10 aB.enc p.1.2.2.1, sqA 4 SFan.enc p.1.1, sqA 3 aC.enc p.1.2.2.2])], 704⟩, fun f v => iI f.1 f.2.1 f.2.2.1 f.2.2.2 v, false, (.exit 0), (fun x _ => ⟨[(2, .undef)], [(0, blkS x 0)], 704⟩), .ret, (fun x a => ⟨[(2, .int .i64 a)], [(0, blkS x 0)], 704⟩), c1, c1k⟩
def yQ (u4_0 : Sq SFan) (u4_2 : Sq ay) (u4_3 : Sq aB) (u4_4 : Sq aC) (u4_5 : Int) : Option ((Unit) ⊕ (Int)) := kg.val ((u4_0, u4_2, u4_3, u4_4), u4_5)
theorem KZ (u4_0 : Sq SFan) (u4_2 : Sq ay) (u4_3 : Sq aB) (u4_4 : Sq aC) (u4_5 : Int) : yQ u4_0 u4_2 u4_3 u4_4 u4_5 = fixO (fun v : Int => iI u4_0 u4_2 u4_3 u4_4 v) u4_5 := kg.val_eq (fun x => ((sqD SFan.dec (aget x.tm 11), sqD ay.dec (cellS x 0 0), sqD aB.dec (cellS x 0 1), sqD aC.dec (cellS x 0 3)), intA (aget x.tm 13))) (fun p => by kernel_rfl) ((u4_0, u4_2, u4_3, u4_4), u4_5)
def zI (a : SAir) : DT (Int) :=
 .ite (decide (((a.Fans.n : Nat) : Int) > (8 : Int))) (
 .leaf (2 : Int)) (
 .sum (yQ a.Fans a.Mine.Places a.Mine.Roads a.Doors (0 : Int)) (fun _ =>
 .leaf (0 : Int)) (fun y0 => .leaf y0))
def jd : FnM := flM (SAir) (Int) (fun p => ([.agg (SAir.enc p)], [])) (fun p => zI p) (fun r => .int .i64 r) (fun _ => rfl)
def Cj : Env := envM [(83, vR.c), (84, gY.c)] [(4, [1, 11, 12, 13], [2])] [(4, kg.c)] [] [(4, [0])] 0
def RS : Env := { Cj with nt := 28 }
theorem FU : aG RS (aH 4 Tryz.f62) kg.c := kg.tells 704 (fun _ => by kernel_rfl) (fun _ _ _ _ => by kernel_rfl) (fun _ _ _ _ => by kernel_rfl) fun R f v N K => by kernel_rfl
theorem K3 : aN Tryz.prog 62 jd.c := jd.tells Tryz.func62 (show ∀ p, arun Cj Tryz.f62 (jd.enc p).1 (jd.enc p).2 = _ from fun p => by kernel_rfl) (bf [aH 4 Tryz.f62] (by kernel_rfl) ⟨lpT (by kernel_rfl) FU, trivial⟩) (.cons Mf (.cons xO .nil))
def BJ (a : SAir) : Option (Int) := jd.val a
theorem Qx (a : SAir) : BJ a = (zI a).get := jd.val_eq (fun x => SAir.dec (aggL (gd x.1 0))) (fun p => by kernel_rfl) a
def AQ (rest : Int) : DT (Bool) :=
 .ite (decide (rest < (0 : Int))) (.leaf true) (.leaf (decide (rest > (262144 : Int))))
def jQ : FnM := flM (Int) (Bool) (fun p => ([.int .i64 p], [])) (fun p => AQ p) (fun r => .bool r) (fun _ => rfl)
def QG : Env := envM [] [] [] [] [] 0
theorem Md : aN Tryz.prog 118 jQ.c := jQ.tells Tryz.func118 (show ∀ p, arun QG Tryz.f118 (jQ.enc p).1 (jQ.enc p).2 = _ from fun p => by kernel_rfl) aP .nil
def DI (rest : Int) : Option (Bool) := jQ.val rest
theorem Sg (rest : Int) : DI rest = (AQ rest).get := jQ.val_eq (fun x => intA (gd x.1 0)) (fun p => by kernel_rfl) rest
def iL (u2_0 : Sq Int) (u2_2 : Int) : DT (LR (Int) (Unit) (Int)) :=
 .ite (decide (u2_2 < ((u2_0.n : Nat) : Int))) (
 .ite (decide ((0 : Int) ≤ u2_2 ∧ u2_2 < ((u2_0.n : Nat) : Int))) (
 .bind (DI (u2_0.f (Int.toNat u2_2))) fun z0 =>
 .ite z0 (
 .leaf (.r u2_2)) (
 .leaf (.next (wr (u2_2 + (1 : Int)))))) (
 .fail)) (
 .leaf (.l ()))
def kL : LpM := ⟨(Sq Int), Int, Unit, Int, fun p => ⟨[(0, sqA 1 (eI .i64) p.1), (1, .fn 118 []), (7, .int .i64 ((p.1.n : Nat) : Int)), (8, .int .i64 p.2)], [], 256⟩, fun f v => iL f v, false, (.exit 0), (fun _ _ => ⟨[(4, .undef)], [], 256⟩), .ret, (fun _ a => ⟨[(4, .int .i64 a)], [], 256⟩), c1, c1k⟩
def zk (u2_0 : Sq Int) (u2_2 : Int) : Option ((Unit) ⊕ (Int)) := kL.val (u2_0, u2_2)
theorem Ld (u2_0 : Sq Int) (u2_2 : Int) : zk u2_0 u2_2 = fixO (fun v : Int => iL u2_0 v) u2_2 := kL.val_eq (fun x => (sqD dI (aget x.tm 0), intA (aget x.tm 8))) (fun p => by kernel_rfl) (u2_0, u2_2)
def Aa (s : Sq Int) : DT (Int) :=
 .sum (zk s (0 : Int)) (fun _ =>
 .leaf (-1 : Int)) (fun y0 => .leaf y0)
def jl : FnM := flM ((Sq Int)) (Int) (fun p => ([sqA 1 (eI .i64) p, .fn 118 []], [])) (fun p => Aa p) (fun r => .int .i64 r) (fun _ => rfl)
def Ct : Env := envM [(118, jQ.c)] [(2, [0, 1, 7, 8], [4])] [(2, kL.c)] [] [(2, [])] 0
def TY : Env := { Ct with nt := 19 }
theorem GD : aG TY (aH 2 Tryz.f65) kL.c := kL.tells 256 (fun _ => by kernel_rfl) (fun _ _ _ _ => by kernel_rfl) (fun _ _ _ _ => by kernel_rfl) fun R f v N K => by kernel_rfl
theorem Lf : aN Tryz.prog 65 jl.c := jl.tells Tryz.func65 (show ∀ p, arun Ct Tryz.f65 (jl.enc p).1 (jl.enc p).2 = _ from fun p => by kernel_rfl) (bf [aH 2 Tryz.f65] (by kernel_rfl) ⟨lpT (by kernel_rfl) GD, trivial⟩) (.cons Md .nil)
def slices_IndexFunc (s : Sq Int) : Option (Int) := jl.val s
theorem Rt (s : Sq Int) : slices_IndexFunc s = (Aa s).get := jl.val_eq (fun x => sqD dI (gd x.1 0)) (fun p => by kernel_rfl) s
def wN (s : Sq Int) : DT (Bool) :=
 .bind (slices_IndexFunc s) fun z0 =>
 .leaf (decide (z0 ≥ (0 : Int)))
def fG : FnM := flM ((Sq Int)) (Bool) (fun p => ([sqA 1 (eI .i64) p, .fn 118 []], [])) (fun p => wN p) (fun r => .bool r) (fun _ => rfl)
def J8 : Env := envM [(65, jl.c)] [] [] [] [] 0
theorem Gz : aN Tryz.prog 40 fG.c := fG.tells Tryz.func40 (show ∀ p, arun J8 Tryz.f40 (fG.enc p).1 (fG.enc p).2 = _ from fun p => by kernel_rfl) aP (.cons Lf .nil)
def slices_ContainsFunc (s : Sq Int) : Option (Bool) := fG.val s
theorem Lb (s : Sq Int) : slices_ContainsFunc s = (wN s).get := fG.val_eq (fun x => sqD dI (gd x.1 0)) (fun p => by kernel_rfl) s
def lJ (u2_0 : Sq Int) (u2_2 : Int) : DT (LR (Int) (Unit) (Unit)) :=
 .ite (decide (u2_2 < ((u2_0.n : Nat) : Int))) (
 .ite (decide (u2_2 > (0 : Int))) (
 .ite (decide ((0 : Int) ≤ u2_2 ∧ u2_2 < ((u2_0.n : Nat) : Int))) (
 .ite (decide ((0 : Int) ≤ (wr (u2_2 - (1 : Int))) ∧ (wr (u2_2 - (1 : Int))) < ((u2_0.n : Nat) : Int))) (
 .ite (decide ((u2_0.f (Int.toNat u2_2)) ≥ (u2_0.f (Int.toNat (wr (u2_2 - (1 : Int))))))) (
 .leaf (.r ())) (
 .leaf (.next (wr (u2_2 + (1 : Int)))))) (
 .fail)) (
 .fail)) (
 .leaf (.next (wr (u2_2 + (1 : Int)))))) (
 .leaf (.l ()))
def qF : LpM := ⟨(Sq Int), Int, Unit, Unit, fun p => ⟨[(0, sqA 1 (eI .i64) p.1), (5, .int .i64 ((p.1.n : Nat) : Int)), (6, .int .i64 p.2)], [], 256⟩, fun f v => lJ f v, false, (.exit 0), (fun _ _ => ⟨[(2, .undef)], [], 256⟩), .ret, (fun _ _ => ⟨[(2, .bool false)], [], 256⟩), c1, c1k⟩
def DF (u2_0 : Sq Int) (u2_2 : Int) : Option ((Unit) ⊕ (Unit)) := qF.val (u2_0, u2_2)
theorem Sc (u2_0 : Sq Int) (u2_2 : Int) : DF u2_0 u2_2 = fixO (fun v : Int => lJ u2_0 v) u2_2 := qF.val_eq (fun x => (sqD dI (aget x.tm 0), intA (aget x.tm 6))) (fun p => by kernel_rfl) (u2_0, u2_2)
def F4 (l : Sq Int) : DT (Bool) :=
 .sum (DF l (0 : Int)) (fun _ =>
 .leaf true) (fun _ => .leaf false)
def p9 : FnM := flM ((Sq Int)) (Bool) (fun p => ([sqA 1 (eI .i64) p], [])) (fun p => F4 p) (fun r => .bool r) (fun _ => rfl)
def Ky : Env := envM [] [(2, [0, 5, 6], [2])] [(2, qF.c)] [] [(2, [])] 0
def ZJ : Env := { Ky with nt := 24 }
theorem Mc : aG ZJ (aH 2 Tryz.f119) qF.c := qF.tells 256 (fun _ => by kernel_rfl) (fun _ _ _ _ => by kernel_rfl) (fun _ _ _ _ => by kernel_rfl) fun R f v N K => by kernel_rfl
theorem Sd : aN Tryz.prog 119 p9.c := p9.tells Tryz.func119 (show ∀ p, arun Ky Tryz.f119 (p9.enc p).1 (p9.enc p).2 = _ from fun p => by kernel_rfl) (bf [aH 2 Tryz.f119] (by kernel_rfl) ⟨lpT (by kernel_rfl) Mc, trivial⟩) .nil
def Ma (l : Sq Int) : Option (Bool) := p9.val l
theorem Yr (l : Sq Int) : Ma l = (F4 l).get := p9.val_eq (fun x => sqD dI (gd x.1 0)) (fun p => by kernel_rfl) l
def UG (things number : Int) : DT (Bool) :=
 .ite (decide ((0 : Int) ≤ number)) (.leaf (decide (number < things))) (.leaf false)
def zn : FnM := flM (Int × Int) (Bool) (fun p => ([.int .i64 p.1, .int .i64 p.2], [])) (fun p => UG p.1 p.2) (fun r => .bool r) (fun _ => rfl)
def ac6 : Env := envM [] [] [] [] [] 0
theorem Pz : aN Tryz.prog 137 zn.c := zn.tells Tryz.func137 (show ∀ p, arun ac6 Tryz.f137 (zn.enc p).1 (zn.enc p).2 = _ from fun p => by kernel_rfl) aP .nil
def XM (things number : Int) : Option (Bool) := zn.val (things, number)
theorem aen (things number : Int) : XM things number = (UG things number).get := zn.val_eq (fun x => (intA (gd x.1 0), intA (gd x.1 1))) (fun p => by kernel_rfl) (things, number)
def I5 (l : Sq aC) (i : Int) : DT (Bool) :=
 .ite (decide ((0 : Int) ≤ i ∧ i < ((l.n : Nat) : Int))) (
 .ite ((l.f (Int.toNat i)).Other == (-1 : Int)) (
 .leaf true) (
 .ite ((l.f (Int.toNat i)).Other != i) (
 .bind (XM ((l.n : Nat) : Int) (l.f (Int.toNat i)).Other) fun z0 =>
 .ite z0 (
 .ite (decide ((0 : Int) ≤ (l.f (Int.toNat i)).Other ∧ (l.f (Int.toNat i)).Other < ((l.n : Nat) : Int))) (.leaf ((l.f (Int.toNat (l.f (Int.toNat i)).Other)).Other == i)) (.fail)) (
 .leaf false)) (
 .leaf false))) (
 .fail)
def sw : FnM := flM ((Sq aC) × Int) (Bool) (fun p => ([sqA 3 aC.enc p.1, .int .i64 p.2], [])) (fun p => I5 p.1 p.2) (fun r => .bool r) (fun _ => rfl)
def Yt : Env := envM [(137, zn.c)] [] [] [] [] 0
theorem UK : aN Tryz.prog 120 sw.c := sw.tells Tryz.func120 (show ∀ p, arun Yt Tryz.f120 (sw.enc p).1 (sw.enc p).2 = _ from fun p => by kernel_rfl) aP (.cons Pz .nil)
def QI (l : Sq aC) (i : Int) : Option (Bool) := sw.val (l, i)
theorem ZL (l : Sq aC) (i : Int) : QI l i = (I5 l i).get := sw.val_eq (fun x => (sqD aC.dec (gd x.1 0), intA (gd x.1 1))) (fun p => by kernel_rfl) (l, i)
def BP (l : Sq aC) (i : Int) : DT (Int) :=
 .ite (decide ((0 : Int) ≤ i ∧ i < ((l.n : Nat) : Int))) (
 .ite (decide ((l.f (Int.toNat i)).Road < (0 : Int))) (
 .leaf (4 : Int)) (
 .ite (decide ((((l.f (Int.toNat i)).Rests.n : Nat) : Int) < (2 : Int))) (
 .leaf (2 : Int)) (
 .ite (decide ((((l.f (Int.toNat i)).Rests.n : Nat) : Int) > (6 : Int))) (
 .leaf (2 : Int)) (
 .bind (slices_ContainsFunc (l.f (Int.toNat i)).Rests) fun z0 =>
 .ite z0 (
 .leaf (1 : Int)) (
 .bind (Ma (l.f (Int.toNat i)).Rests) fun z1 =>
 .ite (!z1) (
 .leaf (15 : Int)) (
 .bind (QI l i) fun z2 =>
 .ite (!z2) (.leaf (15 : Int)) (.leaf (0 : Int)))))))) (
 .fail)
def kX : FnM := flM ((Sq aC) × Int) (Int) (fun p => ([sqA 3 aC.enc p.1, .int .i64 p.2], [])) (fun p => BP p.1 p.2) (fun r => .int .i64 r) (fun _ => rfl)
def Sb : Env := envM [(40, fG.c), (119, p9.c), (120, sw.c)] [] [] [] [] 0
theorem OM : aN Tryz.prog 103 kX.c := kX.tells Tryz.func103 (show ∀ p, arun Sb Tryz.f103 (kX.enc p).1 (kX.enc p).2 = _ from fun p => by kernel_rfl) aP (.cons Gz (.cons Sd (.cons UK .nil)))
def F3 (l : Sq aC) (i : Int) : Option (Int) := kX.val (l, i)
theorem UF (l : Sq aC) (i : Int) : F3 l i = (BP l i).get := kX.val_eq (fun x => (sqD aC.dec (gd x.1 0), intA (gd x.1 1))) (fun p => by kernel_rfl) (l, i)
def oK (u4_0 : Sq aC) (u4_2 : Int) : DT (LR (Int) (Unit) (Int)) :=
 .ite (decide (u4_2 < ((u4_0.n : Nat) : Int))) (
 .bind (F3 u4_0 u4_2) fun z0 =>
 .ite (z0 != (0 : Int)) (
 .leaf (.r z0)) (
 .leaf (.next (wr (u4_2 + (1 : Int)))))) (
 .leaf (.l ()))
def vP : LpM := ⟨(Sq aC), Int, Unit, Int, fun p => ⟨[(0, sqA 3 aC.enc p.1), (9, .int .i64 ((p.1.n : Nat) : Int)), (10, .int .i64 p.2)], [], 512⟩, fun f v => oK f v, false, (.exit 0), (fun _ _ => ⟨[(2, .undef)], [], 512⟩), .ret, (fun _ a => ⟨[(2, .int .i64 a)], [], 512⟩), c1, c1k⟩
def I4 (u4_0 : Sq aC) (u4_2 : Int) : Option ((Unit) ⊕ (Int)) := vP.val (u4_0, u4_2)
theorem WL (u4_0 : Sq aC) (u4_2 : Int) : I4 u4_0 u4_2 = fixO (fun v : Int => oK u4_0 v) u4_2 := vP.val_eq (fun x => (sqD aC.dec (aget x.tm 0), intA (aget x.tm 10))) (fun p => by kernel_rfl) (u4_0, u4_2)
def L9 (l : Sq aC) : DT (Int) :=
 .ite (decide (((l.n : Nat) : Int) > (16 : Int))) (
 .leaf (2 : Int)) (
 .sum (I4 l (0 : Int)) (fun _ =>
 .leaf (0 : Int)) (fun y0 => .leaf y0))
def vQ : FnM := flM ((Sq aC)) (Int) (fun p => ([sqA 3 aC.enc p], [])) (fun p => L9 p) (fun r => .int .i64 r) (fun _ => rfl)
def Py : Env := envM [(103, kX.c)] [(4, [0, 9, 10], [2])] [(4, vP.c)] [] [(4, [])] 0
def ac3 : Env := { Py with nt := 20 }
theorem QE : aG ac3 (aH 4 Tryz.f85) vP.c := vP.tells 512 (fun _ => by kernel_rfl) (fun _ _ _ _ => by kernel_rfl) (fun _ _ _ _ => by kernel_rfl) fun R f v N K => by kernel_rfl
theorem WM : aN Tryz.prog 85 vQ.c := vQ.tells Tryz.func85 (show ∀ p, arun Py Tryz.f85 (vQ.enc p).1 (vQ.enc p).2 = _ from fun p => by kernel_rfl) (bf [aH 4 Tryz.f85] (by kernel_rfl) ⟨lpT (by kernel_rfl) QE, trivial⟩) (.cons OM .nil)
def UE (l : Sq aC) : Option (Int) := vQ.val l
theorem abt (l : Sq aC) : UE l = (L9 l).get := vQ.val_eq (fun x => sqD aC.dec (gd x.1 0)) (fun p => by kernel_rfl) l
def gJ (u5_0 : Sq aC) (u5_2 : Sq ay) (u5_3 : Sq aB) (u5_4 : Sq SFan) (u5_5 : Int) : DT (LR (Int) (Unit) (Unit)) :=
 .ite (decide (u5_5 < ((u5_0.n : Nat) : Int))) (
 .ite (decide ((0 : Int) ≤ u5_5 ∧ u5_5 < ((u5_0.n : Nat) : Int))) (
 .bind (yt (SAir.mk (aL.mk u5_2 u5_3) u5_4 u5_0) (u5_0.f (Int.toNat u5_5)).Road) fun z0 =>
 .ite (!z0) (
 .leaf (.r ())) (
 .leaf (.next (wr (u5_5 + (1 : Int)))))) (
 .fail)) (
 .leaf (.l ()))
def jA : LpM := ⟨(Sq aC) × (Sq ay) × (Sq aB) × (Sq SFan), Int, Unit, Unit, fun p => ⟨[(1, .ptr 0 0), (13, sqA 3 aC.enc p.1.1), (14, .int .i64 ((p.1.1.n : Nat) : Int)), (15, .int .i64 p.2)], [(0, .var [sqA 2 ay.enc p.1.2.1, sqA 10 aB.enc p.1.2.2.1, sqA 4 SFan.enc p.1.2.2.2, sqA 3 aC.enc p.1.1])], 896⟩, fun f v => gJ f.1 f.2.1 f.2.2.1 f.2.2.2 v, false, (.exit 0), (fun x _ => ⟨[(2, .undef)], [(0, blkS x 0)], 896⟩), .ret, (fun x _ => ⟨[(2, .int .i64 (4 : Int))], [(0, blkS x 0)], 896⟩), c1, c1k⟩
def xM (u5_0 : Sq aC) (u5_2 : Sq ay) (u5_3 : Sq aB) (u5_4 : Sq SFan) (u5_5 : Int) : Option ((Unit) ⊕ (Unit)) := jA.val ((u5_0, u5_2, u5_3, u5_4), u5_5)
theorem IQ (u5_0 : Sq aC) (u5_2 : Sq ay) (u5_3 : Sq aB) (u5_4 : Sq SFan) (u5_5 : Int) : xM u5_0 u5_2 u5_3 u5_4 u5_5 = fixO (fun v : Int => gJ u5_0 u5_2 u5_3 u5_4 v) u5_5 := jA.val_eq (fun x => ((sqD aC.dec (aget x.tm 13), sqD ay.dec (cellS x 0 0), sqD aB.dec (cellS x 0 1), sqD SFan.dec (cellS x 0 2)), intA (aget x.tm 15))) (fun p => by kernel_rfl) ((u5_0, u5_2, u5_3, u5_4), u5_5)
def yP (a : SAir) : DT (Int) :=
 .bind (UE a.Doors) fun z1 =>
 .ite (z1 != (0 : Int)) (
 .leaf z1) (
 .sum (xM a.Doors a.Mine.Places a.Mine.Roads a.Fans (0 : Int)) (fun _ =>
 .leaf (0 : Int)) (fun _ => .leaf (4 : Int)))
def iB : FnM := flM (SAir) (Int) (fun p => ([.agg (SAir.enc p)], [])) (fun p => yP p) (fun r => .int .i64 r) (fun _ => rfl)
def Bt : Env := envM [(85, vQ.c), (84, gY.c)] [(5, [1, 13, 14, 15], [2])] [(5, jA.c)] [] [(5, [0])] 0
def Qv : Env := { Bt with nt := 25 }
theorem EG : aG Qv (aH 5 Tryz.f63) jA.c := jA.tells 896 (fun _ => by kernel_rfl) (fun _ _ _ _ => by kernel_rfl) (fun _ _ _ _ => by kernel_rfl) fun R f v N K => by kernel_rfl
theorem IU : aN Tryz.prog 63 iB.c := iB.tells Tryz.func63 (show ∀ p, arun Bt Tryz.f63 (iB.enc p).1 (iB.enc p).2 = _ from fun p => by kernel_rfl) (bf [aH 5 Tryz.f63] (by kernel_rfl) ⟨lpT (by kernel_rfl) EG, trivial⟩) (.cons WM (.cons xO .nil))
def AA (a : SAir) : Option (Int) := iB.val a
theorem OE (a : SAir) : AA a = (yP a).get := iB.val_eq (fun x => SAir.dec (aggL (gd x.1 0))) (fun p => by kernel_rfl) a
def FP (a : SAir) : DT (Int) :=
 .bind (N8 a.Mine) fun z0 =>
 .ite (z0 != (0 : Int)) (
 .leaf z0) (
 .bind (BJ a) fun z1 =>
 .ite (z1 != (0 : Int)) (
 .leaf z1) (
 .bind (AA a) fun z2 =>
 .leaf z2))
def mq : FnM := flM (SAir) (Int) (fun p => ([.agg (SAir.enc p)], [])) (fun p => FP p) (fun r => .int .i64 r) (fun _ => rfl)
def Wy : Env := envM [(61, rA.c), (62, jd.c), (63, iB.c)] [] [] [] [] 0
theorem Fb : aN Tryz.prog 38 mq.c := mq.tells Tryz.func38 (show ∀ p, arun Wy Tryz.f38 (mq.enc p).1 (mq.enc p).2 = _ from fun p => by kernel_rfl) aP (.cons KC (.cons K3 (.cons IU .nil)))
def Fa (a : SAir) : Option (Int) := mq.val a
theorem Yf (a : SAir) : Fa a = (FP a).get := mq.val_eq (fun x => SAir.dec (aggL (gd x.1 0))) (fun p => by kernel_rfl) a
def jy (u4_0 : Sq Int) (_u4_2 : Sq ay) (_u4_3 : Sq aB) (_u4_4 : Sq SFan) (_u4_5 : Sq aC) (_u4_6 : Sq Int) (u4_7 : Int) : DT (LR (Int) (Unit) (Unit)) :=
 .ite (decide (u4_7 < ((u4_0.n : Nat) : Int))) (
 .ite (decide ((0 : Int) ≤ u4_7 ∧ u4_7 < ((u4_0.n : Nat) : Int))) (
 .bind (zJ (u4_0.f (Int.toNat u4_7)) (-1 : Int) (2 : Int)) fun z0 =>
 .ite (!z0) (
 .leaf (.r ())) (
 .leaf (.next (wr (u4_7 + (1 : Int)))))) (
 .fail)) (
 .leaf (.l ()))
def mU : LpM := ⟨(Sq Int) × (Sq ay) × (Sq aB) × (Sq SFan) × (Sq aC) × (Sq Int), Int, Unit, Unit, fun p => ⟨[(2, .ptr 0 0), (3, .ptr 64 0), (26, sqA 1 (eI .i64) p.1.1), (27, .int .i64 ((p.1.1.n : Nat) : Int)), (28, .int .i64 p.2)], [(0, .var [sqA 2 ay.enc p.1.2.1, sqA 10 aB.enc p.1.2.2.1, sqA 4 SFan.enc p.1.2.2.2.1, sqA 3 aC.enc p.1.2.2.2.2.1]), (64, .var [sqA 1 (eI .i64) p.1.1, sqA 1 (eI .i64) p.1.2.2.2.2.2])], 1536⟩, fun f v => jy f.1 f.2.1 f.2.2.1 f.2.2.2.1 f.2.2.2.2.1 f.2.2.2.2.2 v, false, (.exit 0), (fun x _ => ⟨[(2, .ptr 0 0), (3, .ptr 64 0), (4, .undef)], [(0, blkS x 0), (64, blkS x 64)], 1536⟩), .ret, (fun x _ => ⟨[(2, .ptr 0 0), (3, .ptr 64 0), (4, .bool false)], [(0, blkS x 0), (64, blkS x 64)], 1536⟩), c1, c1k⟩
def Az (u4_0 : Sq Int) (u4_2 : Sq ay) (u4_3 : Sq aB) (u4_4 : Sq SFan) (u4_5 : Sq aC) (u4_6 : Sq Int) (u4_7 : Int) : Option ((Unit) ⊕ (Unit)) := mU.val ((u4_0, u4_2, u4_3, u4_4, u4_5, u4_6), u4_7)
theorem OC (u4_0 : Sq Int) (u4_2 : Sq ay) (u4_3 : Sq aB) (u4_4 : Sq SFan) (u4_5 : Sq aC) (u4_6 : Sq Int) (u4_7 : Int) : Az u4_0 u4_2 u4_3 u4_4 u4_5 u4_6 u4_7 = fixO (fun v : Int => jy u4_0 u4_2 u4_3 u4_4 u4_5 u4_6 v) u4_7 := mU.val_eq (fun x => ((sqD dI (aget x.tm 26), sqD ay.dec (cellS x 0 0), sqD aB.dec (cellS x 0 1), sqD SFan.dec (cellS x 0 2), sqD aC.dec (cellS x 0 3), sqD dI (cellS x 64 1)), intA (aget x.tm 28))) (fun p => by kernel_rfl) ((u4_0, u4_2, u4_3, u4_4, u4_5, u4_6), u4_7)
def jc (u10_0 : Sq Int) (_u10_2 : Sq ay) (_u10_3 : Sq aB) (_u10_4 : Sq SFan) (u10_5 : Sq aC) (u10_6 : Int) : DT (LR (Int) (Unit) (Unit)) :=
 .ite (decide (u10_6 < ((u10_0.n : Nat) : Int))) (
 .ite (decide ((0 : Int) ≤ u10_6 ∧ u10_6 < ((u10_0.n : Nat) : Int))) (
 .ite (decide ((0 : Int) ≤ u10_6 ∧ u10_6 < ((u10_5.n : Nat) : Int))) (
 .bind (zJ (u10_0.f (Int.toNat u10_6)) (-1 : Int) (wr ((((u10_5.f (Int.toNat u10_6)).Rests.n : Nat) : Int) - (1 : Int)))) fun z1 =>
 .ite (!z1) (
 .leaf (.r ())) (
 .leaf (.next (wr (u10_6 + (1 : Int)))))) (
 .fail)) (
 .fail)) (
 .leaf (.l ()))
def lI : LpM := ⟨(Sq Int) × (Sq ay) × (Sq aB) × (Sq SFan) × (Sq aC), Int, Unit, Unit, fun p => ⟨[(2, .ptr 0 0), (37, sqA 1 (eI .i64) p.1.1), (38, .int .i64 ((p.1.1.n : Nat) : Int)), (39, .int .i64 p.2)], [(0, .var [sqA 2 ay.enc p.1.2.1, sqA 10 aB.enc p.1.2.2.1, sqA 4 SFan.enc p.1.2.2.2.1, sqA 3 aC.enc p.1.2.2.2.2])], 1792⟩, fun f v => jc f.1 f.2.1 f.2.2.1 f.2.2.2.1 f.2.2.2.2 v, false, (.exit 2), (fun x _ => ⟨[(4, .undef)], [(0, blkS x 0)], 1792⟩), .ret, (fun x _ => ⟨[(4, .bool false)], [(0, blkS x 0)], 1792⟩), c1, c1k⟩
def zH (u10_0 : Sq Int) (u10_2 : Sq ay) (u10_3 : Sq aB) (u10_4 : Sq SFan) (u10_5 : Sq aC) (u10_6 : Int) : Option ((Unit) ⊕ (Unit)) := lI.val ((u10_0, u10_2, u10_3, u10_4, u10_5), u10_6)
theorem LW (u10_0 : Sq Int) (u10_2 : Sq ay) (u10_3 : Sq aB) (u10_4 : Sq SFan) (u10_5 : Sq aC) (u10_6 : Int) : zH u10_0 u10_2 u10_3 u10_4 u10_5 u10_6 = fixO (fun v : Int => jc u10_0 u10_2 u10_3 u10_4 u10_5 v) u10_6 := lI.val_eq (fun x => ((sqD dI (aget x.tm 37), sqD ay.dec (cellS x 0 0), sqD aB.dec (cellS x 0 1), sqD SFan.dec (cellS x 0 2), sqD aC.dec (cellS x 0 3)), intA (aget x.tm 39))) (fun p => by kernel_rfl) ((u10_0, u10_2, u10_3, u10_4, u10_5), u10_6)
def BI (a : SAir) (s : au) : DT (Bool) :=
 .ite (((s.Fans.n : Nat) : Int) != ((a.Fans.n : Nat) : Int)) (
 .leaf false) (
 .ite (((s.Doors.n : Nat) : Int) != ((a.Doors.n : Nat) : Int)) (
 .leaf false) (
 .sum (Az s.Fans a.Mine.Places a.Mine.Roads a.Fans a.Doors s.Doors (0 : Int)) (fun _ =>
 .sum (zH s.Doors a.Mine.Places a.Mine.Roads a.Fans a.Doors (0 : Int)) (fun _ =>
 .leaf true) (fun _ => .leaf false)) (fun _ => .leaf false)))
def kU : FnM := flM (SAir × au) (Bool) (fun p => ([.agg (SAir.enc p.1), .agg (au.enc p.2)], [])) (fun p => BI p.1 p.2) (fun r => .bool r) (fun _ => rfl)
def Fg : Env := envM [(86, ko.c)] [(4, [2, 3, 26, 27, 28], [2, 3, 4]), (10, [2, 37, 38, 39], [4])] [(4, mU.c), (10, lI.c)] [] [(4, [0, 64]), (10, [0])] 0
def Kw : Env := { Fg with nt := 56 }
theorem IL : aG Kw (aH 4 Tryz.f64) mU.c := mU.tells 1536 (fun _ => by kernel_rfl) (fun _ _ _ _ => by kernel_rfl) (fun _ _ _ _ => by kernel_rfl) fun R f v N K => by kernel_rfl
theorem G9 : aG Kw (aH 10 Tryz.f64) lI.c := lI.tells 1792 (fun _ => by kernel_rfl) (fun _ _ _ _ => by kernel_rfl) (fun _ _ _ _ => by kernel_rfl) fun R f v N K => by kernel_rfl
theorem OD : aN Tryz.prog 64 kU.c := kU.tells Tryz.func64 (show ∀ p, arun Fg Tryz.f64 (kU.enc p).1 (kU.enc p).2 = _ from fun p => by kernel_rfl) (bf [aH 4 Tryz.f64, aH 10 Tryz.f64] (by kernel_rfl) ⟨lpT (by kernel_rfl) IL, ⟨lpT (by kernel_rfl) G9, trivial⟩⟩) (.cons Dw .nil)
def FT (a : SAir) (s : au) : Option (Bool) := kU.val (a, s)
theorem Us (a : SAir) (s : au) : FT a s = (BI a s).get := kU.val_eq (fun x => (SAir.dec (aggL (gd x.1 0)), au.dec (aggL (gd x.1 1)))) (fun p => by kernel_rfl) (a, s)
def FQ (a : SAir) (s : au) : DT (Bool) :=
 .bind (Fa a) fun z0 =>
 .ite (z0 == (0 : Int)) (
 .bind (FT a s) fun z1 =>
 .leaf z1) (
 .leaf false)
def jX : FnM := flM (SAir × au) (Bool) (fun p => ([.agg (SAir.enc p.1), .agg (au.enc p.2)], [])) (fun p => FQ p.1 p.2) (fun r => .bool r) (fun _ => rfl)
def WB : Env := envM [(38, mq.c), (64, kU.c)] [] [] [] [] 0
theorem zF : aN Tryz.prog 39 jX.c := jX.tells Tryz.func39 (show ∀ p, arun WB Tryz.f39 (jX.enc p).1 (jX.enc p).2 = _ from fun p => by kernel_rfl) aP (.cons Fb (.cons OD .nil))
def Br (a : SAir) (s : au) : Option (Bool) := jX.val (a, s)
theorem Yh (a : SAir) (s : au) : Br a s = (FQ a s).get := jX.val_eq (fun x => (SAir.dec (aggL (gd x.1 0)), au.dec (aggL (gd x.1 1)))) (fun p => by kernel_rfl) (a, s)
def MR (s : aK) (low high : Int) : DT (Bool) :=
 .ite (decide (low ≤ s.Low)) (
 .ite (decide (s.Low ≤ s.High)) (.leaf (decide (s.High ≤ high))) (.leaf false)) (
 .leaf false)
def wB : FnM := flM (aK × Int × Int) (Bool) (fun p => ([.agg (aK.enc p.1), .int .i64 p.2.1, .int .i64 p.2.2], [])) (fun p => MR p.1 p.2.1 p.2.2) (fun r => .bool r) (fun _ => rfl)
def aac : Env := envM [] [] [] [] [] 0
theorem Xn : aN Tryz.prog 116 wB.c := wB.tells Tryz.func116 (show ∀ p, arun aac Tryz.f116 (wB.enc p).1 (wB.enc p).2 = _ from fun p => by kernel_rfl) aP .nil
def Oc (s : aK) (low high : Int) : Option (Bool) := wB.val (s, low, high)
theorem abZ (s : aK) (low high : Int) : Oc s low high = (MR s low high).get := wB.val_eq (fun x => (aK.dec (aggL (gd x.1 0)), intA (gd x.1 1), intA (gd x.1 2))) (fun p => by kernel_rfl) (s, low, high)
def mZ (u4_0 : Sq ay) (_u4_1 : Sq aB) (u4_2 : Int) : DT (LR (Int) (Unit) (Unit)) :=
 .ite (decide (u4_2 < ((u4_0.n : Nat) : Int))) (
 .ite (decide ((0 : Int) ≤ u4_2 ∧ u4_2 < ((u4_0.n : Nat) : Int))) (
 .ite (decide ((u4_0.f (Int.toNat u4_2)).Height < (-10000 : Int))) (
 .leaf (.r ())) (
 .ite (decide ((u4_0.f (Int.toNat u4_2)).Height > (10000 : Int))) (
 .leaf (.r ())) (
 .leaf (.next (wr (u4_2 + (1 : Int))))))) (
 .fail)) (
 .leaf (.l ()))
def uf : LpM := ⟨(Sq ay) × (Sq aB), Int, Unit, Unit, fun p => ⟨[(1, .ptr 0 0), (3, .int .i64 p.2)], [(0, .var [sqA 2 ay.enc p.1.1, sqA 10 aB.enc p.1.2])], 896⟩, fun f v => mZ f.1 f.2 v, false, (.exit 0), (fun x _ => ⟨[(1, .ptr 0 0), (2, .undef)], [(0, blkS x 0)], 896⟩), .ret, (fun x _ => ⟨[(1, .ptr 0 0), (2, .int .i64 (1 : Int))], [(0, blkS x 0)], 896⟩), c1, c1k⟩
def Gf (u4_0 : Sq ay) (u4_1 : Sq aB) (u4_2 : Int) : Option ((Unit) ⊕ (Unit)) := uf.val ((u4_0, u4_1), u4_2)
theorem U7 (u4_0 : Sq ay) (u4_1 : Sq aB) (u4_2 : Int) : Gf u4_0 u4_1 u4_2 = fixO (fun v : Int => mZ u4_0 u4_1 v) u4_2 := uf.val_eq (fun x => ((sqD ay.dec (cellS x 0 0), sqD aB.dec (cellS x 0 1)), intA (aget x.tm 3))) (fun p => by kernel_rfl) ((u4_0, u4_1), u4_2)
def lK (u10_0 : Sq ay) (u10_1 : Sq aB) (u10_2 : Int) : DT (LR (Int) (Unit) (Int)) :=
 .ite (decide (u10_2 < ((u10_1.n : Nat) : Int))) (
 .ite (decide ((0 : Int) ≤ u10_2 ∧ u10_2 < ((u10_1.n : Nat) : Int))) (
 .ite (decide ((u10_1.f (Int.toNat u10_2)).From < (0 : Int))) (
 .leaf (.r (4 : Int))) (
 .ite (decide ((u10_1.f (Int.toNat u10_2)).From ≥ ((u10_0.n : Nat) : Int))) (
 .leaf (.r (4 : Int))) (
 .ite (decide ((u10_1.f (Int.toNat u10_2)).To < (0 : Int))) (
 .leaf (.r (4 : Int))) (
 .ite (decide ((u10_1.f (Int.toNat u10_2)).To ≥ ((u10_0.n : Nat) : Int))) (
 .leaf (.r (4 : Int))) (
 .ite ((u10_1.f (Int.toNat u10_2)).From == (u10_1.f (Int.toNat u10_2)).To) (
 .leaf (.r (4 : Int))) (
 .ite (decide ((u10_1.f (Int.toNat u10_2)).Length < (1 : Int))) (
 .leaf (.r (1 : Int))) (
 .ite (decide ((u10_1.f (Int.toNat u10_2)).Length > (100000 : Int))) (
 .leaf (.r (1 : Int))) (
 .ite (decide ((u10_1.f (Int.toNat u10_2)).Area < (1 : Int))) (
 .leaf (.r (1 : Int))) (
 .ite (decide ((u10_1.f (Int.toNat u10_2)).Area > (1000 : Int))) (
 .leaf (.r (1 : Int))) (
 .bind (Oc (u10_1.f (Int.toNat u10_2)).Rest (1 : Int) (262144 : Int)) fun z0 =>
 .ite (!z0) (
 .leaf (.r (1 : Int))) (
 .bind (Oc (u10_1.f (Int.toNat u10_2)).Lift (-2199023255552 : Int) (2199023255552 : Int)) fun z1 =>
 .ite (!z1) (
 .leaf (.r (1 : Int))) (
 .leaf (.next (wr (u10_2 + (1 : Int)))))))))))))))) (
 .fail)) (
 .leaf (.l ()))
def qH : LpM := ⟨(Sq ay) × (Sq aB), Int, Unit, Int, fun p => ⟨[(1, .ptr 0 0), (5, .int .i64 p.2)], [(0, .var [sqA 2 ay.enc p.1.1, sqA 10 aB.enc p.1.2])], 960⟩, fun f v => lK f.1 f.2 v, false, (.exit 2), (fun x _ => ⟨[(2, .undef)], [(0, blkS x 0)], 960⟩), .ret, (fun x a => ⟨[(2, .int .i64 a)], [(0, blkS x 0)], 960⟩), c1, c1k⟩
def DW (u10_0 : Sq ay) (u10_1 : Sq aB) (u10_2 : Int) : Option ((Unit) ⊕ (Int)) := qH.val ((u10_0, u10_1), u10_2)
theorem Tc (u10_0 : Sq ay) (u10_1 : Sq aB) (u10_2 : Int) : DW u10_0 u10_1 u10_2 = fixO (fun v : Int => lK u10_0 u10_1 v) u10_2 := qH.val_eq (fun x => ((sqD ay.dec (cellS x 0 0), sqD aB.dec (cellS x 0 1)), intA (aget x.tm 5))) (fun p => by kernel_rfl) ((u10_0, u10_1), u10_2)
def Jt (m : aL) : DT (Int) :=
 .ite (decide (((m.Places.n : Nat) : Int) > (64 : Int))) (
 .leaf (2 : Int)) (
 .ite (decide (((m.Roads.n : Nat) : Int) > (128 : Int))) (
 .leaf (2 : Int)) (
 .sum (Gf m.Places m.Roads (0 : Int)) (fun _ =>
 .sum (DW m.Places m.Roads (0 : Int)) (fun _ =>
 .leaf (0 : Int)) (fun y0 => .leaf y0)) (fun _ => .leaf (1 : Int))))
def sN : FnM := flM (aL) (Int) (fun p => ([.agg (aL.enc p)], [])) (fun p => Jt p) (fun r => .int .i64 r) (fun _ => rfl)
def MN : Env := envM [(116, wB.c)] [(4, [1, 3], [1, 2]), (10, [1, 5], [2])] [(4, uf.c), (10, qH.c)] [] [(4, [0]), (10, [0])] 0
def Ta : Env := { MN with nt := 109 }
theorem OW : aG Ta (aH 4 Tryz.f95) uf.c := uf.tells 896 (fun _ => by kernel_rfl) (fun _ _ _ _ => by kernel_rfl) (fun _ _ _ _ => by kernel_rfl) fun R f v N K => by kernel_rfl
theorem MO : aG Ta (aH 10 Tryz.f95) qH.c := qH.tells 960 (fun _ => by kernel_rfl) (fun _ _ _ _ => by kernel_rfl) (fun _ _ _ _ => by kernel_rfl) fun R f v N K => by kernel_rfl
theorem U8 : aN Tryz.prog 95 sN.c := sN.tells Tryz.func95 (show ∀ p, arun MN Tryz.f95 (sN.enc p).1 (sN.enc p).2 = _ from fun p => by kernel_rfl) (bf [aH 4 Tryz.f95, aH 10 Tryz.f95] (by kernel_rfl) ⟨lpT (by kernel_rfl) OW, ⟨lpT (by kernel_rfl) MO, trivial⟩⟩) (.cons Xn .nil)
def Q7 (m : aL) : Option (Int) := sN.val m
theorem Z8 (m : aL) : Q7 m = (Jt m).get := sN.val_eq (fun x => aL.dec (aggL (gd x.1 0))) (fun p => by kernel_rfl) m
def ng (_u6_0 : Int) (_u6_1 _u6_2 : Bool) (u6_3 : Sq aM) (u6_4 : Int) : DT (LR (Int) (Unit) (Int)) :=
 .ite (decide (u6_4 < ((u6_3.n : Nat) : Int))) (
 .ite (decide ((0 : Int) ≤ u6_4 ∧ u6_4 < ((u6_3.n : Nat) : Int))) (
 .ite (decide ((u6_3.f (Int.toNat u6_4)).Flow < (-1048576 : Int))) (
 .leaf (.r (1 : Int))) (
 .ite (decide ((u6_3.f (Int.toNat u6_4)).Flow > (1048576 : Int))) (
 .leaf (.r (1 : Int))) (
 .ite (decide ((u6_3.f (Int.toNat u6_4)).Pressure < (0 : Int))) (
 .leaf (.r (1 : Int))) (
 .ite (decide ((u6_3.f (Int.toNat u6_4)).Pressure > (2199023255552 : Int))) (
 .leaf (.r (1 : Int))) (
 .ite (decide (u6_4 > (0 : Int))) (
 .ite (decide ((0 : Int) ≤ (wr (u6_4 - (1 : Int))) ∧ (wr (u6_4 - (1 : Int))) < ((u6_3.n : Nat) : Int))) (
 .ite (decide ((u6_3.f (Int.toNat u6_4)).Flow ≤ (u6_3.f (Int.toNat (wr (u6_4 - (1 : Int))))).Flow)) (
 .leaf (.r (14 : Int))) (
 .ite (decide ((0 : Int) ≤ (wr (u6_4 - (1 : Int))) ∧ (wr (u6_4 - (1 : Int))) < ((u6_3.n : Nat) : Int))) (
 .ite (decide ((u6_3.f (Int.toNat u6_4)).Pressure > (u6_3.f (Int.toNat (wr (u6_4 - (1 : Int))))).Pressure)) (
 .leaf (.r (14 : Int))) (
 .leaf (.next (wr (u6_4 + (1 : Int)))))) (
 .fail))) (
 .fail)) (
 .leaf (.next (wr (u6_4 + (1 : Int)))))))))) (
 .fail)) (
 .leaf (.l ()))
def uh : LpM := ⟨Int × Bool × Bool × (Sq aM), Int, Unit, Int, fun p => ⟨[(1, .ptr 0 0), (3, .int .i64 p.2)], [(0, .var [.int .i64 p.1.1, .bool p.1.2.1, .bool p.1.2.2.1, sqA 2 aM.enc p.1.2.2.2])], 1152⟩, fun f v => ng f.1 f.2.1 f.2.2.1 f.2.2.2 v, false, (.exit 0), (fun x _ => ⟨[(2, .undef)], [(0, blkS x 0)], 1152⟩), .ret, (fun x a => ⟨[(2, .int .i64 a)], [(0, blkS x 0)], 1152⟩), c1, c1k⟩
def Gg (u6_0 : Int) (u6_1 u6_2 : Bool) (u6_3 : Sq aM) (u6_4 : Int) : Option ((Unit) ⊕ (Int)) := uh.val ((u6_0, u6_1, u6_2, u6_3), u6_4)
theorem Vb (u6_0 : Int) (u6_1 u6_2 : Bool) (u6_3 : Sq aM) (u6_4 : Int) : Gg u6_0 u6_1 u6_2 u6_3 u6_4 = fixO (fun v : Int => ng u6_0 u6_1 u6_2 u6_3 v) u6_4 := uh.val_eq (fun x => ((intA (cellS x 0 0), iR (cellS x 0 1), iR (cellS x 0 2), sqD aM.dec (cellS x 0 3)), intA (aget x.tm 3))) (fun p => by kernel_rfl) ((u6_0, u6_1, u6_2, u6_3), u6_4)
def Jz (f : SFan) : DT (Int) :=
 .ite (decide (f.Road < (0 : Int))) (
 .leaf (4 : Int)) (
 .ite (decide (((f.Curve.n : Nat) : Int) < (1 : Int))) (
 .leaf (2 : Int)) (
 .ite (decide (((f.Curve.n : Nat) : Int) > (8 : Int))) (
 .leaf (2 : Int)) (
 .sum (Gg f.Road f.Back f.Auxiliary f.Curve (0 : Int)) (fun _ =>
 .leaf (0 : Int)) (fun y0 => .leaf y0))))
def sP : FnM := flM (SFan) (Int) (fun p => ([.agg (SFan.enc p)], [])) (fun p => Jz p) (fun r => .int .i64 r) (fun _ => rfl)
def MU : Env := envM [] [(6, [1, 3], [2])] [(6, uh.c)] [] [(6, [0])] 0
def ab1 : Env := { MU with nt := 74 }
theorem OX : aG ab1 (aH 6 Tryz.f96) uh.c := uh.tells 1152 (fun _ => by kernel_rfl) (fun _ _ _ _ => by kernel_rfl) (fun _ _ _ _ => by kernel_rfl) fun R f v N K => by kernel_rfl
theorem Vd : aN Tryz.prog 96 sP.c := sP.tells Tryz.func96 (show ∀ p, arun MU Tryz.f96 (sP.enc p).1 (sP.enc p).2 = _ from fun p => by kernel_rfl) (bf [aH 6 Tryz.f96] (by kernel_rfl) ⟨lpT (by kernel_rfl) OX, trivial⟩) .nil
def Rb (f : SFan) : Option (Int) := sP.val f
theorem aag (f : SFan) : Rb f = (Jz f).get := sP.val_eq (fun x => SFan.dec (aggL (gd x.1 0))) (fun p => by kernel_rfl) f
def lM (_u12_0 : Sq aC) (_u12_1 _u12_2 : Int) (u12_3 : Sq Int) (_u12_5 u12_4 : Int) : DT (LR (Int) (Unit) (Unit)) :=
 .ite (decide (u12_4 < ((u12_3.n : Nat) : Int))) (
 .ite (decide ((0 : Int) ≤ u12_4 ∧ u12_4 < ((u12_3.n : Nat) : Int))) (
 .ite (decide ((u12_3.f (Int.toNat u12_4)) < (0 : Int))) (
 .leaf (.r ())) (
 .ite (decide ((0 : Int) ≤ u12_4 ∧ u12_4 < ((u12_3.n : Nat) : Int))) (
 .ite (decide ((u12_3.f (Int.toNat u12_4)) > (262144 : Int))) (
 .leaf (.r ())) (
 .leaf (.next (wr (u12_4 + (1 : Int)))))) (
 .fail))) (
 .fail)) (
 .leaf (.l ()))
def qI : LpM := ⟨(Sq aC) × Int × Int × (Sq Int) × Int, Int, Unit, Unit, fun p => ⟨[(0, sqA 3 aC.enc p.1.1), (3, .int .i64 p.1.2.2.2.2), (4, .ptr 896 0), (5, .int .i64 p.2)], [(896, .var [.int .i64 p.1.2.1, .int .i64 p.1.2.2.1, sqA 1 (eI .i64) p.1.2.2.2.1])], 2048⟩, fun f v => lM f.1 f.2.1 f.2.2.1 f.2.2.2.1 f.2.2.2.2 v, false, (.exit 2), (fun x _ => ⟨[(0, aget x.tm 0), (2, .undef), (3, aget x.tm 3), (4, .ptr 896 0)], [(896, blkS x 896)], 2048⟩), .ret, (fun x _ => ⟨[(0, aget x.tm 0), (2, .int .i64 (1 : Int)), (3, aget x.tm 3), (4, .ptr 896 0)], [(896, blkS x 896)], 2048⟩), c1, c1k⟩
def DY (u12_0 : Sq aC) (u12_1 u12_2 : Int) (u12_3 : Sq Int) (u12_5 u12_4 : Int) : Option ((Unit) ⊕ (Unit)) := qI.val ((u12_0, u12_1, u12_2, u12_3, u12_5), u12_4)
theorem Tj (u12_0 : Sq aC) (u12_1 u12_2 : Int) (u12_3 : Sq Int) (u12_5 u12_4 : Int) : DY u12_0 u12_1 u12_2 u12_3 u12_5 u12_4 = fixO (fun v : Int => lM u12_0 u12_1 u12_2 u12_3 u12_5 v) u12_4 := qI.val_eq (fun x => ((sqD aC.dec (aget x.tm 0), intA (cellS x 896 0), intA (cellS x 896 1), sqD dI (cellS x 896 2), intA (aget x.tm 3)), intA (aget x.tm 5))) (fun p => by kernel_rfl) ((u12_0, u12_1, u12_2, u12_3, u12_5), u12_4)
def lN (_u17_0 : Sq aC) (_u17_1 _u17_2 : Int) (u17_3 : Sq Int) (_u17_5 u17_4 : Int) : DT (LR (Int) (Unit) (Unit)) :=
 .ite (decide (u17_4 < ((u17_3.n : Nat) : Int))) (
 .ite (decide ((0 : Int) ≤ u17_4 ∧ u17_4 < ((u17_3.n : Nat) : Int))) (
 .ite (decide ((0 : Int) ≤ (wr (u17_4 - (1 : Int))) ∧ (wr (u17_4 - (1 : Int))) < ((u17_3.n : Nat) : Int))) (
 .ite (decide ((u17_3.f (Int.toNat u17_4)) ≥ (u17_3.f (Int.toNat (wr (u17_4 - (1 : Int))))))) (
 .leaf (.r ())) (
 .leaf (.next (wr (u17_4 + (1 : Int)))))) (
 .fail)) (
 .fail)) (
 .leaf (.l ()))
def qJ : LpM := ⟨(Sq aC) × Int × Int × (Sq Int) × Int, Int, Unit, Unit, fun p => ⟨[(0, sqA 3 aC.enc p.1.1), (3, .int .i64 p.1.2.2.2.2), (4, .ptr 896 0), (6, .int .i64 p.2)], [(896, .var [.int .i64 p.1.2.1, .int .i64 p.1.2.2.1, sqA 1 (eI .i64) p.1.2.2.2.1])], 2112⟩, fun f v => lN f.1 f.2.1 f.2.2.1 f.2.2.2.1 f.2.2.2.2 v, false, (.exit 4), (fun x _ => ⟨[(0, aget x.tm 0), (2, .undef), (3, aget x.tm 3), (4, .ptr 896 0)], [(896, blkS x 896)], 2112⟩), .ret, (fun x _ => ⟨[(0, aget x.tm 0), (2, .int .i64 (15 : Int)), (3, aget x.tm 3), (4, .ptr 896 0)], [(896, blkS x 896)], 2112⟩), c1, c1k⟩
def DZ (u17_0 : Sq aC) (u17_1 u17_2 : Int) (u17_3 : Sq Int) (u17_5 u17_4 : Int) : Option ((Unit) ⊕ (Unit)) := qJ.val ((u17_0, u17_1, u17_2, u17_3, u17_5), u17_4)
theorem Tk (u17_0 : Sq aC) (u17_1 u17_2 : Int) (u17_3 : Sq Int) (u17_5 u17_4 : Int) : DZ u17_0 u17_1 u17_2 u17_3 u17_5 u17_4 = fixO (fun v : Int => lN u17_0 u17_1 u17_2 u17_3 u17_5 v) u17_4 := qJ.val_eq (fun x => ((sqD aC.dec (aget x.tm 0), intA (cellS x 896 0), intA (cellS x 896 1), sqD dI (cellS x 896 2), intA (aget x.tm 3)), intA (aget x.tm 6))) (fun p => by kernel_rfl) ((u17_0, u17_1, u17_2, u17_3, u17_5), u17_4)
def ni (u4_0 : Sq aC) (u4_1 : Int) : DT (LR (Int) (Unit) (Int)) :=
 .ite (decide (u4_1 < ((u4_0.n : Nat) : Int))) (
 .ite (decide ((0 : Int) ≤ u4_1 ∧ u4_1 < ((u4_0.n : Nat) : Int))) (
 .ite (decide ((u4_0.f (Int.toNat u4_1)).Road < (0 : Int))) (
 .leaf (.r (4 : Int))) (
 .ite (decide ((((u4_0.f (Int.toNat u4_1)).Rests.n : Nat) : Int) < (2 : Int))) (
 .leaf (.r (2 : Int))) (
 .ite (decide ((((u4_0.f (Int.toNat u4_1)).Rests.n : Nat) : Int) > (6 : Int))) (
 .leaf (.r (2 : Int))) (
 .sum (DY u4_0 (u4_0.f (Int.toNat u4_1)).Road (u4_0.f (Int.toNat u4_1)).Other (u4_0.f (Int.toNat u4_1)).Rests u4_1 (0 : Int)) (fun _ =>
 .sum (DZ u4_0 (u4_0.f (Int.toNat u4_1)).Road (u4_0.f (Int.toNat u4_1)).Other (u4_0.f (Int.toNat u4_1)).Rests u4_1 (1 : Int)) (fun _ =>
 .ite ((u4_0.f (Int.toNat u4_1)).Other != (-1 : Int)) (
 .ite (decide ((u4_0.f (Int.toNat u4_1)).Other < (0 : Int))) (
 .leaf (.r (15 : Int))) (
 .ite (decide ((u4_0.f (Int.toNat u4_1)).Other ≥ ((u4_0.n : Nat) : Int))) (
 .leaf (.r (15 : Int))) (
 .ite ((u4_0.f (Int.toNat u4_1)).Other == u4_1) (
 .leaf (.r (15 : Int))) (
 .ite (decide ((0 : Int) ≤ (u4_0.f (Int.toNat u4_1)).Other ∧ (u4_0.f (Int.toNat u4_1)).Other < ((u4_0.n : Nat) : Int))) (
 .ite ((u4_0.f (Int.toNat (u4_0.f (Int.toNat u4_1)).Other)).Other != u4_1) (
 .leaf (.r (15 : Int))) (
 .leaf (.next (wr (u4_1 + (1 : Int)))))) (
 .fail))))) (
 .leaf (.next (wr (u4_1 + (1 : Int)))))) (fun _ => .leaf (.r (15 : Int)))) (fun _ => .leaf (.r (1 : Int))))))) (
 .fail)) (
 .leaf (.l ()))
def uo : LpM := ⟨(Sq aC), Int, Unit, Int, fun p => ⟨[(0, sqA 3 aC.enc p.1), (3, .int .i64 p.2)], [], 384⟩, fun f v => ni f v, false, (.exit 0), (fun _ _ => ⟨[(2, .undef)], [], 384⟩), .ret, (fun _ a => ⟨[(2, .int .i64 a)], [], 384⟩), c1, c1k⟩
def Gi (u4_0 : Sq aC) (u4_1 : Int) : Option ((Unit) ⊕ (Int)) := uo.val (u4_0, u4_1)
theorem Vg (u4_0 : Sq aC) (u4_1 : Int) : Gi u4_0 u4_1 = fixO (fun v : Int => ni u4_0 v) u4_1 := uo.val_eq (fun x => (sqD aC.dec (aget x.tm 0), intA (aget x.tm 3))) (fun p => by kernel_rfl) (u4_0, u4_1)
def JH (l : Sq aC) : DT (Int) :=
 .ite (decide (((l.n : Nat) : Int) > (16 : Int))) (
 .leaf (2 : Int)) (
 .sum (Gi l (0 : Int)) (fun _ =>
 .leaf (0 : Int)) (fun y0 => .leaf y0))
def sU : FnM := flM ((Sq aC)) (Int) (fun p => ([sqA 3 aC.enc p], [])) (fun p => JH p) (fun r => .int .i64 r) (fun _ => rfl)
def MW : Env := envM [] [(12, [0, 3, 4, 5], [0, 2, 3, 4]), (17, [0, 3, 4, 6], [0, 2, 3, 4]), (4, [0, 3], [2])] [(12, qI.c), (17, qJ.c), (4, uo.c)] [] [(12, [896]), (17, [896]), (4, [])] 0
def JG : Env := { MW with nt := 104 }
theorem MX : aG JG (aH 12 Tryz.f97) qI.c := qI.tells 2048 (fun _ => by kernel_rfl) (fun _ _ _ _ => by kernel_rfl) (fun _ _ _ _ => by kernel_rfl) fun R f v N K => by kernel_rfl
theorem MZ : aG JG (aH 17 Tryz.f97) qJ.c := qJ.tells 2112 (fun _ => by kernel_rfl) (fun _ _ _ _ => by kernel_rfl) (fun _ _ _ _ => by kernel_rfl) fun R f v N K => by kernel_rfl
theorem OZ : aG JG (aH 4 Tryz.f97) uo.c := uo.tells 384 (fun _ => by kernel_rfl) (fun _ _ _ _ => by kernel_rfl) (fun _ _ _ _ => by kernel_rfl) fun R f v N K => by kernel_rfl
theorem Vh : aN Tryz.prog 97 sU.c := sU.tells Tryz.func97 (show ∀ p, arun MW Tryz.f97 (sU.enc p).1 (sU.enc p).2 = _ from fun p => by kernel_rfl) (bf [aH 4 Tryz.f97, aH 12 Tryz.f97, aH 17 Tryz.f97] (by kernel_rfl) ⟨lpT (by kernel_rfl) OZ, ⟨lpT (by kernel_rfl) MX, ⟨lpT (by kernel_rfl) MZ, trivial⟩⟩⟩) .nil
def Rf (l : Sq aC) : Option (Int) := sU.val l
theorem aaj (l : Sq aC) : Rf l = (JH l).get := sU.val_eq (fun x => sqD aC.dec (gd x.1 0)) (fun p => by kernel_rfl) l
def nA (_u7_0 : Sq ay) (u7_1 : Sq aB) (u7_2 : Sq SFan) (_u7_3 : Sq aC) (u7_4 : Int) : DT (LR (Int) (Unit) (Int)) :=
 .ite (decide (u7_4 < ((u7_2.n : Nat) : Int))) (
 .ite (decide ((0 : Int) ≤ u7_4 ∧ u7_4 < ((u7_2.n : Nat) : Int))) (
 .bind (Rb (u7_2.f (Int.toNat u7_4))) fun z0 =>
 .ite (z0 != (0 : Int)) (
 .leaf (.r z0)) (
 .ite (decide ((0 : Int) ≤ u7_4 ∧ u7_4 < ((u7_2.n : Nat) : Int))) (
 .ite (decide ((u7_2.f (Int.toNat u7_4)).Road ≥ ((u7_1.n : Nat) : Int))) (
 .leaf (.r (4 : Int))) (
 .leaf (.next (wr (u7_4 + (1 : Int)))))) (
 .fail))) (
 .fail)) (
 .leaf (.l ()))
def uq : LpM := ⟨(Sq ay) × (Sq aB) × (Sq SFan) × (Sq aC), Int, Unit, Int, fun p => ⟨[(1, .ptr 0 0), (4, .int .i64 p.2)], [(0, .var [sqA 2 ay.enc p.1.1, sqA 10 aB.enc p.1.2.1, sqA 4 SFan.enc p.1.2.2.1, sqA 3 aC.enc p.1.2.2.2])], 1024⟩, fun f v => nA f.1 f.2.1 f.2.2.1 f.2.2.2 v, false, (.exit 0), (fun x _ => ⟨[(1, .ptr 0 0), (2, .undef)], [(0, blkS x 0)], 1024⟩), .ret, (fun x a => ⟨[(1, .ptr 0 0), (2, .int .i64 a)], [(0, blkS x 0)], 1024⟩), c1, c1k⟩
def Gj (u7_0 : Sq ay) (u7_1 : Sq aB) (u7_2 : Sq SFan) (u7_3 : Sq aC) (u7_4 : Int) : Option ((Unit) ⊕ (Int)) := uq.val ((u7_0, u7_1, u7_2, u7_3), u7_4)
theorem Vi (u7_0 : Sq ay) (u7_1 : Sq aB) (u7_2 : Sq SFan) (u7_3 : Sq aC) (u7_4 : Int) : Gj u7_0 u7_1 u7_2 u7_3 u7_4 = fixO (fun v : Int => nA u7_0 u7_1 u7_2 u7_3 v) u7_4 := uq.val_eq (fun x => ((sqD ay.dec (cellS x 0 0), sqD aB.dec (cellS x 0 1), sqD SFan.dec (cellS x 0 2), sqD aC.dec (cellS x 0 3)), intA (aget x.tm 4))) (fun p => by kernel_rfl) ((u7_0, u7_1, u7_2, u7_3), u7_4)
def lQ (_u18_0 : Sq ay) (u18_1 : Sq aB) (_u18_2 : Sq SFan) (u18_3 : Sq aC) (u18_4 : Int) : DT (LR (Int) (Unit) (Unit)) :=
 .ite (decide (u18_4 < ((u18_3.n : Nat) : Int))) (
 .ite (decide ((0 : Int) ≤ u18_4 ∧ u18_4 < ((u18_3.n : Nat) : Int))) (
 .ite (decide ((u18_3.f (Int.toNat u18_4)).Road ≥ ((u18_1.n : Nat) : Int))) (
 .leaf (.r ())) (
 .leaf (.next (wr (u18_4 + (1 : Int)))))) (
 .fail)) (
 .leaf (.l ()))
def qK : LpM := ⟨(Sq ay) × (Sq aB) × (Sq SFan) × (Sq aC), Int, Unit, Unit, fun p => ⟨[(1, .ptr 0 0), (7, .int .i64 p.2)], [(0, .var [sqA 2 ay.enc p.1.1, sqA 10 aB.enc p.1.2.1, sqA 4 SFan.enc p.1.2.2.1, sqA 3 aC.enc p.1.2.2.2])], 1600⟩, fun f v => lQ f.1 f.2.1 f.2.2.1 f.2.2.2 v, false, (.exit 2), (fun x _ => ⟨[(2, .undef)], [(0, blkS x 0)], 1600⟩), .ret, (fun x _ => ⟨[(2, .int .i64 (4 : Int))], [(0, blkS x 0)], 1600⟩), c1, c1k⟩
def D5 (u18_0 : Sq ay) (u18_1 : Sq aB) (u18_2 : Sq SFan) (u18_3 : Sq aC) (u18_4 : Int) : Option ((Unit) ⊕ (Unit)) := qK.val ((u18_0, u18_1, u18_2, u18_3), u18_4)
theorem Tp (u18_0 : Sq ay) (u18_1 : Sq aB) (u18_2 : Sq SFan) (u18_3 : Sq aC) (u18_4 : Int) : D5 u18_0 u18_1 u18_2 u18_3 u18_4 = fixO (fun v : Int => lQ u18_0 u18_1 u18_2 u18_3 v) u18_4 := qK.val_eq (fun x => ((sqD ay.dec (cellS x 0 0), sqD aB.dec (cellS x 0 1), sqD SFan.dec (cellS x 0 2), sqD aC.dec (cellS x 0 3)), intA (aget x.tm 7))) (fun p => by kernel_rfl) ((u18_0, u18_1, u18_2, u18_3), u18_4)
def JK (a : SAir) : DT (Int) :=
 .bind (Q7 a.Mine) fun z1 =>
 .ite (z1 != (0 : Int)) (
 .leaf z1) (
 .ite (decide (((a.Fans.n : Nat) : Int) > (8 : Int))) (
 .leaf (2 : Int)) (
 .sum (Gj a.Mine.Places a.Mine.Roads a.Fans a.Doors (0 : Int)) (fun _ =>
 .bind (Rf a.Doors) fun z2 =>
 .ite (z2 != (0 : Int)) (
 .leaf z2) (
 .sum (D5 a.Mine.Places a.Mine.Roads a.Fans a.Doors (0 : Int)) (fun _ =>
 .leaf (0 : Int)) (fun _ => .leaf (4 : Int)))) (fun y0 => .leaf y0)))
def oZ : FnM := flM (SAir) (Int) (fun p => ([.agg (SAir.enc p)], [])) (fun p => JK p) (fun r => .int .i64 r) (fun _ => rfl)
def M4 : Env := envM [(95, sN.c), (96, sP.c), (97, sU.c)] [(7, [1, 4], [1, 2]), (18, [1, 7], [2])] [(7, uq.c), (18, qK.c)] [] [(7, [0]), (18, [0])] 0
def Tn : Env := { M4 with nt := 69 }
theorem O0 : aG Tn (aH 7 Tryz.f75) uq.c := uq.tells 1024 (fun _ => by kernel_rfl) (fun _ _ _ _ => by kernel_rfl) (fun _ _ _ _ => by kernel_rfl) fun R f v N K => by kernel_rfl
theorem M5 : aG Tn (aH 18 Tryz.f75) qK.c := qK.tells 1600 (fun _ => by kernel_rfl) (fun _ _ _ _ => by kernel_rfl) (fun _ _ _ _ => by kernel_rfl) fun R f v N K => by kernel_rfl
theorem Hz : aN Tryz.prog 75 oZ.c := oZ.tells Tryz.func75 (show ∀ p, arun M4 Tryz.f75 (oZ.enc p).1 (oZ.enc p).2 = _ from fun p => by kernel_rfl) (bf [aH 7 Tryz.f75, aH 18 Tryz.f75] (by kernel_rfl) ⟨lpT (by kernel_rfl) O0, ⟨lpT (by kernel_rfl) M5, trivial⟩⟩) (.cons U8 (.cons Vd (.cons Vh .nil)))
def JJ (a : SAir) : Option (Int) := oZ.val a
theorem aak (a : SAir) : JJ a = (JK a).get := oZ.val_eq (fun x => SAir.dec (aggL (gd x.1 0))) (fun p => by kernel_rfl) a
def nE (_u4_0 : Sq ay) (_u4_1 : Sq aB) (_u4_2 : Sq SFan) (_u4_3 : Sq aC) (u4_4 _u4_5 : Sq Int) (u4_6 : Int) : DT (LR (Int) (Unit) (Unit)) :=
 .ite (decide (u4_6 < ((u4_4.n : Nat) : Int))) (
 .ite (decide ((0 : Int) ≤ u4_6 ∧ u4_6 < ((u4_4.n : Nat) : Int))) (
 .ite (decide ((u4_4.f (Int.toNat u4_6)) < (-1 : Int))) (
 .leaf (.r ())) (
 .ite (decide ((0 : Int) ≤ u4_6 ∧ u4_6 < ((u4_4.n : Nat) : Int))) (
 .ite (decide ((u4_4.f (Int.toNat u4_6)) > (2 : Int))) (
 .leaf (.r ())) (
 .leaf (.next (wr (u4_6 + (1 : Int)))))) (
 .fail))) (
 .fail)) (
 .leaf (.l ()))
def uy : LpM := ⟨(Sq ay) × (Sq aB) × (Sq SFan) × (Sq aC) × (Sq Int) × (Sq Int), Int, Unit, Unit, fun p => ⟨[(2, .ptr 0 0), (3, .ptr 64 0), (5, .int .i64 p.2)], [(0, .var [sqA 2 ay.enc p.1.1, sqA 10 aB.enc p.1.2.1, sqA 4 SFan.enc p.1.2.2.1, sqA 3 aC.enc p.1.2.2.2.1]), (64, .var [sqA 1 (eI .i64) p.1.2.2.2.2.1, sqA 1 (eI .i64) p.1.2.2.2.2.2])], 1664⟩, fun f v => nE f.1 f.2.1 f.2.2.1 f.2.2.2.1 f.2.2.2.2.1 f.2.2.2.2.2 v, false, (.exit 0), (fun x _ => ⟨[(2, .ptr 0 0), (3, .ptr 64 0), (4, .undef)], [(0, blkS x 0), (64, blkS x 64)], 1664⟩), .ret, (fun x _ => ⟨[(2, .ptr 0 0), (3, .ptr 64 0), (4, .bool false)], [(0, blkS x 0), (64, blkS x 64)], 1664⟩), c1, c1k⟩
def Gn (u4_0 : Sq ay) (u4_1 : Sq aB) (u4_2 : Sq SFan) (u4_3 : Sq aC) (u4_4 u4_5 : Sq Int) (u4_6 : Int) : Option ((Unit) ⊕ (Unit)) := uy.val ((u4_0, u4_1, u4_2, u4_3, u4_4, u4_5), u4_6)
theorem Vk (u4_0 : Sq ay) (u4_1 : Sq aB) (u4_2 : Sq SFan) (u4_3 : Sq aC) (u4_4 u4_5 : Sq Int) (u4_6 : Int) : Gn u4_0 u4_1 u4_2 u4_3 u4_4 u4_5 u4_6 = fixO (fun v : Int => nE u4_0 u4_1 u4_2 u4_3 u4_4 u4_5 v) u4_6 := uy.val_eq (fun x => ((sqD ay.dec (cellS x 0 0), sqD aB.dec (cellS x 0 1), sqD SFan.dec (cellS x 0 2), sqD aC.dec (cellS x 0 3), sqD dI (cellS x 64 0), sqD dI (cellS x 64 1)), intA (aget x.tm 5))) (fun p => by kernel_rfl) ((u4_0, u4_1, u4_2, u4_3, u4_4, u4_5), u4_6)
def nG (_u9_0 : Sq ay) (_u9_1 : Sq aB) (_u9_2 : Sq SFan) (u9_3 : Sq aC) (_u9_4 u9_5 : Sq Int) (u9_6 : Int) : DT (LR (Int) (Unit) (Unit)) :=
 .ite (decide (u9_6 < ((u9_5.n : Nat) : Int))) (
 .ite (decide ((0 : Int) ≤ u9_6 ∧ u9_6 < ((u9_5.n : Nat) : Int))) (
 .ite (decide ((u9_5.f (Int.toNat u9_6)) < (-1 : Int))) (
 .leaf (.r ())) (
 .ite (decide ((0 : Int) ≤ u9_6 ∧ u9_6 < ((u9_5.n : Nat) : Int))) (
 .ite (decide ((0 : Int) ≤ u9_6 ∧ u9_6 < ((u9_3.n : Nat) : Int))) (
 .ite (decide ((u9_5.f (Int.toNat u9_6)) ≥ (((u9_3.f (Int.toNat u9_6)).Rests.n : Nat) : Int))) (
 .leaf (.r ())) (
 .leaf (.next (wr (u9_6 + (1 : Int)))))) (
 .fail)) (
 .fail))) (
 .fail)) (
 .leaf (.l ()))
def uz : LpM := ⟨(Sq ay) × (Sq aB) × (Sq SFan) × (Sq aC) × (Sq Int) × (Sq Int), Int, Unit, Unit, fun p => ⟨[(2, .ptr 0 0), (3, .ptr 64 0), (6, .int .i64 p.2)], [(0, .var [sqA 2 ay.enc p.1.1, sqA 10 aB.enc p.1.2.1, sqA 4 SFan.enc p.1.2.2.1, sqA 3 aC.enc p.1.2.2.2.1]), (64, .var [sqA 1 (eI .i64) p.1.2.2.2.2.1, sqA 1 (eI .i64) p.1.2.2.2.2.2])], 1728⟩, fun f v => nG f.1 f.2.1 f.2.2.1 f.2.2.2.1 f.2.2.2.2.1 f.2.2.2.2.2 v, false, (.exit 2), (fun x _ => ⟨[(4, .undef)], [(0, blkS x 0), (64, blkS x 64)], 1728⟩), .ret, (fun x _ => ⟨[(4, .bool false)], [(0, blkS x 0), (64, blkS x 64)], 1728⟩), c1, c1k⟩
def Gp (u9_0 : Sq ay) (u9_1 : Sq aB) (u9_2 : Sq SFan) (u9_3 : Sq aC) (u9_4 u9_5 : Sq Int) (u9_6 : Int) : Option ((Unit) ⊕ (Unit)) := uz.val ((u9_0, u9_1, u9_2, u9_3, u9_4, u9_5), u9_6)
theorem Vl (u9_0 : Sq ay) (u9_1 : Sq aB) (u9_2 : Sq SFan) (u9_3 : Sq aC) (u9_4 u9_5 : Sq Int) (u9_6 : Int) : Gp u9_0 u9_1 u9_2 u9_3 u9_4 u9_5 u9_6 = fixO (fun v : Int => nG u9_0 u9_1 u9_2 u9_3 u9_4 u9_5 v) u9_6 := uz.val_eq (fun x => ((sqD ay.dec (cellS x 0 0), sqD aB.dec (cellS x 0 1), sqD SFan.dec (cellS x 0 2), sqD aC.dec (cellS x 0 3), sqD dI (cellS x 64 0), sqD dI (cellS x 64 1)), intA (aget x.tm 6))) (fun p => by kernel_rfl) ((u9_0, u9_1, u9_2, u9_3, u9_4, u9_5), u9_6)
def JN (a : SAir) (s : au) : DT (Bool) :=
 .bind (JJ a) fun z0 =>
 .ite (z0 != (0 : Int)) (
 .leaf false) (
 .ite (((s.Fans.n : Nat) : Int) != ((a.Fans.n : Nat) : Int)) (
 .leaf false) (
 .ite (((s.Doors.n : Nat) : Int) != ((a.Doors.n : Nat) : Int)) (
 .leaf false) (
 .sum (Gn a.Mine.Places a.Mine.Roads a.Fans a.Doors s.Fans s.Doors (0 : Int)) (fun _ =>
 .sum (Gp a.Mine.Places a.Mine.Roads a.Fans a.Doors s.Fans s.Doors (0 : Int)) (fun _ =>
 .leaf true) (fun _ => .leaf false)) (fun _ => .leaf false))))
def sW : FnM := flM (SAir × au) (Bool) (fun p => ([.agg (SAir.enc p.1), .agg (au.enc p.2)], [])) (fun p => JN p.1 p.2) (fun r => .bool r) (fun _ => rfl)
def Na : Env := envM [(75, oZ.c)] [(4, [2, 3, 5], [2, 3, 4]), (9, [2, 3, 6], [4])] [(4, uy.c), (9, uz.c)] [] [(4, [0, 64]), (9, [0, 64])] 0
def Tz : Env := { Na with nt := 77 }
theorem O3 : aG Tz (aH 4 Tryz.f76) uy.c := uy.tells 1664 (fun _ => by kernel_rfl) (fun _ _ _ _ => by kernel_rfl) (fun _ _ _ _ => by kernel_rfl) fun R f v N K => by kernel_rfl
theorem O4 : aG Tz (aH 9 Tryz.f76) uz.c := uz.tells 1728 (fun _ => by kernel_rfl) (fun _ _ _ _ => by kernel_rfl) (fun _ _ _ _ => by kernel_rfl) fun R f v N K => by kernel_rfl
theorem Vm : aN Tryz.prog 76 sW.c := sW.tells Tryz.func76 (show ∀ p, arun Na Tryz.f76 (sW.enc p).1 (sW.enc p).2 = _ from fun p => by kernel_rfl) (bf [aH 4 Tryz.f76, aH 9 Tryz.f76] (by kernel_rfl) ⟨lpT (by kernel_rfl) O3, ⟨lpT (by kernel_rfl) O4, trivial⟩⟩) (.cons Hz .nil)
def Rj (a : SAir) (s : au) : Option (Bool) := sW.val (a, s)
theorem aan (a : SAir) (s : au) : Rj a s = (JN a s).get := sW.val_eq (fun x => (SAir.dec (aggL (gd x.1 0)), au.dec (aggL (gd x.1 1)))) (fun p => by kernel_rfl) (a, s)
end
end Go.Proofs.YtmfiagdelnddkaaGreat.Ab
