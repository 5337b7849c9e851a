/- A part of the proof, what is needed of it. -/
import Derived.Test.YtimkpfnbkclclaaGreatPj05
namespace Go.Proofs.YtimkpfnbkclclaaGreat.Ab
noncomputable section
open Go
attribute [local irreducible] arun
structure qA where
  Height : Int
  Surface : Bool
def qA.enc (x : qA) : List AV := [.int .i64 x.Height, .bool x.Surface]
def qA.dec (l : List AV) : qA := ⟨intA (gd l 0), pU (gd l 1)⟩
structure qB where
  Low : Int
  High : Int
def qB.enc (x : qB) : List AV := [.int .i64 x.Low, .int .i64 x.High]
def qB.dec (l : List AV) : qB := ⟨intA (gd l 0), intA (gd l 1)⟩
structure qC where
  From : Int
  To : Int
  Length : Int
  Area : Int
  Walk : Bool
  Closed : Bool
  Rest : qB
  Lift : qB
def qC.enc (x : qC) : List AV := [.int .i64 x.From, .int .i64 x.To, .int .i64 x.Length, .int .i64 x.Area, .bool x.Walk, .bool x.Closed, .int .i64 x.Rest.Low, .int .i64 x.Rest.High, .int .i64 x.Lift.Low, .int .i64 x.Lift.High]
def qC.dec (l : List AV) : qC := ⟨intA (gd l 0), intA (gd l 1), intA (gd l 2), intA (gd l 3), pU (gd l 4), pU (gd l 5), ⟨intA (gd l 6), intA (gd l 7)⟩, ⟨intA (gd l 8), intA (gd l 9)⟩⟩
structure qI where
  Places : (Sq qA)
  Roads : (Sq qC)
def qI.enc (x : qI) : List AV := [sqA 2 qA.enc x.Places, sqA 10 qC.enc x.Roads]
def qI.dec (l : List AV) : qI := ⟨sqD qA.dec (gd l 0), sqD qC.dec (gd l 1)⟩
structure qH where
  Flow : Int
  Pressure : Int
def qH.enc (x : qH) : List AV := [.int .i64 x.Flow, .int .i64 x.Pressure]
def qH.dec (l : List AV) : qH := ⟨intA (gd l 0), intA (gd l 1)⟩
structure SFan where
  Road : Int
  Back : Bool
  Auxiliary : Bool
  Curve : (Sq qH)
def SFan.enc (x : SFan) : List AV := [.int .i64 x.Road, .bool x.Back, .bool x.Auxiliary, sqA 2 qH.enc x.Curve]
def SFan.dec (l : List AV) : SFan := ⟨intA (gd l 0), pU (gd l 1), pU (gd l 2), sqD qH.dec (gd l 3)⟩
structure qD where
  Road : Int
  Other : Int
  Rests : (Sq Int)
def qD.enc (x : qD) : List AV := [.int .i64 x.Road, .int .i64 x.Other, sqA 1 (eI .i64) x.Rests]
def qD.dec (l : List AV) : qD := ⟨intA (gd l 0), intA (gd l 1), sqD dI (gd l 2)⟩
structure SAir where
  Mine : qI
  Fans : (Sq SFan)
  Doors : (Sq qD)
def SAir.enc (x : SAir) : List AV := [sqA 2 qA.enc x.Mine.Places, sqA 10 qC.enc x.Mine.Roads, sqA 4 SFan.enc x.Fans, sqA 3 qD.enc x.Doors]
def SAir.dec (l : List AV) : SAir := ⟨⟨sqD qA.dec (gd l 0), sqD qC.dec (gd l 1)⟩, sqD SFan.dec (gd l 2), sqD qD.dec (gd l 3)⟩
structure qz where
  Fans : (Sq Int)
  Doors : (Sq Int)
def qz.enc (x : qz) : List AV := [sqA 1 (eI .i64) x.Fans, sqA 1 (eI .i64) x.Doors]
def qz.dec (l : List AV) : qz := ⟨sqD dI (gd l 0), sqD dI (gd l 1)⟩
structure qM where
  air_ : SAir
  setting_ : qz
  pressures_ : (Sq Int)
  place_ : Int
def qM.enc (x : qM) : List AV := [sqA 2 qA.enc x.air_.Mine.Places, sqA 10 qC.enc x.air_.Mine.Roads, sqA 4 SFan.enc x.air_.Fans, sqA 3 qD.enc x.air_.Doors, sqA 1 (eI .i64) x.setting_.Fans, sqA 1 (eI .i64) x.setting_.Doors, sqA 1 (eI .i64) x.pressures_, .int .i64 x.place_]
def qM.dec (l : List AV) : qM := ⟨⟨⟨sqD qA.dec (gd l 0), sqD qC.dec (gd l 1)⟩, sqD SFan.dec (gd l 2), sqD qD.dec (gd l 3)⟩, ⟨sqD dI (gd l 4), sqD dI (gd l 5)⟩, sqD dI (gd l 6), intA (gd l 7)⟩
structure qK where
  Fan : SFan
  state_ : Int
def qK.enc (x : qK) : List AV := [.int .i64 x.Fan.Road, .bool x.Fan.Back, .bool x.Fan.Auxiliary, sqA 2 qH.enc x.Fan.Curve, .int .i64 x.state_]
def qK.dec (l : List AV) : qK := ⟨⟨intA (gd l 0), pU (gd l 1), pU (gd l 2), sqD qH.dec (gd l 3)⟩, intA (gd l 4)⟩
structure qN where
  Road : qC
  blowers_ : (Sq qK)
def qN.enc (x : qN) : List AV := [.int .i64 x.Road.From, .int .i64 x.Road.To, .int .i64 x.Road.Length, .int .i64 x.Road.Area, .bool x.Road.Walk, .bool x.Road.Closed, .int .i64 x.Road.Rest.Low, .int .i64 x.Road.Rest.High, .int .i64 x.Road.Lift.Low, .int .i64 x.Road.Lift.High, sqA 5 qK.enc x.blowers_]
def qN.dec (l : List AV) : qN := ⟨⟨intA (gd l 0), intA (gd l 1), intA (gd l 2), intA (gd l 3), pU (gd l 4), pU (gd l 5), ⟨intA (gd l 6), intA (gd l 7)⟩, ⟨intA (gd l 8), intA (gd l 9)⟩⟩, sqD qK.dec (gd l 10)⟩
structure qL where
  Low : (Sq Int)
  High : (Sq Int)
def qL.enc (x : qL) : List AV := [sqA 1 (eI .i64) x.Low, sqA 1 (eI .i64) x.High]
def qL.dec (l : List AV) : qL := ⟨sqD dI (gd l 0), sqD dI (gd l 1)⟩
structure sw where
  air_ : SAir
  setting_ : qz
  pressures_ : (Sq Int)
def sw.enc (x : sw) : List AV := [sqA 2 qA.enc x.air_.Mine.Places, sqA 10 qC.enc x.air_.Mine.Roads, sqA 4 SFan.enc x.air_.Fans, sqA 3 qD.enc x.air_.Doors, sqA 1 (eI .i64) x.setting_.Fans, sqA 1 (eI .i64) x.setting_.Doors, sqA 1 (eI .i64) x.pressures_]
def sw.dec (l : List AV) : sw := ⟨⟨⟨sqD qA.dec (gd l 0), sqD qC.dec (gd l 1)⟩, sqD SFan.dec (gd l 2), sqD qD.dec (gd l 3)⟩, ⟨sqD dI (gd l 4), sqD dI (gd l 5)⟩, sqD dI (gd l 6)⟩
structure qF where
  l_ : (Sq Int)
  at_ : Int
def qF.enc (x : qF) : List AV := [sqA 1 (eI .u8) x.l_, .int .i64 x.at_]
def qF.dec (l : List AV) : qF := ⟨sqD dI (gd l 0), intA (gd l 1)⟩
structure yV where
  Pressures : (Sq Int)
  Flows : (Sq Int)
def yV.enc (x : yV) : List AV := [sqA 1 (eI .i64) x.Pressures, sqA 1 (eI .i64) x.Flows]
def yV.dec (l : List AV) : yV := ⟨sqD dI (gd l 0), sqD dI (gd l 1)⟩
structure qG where
  Address : Int
  Kind : Int
  Target : Int
  Offset : Int
  Scale : Int
  Error : Int
  Drift : Int
  Life : Int
def qG.enc (x : qG) : List AV := [.int .i64 x.Address, .int .i64 x.Kind, .int .i64 x.Target, .int .i64 x.Offset, .int .i64 x.Scale, .int .i64 x.Error, .int .i64 x.Drift, .int .i64 x.Life]
def qG.dec (l : List AV) : qG := ⟨intA (gd l 0), intA (gd l 1), intA (gd l 2), intA (gd l 3), intA (gd l 4), intA (gd l 5), intA (gd l 6), intA (gd l 7)⟩
structure qE where
  Sensor : Int
  Time : Int
  Span : qB
def qE.enc (x : qE) : List AV := [.int .i64 x.Sensor, .int .i64 x.Time, .int .i64 x.Span.Low, .int .i64 x.Span.High]
def qE.dec (l : List AV) : qE := ⟨intA (gd l 0), intA (gd l 1), ⟨intA (gd l 2), intA (gd l 3)⟩⟩
structure rW where
  Road : Int
  Need : Int
def rW.enc (x : rW) : List AV := [.int .i64 x.Road, .int .i64 x.Need]
def rW.dec (l : List AV) : rW := ⟨intA (gd l 0), intA (gd l 1)⟩
def Lb (u5_0 : Sq Int) (u5_1 u5_2 : Int) : DT (LR (Int × Int) (Int) (Unit)) :=
 .ite (decide (u5_2 < ((u5_0.n : Nat) : Int))) (
 .ite (decide ((0 : Int) ≤ u5_2 ∧ u5_2 < ((u5_0.n : Nat) : Int))) (
 .leaf (.next ((if (u5_0.f (Int.toNat u5_2)) < u5_1 then (u5_0.f (Int.toNat u5_2)) else u5_1), (wr (u5_2 + (1 : Int)))))) (
 .fail)) (
 .leaf (.l u5_1))
def Dc : LpM := ⟨(Sq Int), Int × Int, Int, Unit, fun p => ⟨[(0, sqA 1 (eI .i64) p.1), (3, .int .i64 p.2.1), (4, .int .i64 p.2.2)], [], 704⟩, fun f v => Lb f v.1 v.2, true, (.exit 0), (fun _ a => ⟨[(3, .int .i64 a)], [], 704⟩), .ret, (fun _ _ => ⟨[], [], 0⟩), c1, c1k⟩
def XK (u5_0 : Sq Int) (u5_1 u5_2 : Int) : Option ((Int) ⊕ (Unit)) := Dc.val (u5_0, (u5_1, u5_2))
theorem agJ (u5_0 : Sq Int) (u5_1 u5_2 : Int) : XK u5_0 u5_1 u5_2 = fixO (fun v : Int × Int => Lb u5_0 v.1 v.2) (u5_1, u5_2) := Dc.val_eq (fun x => (sqD dI (aget x.tm 0), (intA (aget x.tm 3), intA (aget x.tm 4)))) (fun p => by kernel_rfl) (u5_0, (u5_1, u5_2))
def ZE (x : Sq Int) : DT (Int) :=
 .ite (decide (((x.n : Nat) : Int) < (1 : Int))) (
 .fail) (
 .ite (decide ((0 : Int) ≤ (0 : Int) ∧ (0 : Int) < ((x.n : Nat) : Int))) (
 .sum (XK x (x.f 0) (1 : Int)) (fun y0 =>
 .leaf y0) (fun _ => .fail)) (
 .fail))
def Df : FnM := flM ((Sq Int)) (Int) (fun p => ([sqA 1 (eI .i64) p], [])) (fun p => ZE p) (fun r => .int .i64 r) (fun _ => rfl)
def UC : Env := envM [] [(5, [0, 3, 4], [3])] [(5, Dc.c)] [] [(5, [])] 0
def aeb : Env := { UC with nt := 25 }
theorem VE : aQ aeb (qd 5 Tryz.f188) Dc.c := Dc.tells 704 (fun _ => by kernel_rfl) (fun _ _ _ _ => by kernel_rfl) (fun _ _ _ _ => by kernel_rfl) fun R f v N K => by kernel_rfl
theorem aak : aI Tryz.prog 188 Df.c := Df.tells Tryz.func188 (show ∀ p, arun UC Tryz.f188 (Df.enc p).1 (Df.enc p).2 = _ from fun p => by kernel_rfl) (qg [qd 5 Tryz.f188] (by kernel_rfl) ⟨lpT (by kernel_rfl) VE, trivial⟩) .nil
def acV (x : Sq Int) : Option (Int) := Df.val x
theorem aiq (x : Sq Int) : acV x = (ZE x).get := Df.val_eq (fun x => sqD dI (gd x.1 0)) (fun p => by kernel_rfl) x
def La (u5_0 : Sq Int) (u5_1 u5_2 : Int) : DT (LR (Int × Int) (Int) (Unit)) :=
 .ite (decide (u5_2 < ((u5_0.n : Nat) : Int))) (
 .ite (decide ((0 : Int) ≤ u5_2 ∧ u5_2 < ((u5_0.n : Nat) : Int))) (
 .leaf (.next ((if u5_1 < (u5_0.f (Int.toNat u5_2)) then (u5_0.f (Int.toNat u5_2)) else u5_1), (wr (u5_2 + (1 : Int)))))) (
 .fail)) (
 .leaf (.l u5_1))
def Da : LpM := ⟨(Sq Int), Int × Int, Int, Unit, fun p => ⟨[(0, sqA 1 (eI .i64) p.1), (3, .int .i64 p.2.1), (4, .int .i64 p.2.2)], [], 704⟩, fun f v => La f v.1 v.2, true, (.exit 0), (fun _ a => ⟨[(3, .int .i64 a)], [], 704⟩), .ret, (fun _ _ => ⟨[], [], 0⟩), c1, c1k⟩
def XJ (u5_0 : Sq Int) (u5_1 u5_2 : Int) : Option ((Int) ⊕ (Unit)) := Da.val (u5_0, (u5_1, u5_2))
theorem agI (u5_0 : Sq Int) (u5_1 u5_2 : Int) : XJ u5_0 u5_1 u5_2 = fixO (fun v : Int × Int => La u5_0 v.1 v.2) (u5_1, u5_2) := Da.val_eq (fun x => (sqD dI (aget x.tm 0), (intA (aget x.tm 3), intA (aget x.tm 4)))) (fun p => by kernel_rfl) (u5_0, (u5_1, u5_2))
def ZB (x : Sq Int) : DT (Int) :=
 .ite (decide (((x.n : Nat) : Int) < (1 : Int))) (
 .fail) (
 .ite (decide ((0 : Int) ≤ (0 : Int) ∧ (0 : Int) < ((x.n : Nat) : Int))) (
 .sum (XJ x (x.f 0) (1 : Int)) (fun y0 =>
 .leaf y0) (fun _ => .fail)) (
 .fail))
def Db : FnM := flM ((Sq Int)) (Int) (fun p => ([sqA 1 (eI .i64) p], [])) (fun p => ZB p) (fun r => .int .i64 r) (fun _ => rfl)
def UA : Env := envM [] [(5, [0, 3, 4], [3])] [(5, Da.c)] [] [(5, [])] 0
def aea : Env := { UA with nt := 25 }
theorem VD : aQ aea (qd 5 Tryz.f189) Da.c := Da.tells 704 (fun _ => by kernel_rfl) (fun _ _ _ _ => by kernel_rfl) (fun _ _ _ _ => by kernel_rfl) fun R f v N K => by kernel_rfl
theorem aaj : aI Tryz.prog 189 Db.c := Db.tells Tryz.func189 (show ∀ p, arun UA Tryz.f189 (Db.enc p).1 (Db.enc p).2 = _ from fun p => by kernel_rfl) (qg [qd 5 Tryz.f189] (by kernel_rfl) ⟨lpT (by kernel_rfl) VD, trivial⟩) .nil
def acU (x : Sq Int) : Option (Int) := Db.val x
theorem aip (x : Sq Int) : acU x = (ZB x).get := Db.val_eq (fun x => sqD dI (gd x.1 0)) (fun p => by kernel_rfl) x
def KV (_u7_0 _u7_1 : Int) (u7_2 : Sq Int) (u7_3 u7_4 u7_5 : Int) : DT (LR (Int × Int × Int) (Int × Int) (Unit)) :=
 .ite (decide (u7_4 < ((u7_2.n : Nat) : Int))) (
 .ite (decide ((0 : Int) ≤ u7_4 ∧ u7_4 < ((u7_2.n : Nat) : Int))) (
 .ite (decide ((0 : Int) ≤ u7_4 ∧ u7_4 < ((u7_2.n : Nat) : Int))) (
 .leaf (.next ((if (u7_2.f (Int.toNat u7_4)) < u7_3 then (u7_2.f (Int.toNat u7_4)) else u7_3), (wr (u7_4 + (1 : Int))), (if u7_5 < (u7_2.f (Int.toNat u7_4)) then (u7_2.f (Int.toNat u7_4)) else u7_5)))) (
 .fail)) (
 .fail)) (
 .leaf (.l (u7_3, u7_5)))
def CO : LpM := ⟨Int × Int × (Sq Int), Int × Int × Int, Int × Int, Unit, fun p => ⟨[(2, .ptr 0 0), (4, .ptr 64 0), (5, .ptr 2688 0), (6, .int .i64 p.2.2.1)], [(0, .var [.int .i64 p.1.1, .int .i64 p.1.2.1, sqA 1 (eI .i64) p.1.2.2]), (64, .var [.int .i64 (0 : Int), .int .i64 (0 : Int)]), (2688, .var [.int .i64 p.2.1, .int .i64 p.2.2.2])], 2880⟩, fun f v => KV f.1 f.2.1 f.2.2 v.1 v.2.1 v.2.2, true, (.exit 0), (fun x a => ⟨[(4, .ptr 64 0), (5, .ptr 2688 0)], [(0, blkS x 0), (64, .var [.int .i64 (0 : Int), .int .i64 (0 : Int)]), (2688, .var [.int .i64 a.1, .int .i64 a.2])], 2880⟩), .ret, (fun _ _ => ⟨[], [], 0⟩), c1, c1k⟩
def Xi (u7_0 u7_1 : Int) (u7_2 : Sq Int) (u7_3 u7_4 u7_5 : Int) : Option ((Int × Int) ⊕ (Unit)) := CO.val ((u7_0, u7_1, u7_2), (u7_3, u7_4, u7_5))
theorem agA (u7_0 u7_1 : Int) (u7_2 : Sq Int) (u7_3 u7_4 u7_5 : Int) : Xi u7_0 u7_1 u7_2 u7_3 u7_4 u7_5 = fixO (fun v : Int × Int × Int => KV u7_0 u7_1 u7_2 v.1 v.2.1 v.2.2) (u7_3, u7_4, u7_5) := CO.val_eq (fun x => ((intA (cellS x 0 0), intA (cellS x 0 1), sqD dI (cellS x 0 2)), (intA (cellS x 2688 0), intA (aget x.tm 6), intA (cellS x 2688 1)))) (fun p => by kernel_rfl) ((u7_0, u7_1, u7_2), (u7_3, u7_4, u7_5))
def Zl (d : qD) (state : Int) : DT (qB) :=
 .ite (((d.Rests.n : Nat) : Int) == (0 : Int)) (
 .leaf (qB.mk (0 : Int) (0 : Int))) (
 .ite (decide (state < (-1 : Int))) (
 .leaf (qB.mk (0 : Int) (0 : Int))) (
 .ite (decide (state ≥ ((d.Rests.n : Nat) : Int))) (
 .leaf (qB.mk (0 : Int) (0 : Int))) (
 .ite (decide (state ≥ (0 : Int))) (
 .ite (decide ((0 : Int) ≤ state ∧ state < ((d.Rests.n : Nat) : Int))) (
 .ite (decide ((0 : Int) ≤ state ∧ state < ((d.Rests.n : Nat) : Int))) (.leaf (qB.mk (d.Rests.f (Int.toNat state)) (d.Rests.f (Int.toNat state)))) (.fail)) (
 .fail)) (
 .ite (decide ((0 : Int) ≤ (0 : Int) ∧ (0 : Int) < ((d.Rests.n : Nat) : Int))) (
 .ite (decide ((0 : Int) ≤ (0 : Int) ∧ (0 : Int) < ((d.Rests.n : Nat) : Int))) (
 .sum (Xi d.Road d.Other d.Rests (d.Rests.f 0) (0 : Int) (d.Rests.f 0)) (fun y0 =>
 .leaf (qB.mk y0.1 y0.2)) (fun _ => .fail)) (
 .fail)) (
 .fail)))))
def zS : FnM := flM (qD × Int) (qB) (fun p => ([.agg (qD.enc p.1), .int .i64 p.2], [])) (fun p => Zl p.1 p.2) (fun r => .agg (qB.enc r)) (fun _ => rfl)
def Ud : Env := envM [] [(7, [2, 4, 5, 6], [4, 5])] [(7, CO.c)] [] [(7, [0, 64, 2688])] 0
def ad7 : Env := { Ud with nt := 71 }
theorem Vr : aQ ad7 (qd 7 Tryz.f62) CO.c := CO.tells 2880 (fun _ => by kernel_rfl) (fun _ _ _ _ => by kernel_rfl) (fun _ _ _ _ => by kernel_rfl) fun R f v N K => by kernel_rfl
theorem OC : aI Tryz.prog 62 zS.c := zS.tells Tryz.func62 (show ∀ p, arun Ud Tryz.f62 (zS.enc p).1 (zS.enc p).2 = _ from fun p => by kernel_rfl) (qg [qd 7 Tryz.f62] (by kernel_rfl) ⟨lpT (by kernel_rfl) Vr, trivial⟩) .nil
def Yy (d : qD) (state : Int) : Option (qB) := zS.val (d, state)
theorem aic (d : qD) (state : Int) : Yy d state = (Zl d state).get := zS.val_eq (fun x => (qD.dec (aggL (gd x.1 0)), intA (gd x.1 1))) (fun p => by kernel_rfl) (d, state)
def Xa (a b : Int) : DT (Int) :=
 .ite (b != 0) (
 .ite (b != 0) (
 .ite (decide ((Int.tmod a b) < (0 : Int))) (.leaf (wr ((wr (Int.tdiv a b)) - (1 : Int)))) (.leaf (wr (Int.tdiv a b)))) (
 .fail)) (
 .fail)
def yB : FnM := flM (Int × Int) (Int) (fun p => ([.int .i64 p.1, .int .i64 p.2], [])) (fun p => Xa p.1 p.2) (fun r => .int .i64 r) (fun _ => rfl)
def aa9 : Env := envM [] [] [] [] [] 0
theorem Mx : aI Tryz.prog 132 yB.c := yB.tells Tryz.func132 (show ∀ p, arun aa9 Tryz.f132 (yB.enc p).1 (yB.enc p).2 = _ from fun p => by kernel_rfl) p8 .nil
def Vn (a b : Int) : Option (Int) := yB.val (a, b)
theorem ahw (a b : Int) : Vn a b = (Xa a b).get := yB.val_eq (fun x => (intA (gd x.1 0), intA (gd x.1 1))) (fun p => by kernel_rfl) (a, b)
def Zj (a b : Int) : DT (Int) :=
 .bind (Vn (wr (0 - a)) b) fun z0 =>
 .leaf (wr (0 - z0))
def zQ : FnM := flM (Int × Int) (Int) (fun p => ([.int .i64 p.1, .int .i64 p.2], [])) (fun p => Zj p.1 p.2) (fun r => .int .i64 r) (fun _ => rfl)
def ab5 : Env := envM [(132, yB.c)] [] [] [] [] 0
theorem OA : aI Tryz.prog 91 zQ.c := zQ.tells Tryz.func91 (show ∀ p, arun ab5 Tryz.f91 (zQ.enc p).1 (zQ.enc p).2 = _ from fun p => by kernel_rfl) p8 (.cons Mx .nil)
def Yn (a b : Int) : Option (Int) := zQ.val (a, b)
theorem aia (a b : Int) : Yn a b = (Zj a b).get := zQ.val_eq (fun x => (intA (gd x.1 0), intA (gd x.1 1))) (fun p => by kernel_rfl) (a, b)
def JI (u7_0 _u7_1 : Int) (_u7_2 _u7_3 : Bool) (u7_4 : Sq qH) (u7_5 : Int) : DT (LR (Int) (Int) (Unit)) :=
 .ite (decide ((0 : Int) ≤ (wr (u7_5 + (1 : Int))) ∧ (wr (u7_5 + (1 : Int))) < ((u7_4.n : Nat) : Int))) (
 .ite (decide ((u7_4.f (Int.toNat (wr (u7_5 + (1 : Int))))).Flow ≤ u7_0)) (
 .leaf (.next (wr (u7_5 + (1 : Int))))) (
 .leaf (.l u7_5))) (
 .fail)
def Bj : LpM := ⟨Int × Int × Bool × Bool × (Sq qH), Int, Int, Unit, fun p => ⟨[(1, .int .i64 p.1.1), (2, .ptr 0 0), (4, .ptr 64 0), (6, .int .i64 p.2)], [(0, .var [.int .i64 p.1.2.1, .bool p.1.2.2.1, .bool p.1.2.2.2.1, sqA 2 qH.enc p.1.2.2.2.2]), (64, .var [.int .i64 (0 : Int), .int .i64 (0 : Int)])], 3264⟩, fun f v => JI f.1 f.2.1 f.2.2.1 f.2.2.2.1 f.2.2.2.2 v, true, (.exit 0), (fun x a => ⟨[(1, aget x.tm 1), (2, .ptr 0 0), (4, .ptr 64 0), (6, .int .i64 a)], [(0, blkS x 0), (64, .var [.int .i64 (0 : Int), .int .i64 (0 : Int)])], 3264⟩), .ret, (fun _ _ => ⟨[], [], 0⟩), c1, c1k⟩
def Ub (u7_0 u7_1 : Int) (u7_2 u7_3 : Bool) (u7_4 : Sq qH) (u7_5 : Int) : Option ((Int) ⊕ (Unit)) := Bj.val ((u7_0, u7_1, u7_2, u7_3, u7_4), u7_5)
theorem afK (u7_0 u7_1 : Int) (u7_2 u7_3 : Bool) (u7_4 : Sq qH) (u7_5 : Int) : Ub u7_0 u7_1 u7_2 u7_3 u7_4 u7_5 = fixO (fun v : Int => JI u7_0 u7_1 u7_2 u7_3 u7_4 v) u7_5 := Bj.val_eq (fun x => ((intA (aget x.tm 1), intA (cellS x 0 0), pU (cellS x 0 1), pU (cellS x 0 2), sqD qH.dec (cellS x 0 3)), intA (aget x.tm 6))) (fun p => by kernel_rfl) ((u7_0, u7_1, u7_2, u7_3, u7_4), u7_5)
def Xf (f : SFan) (flow : Int) : DT (qB) :=
 .ite (decide ((0 : Int) ≤ (0 : Int) ∧ (0 : Int) < ((f.Curve.n : Nat) : Int))) (
 .ite (decide (flow ≤ (f.Curve.f 0).Flow)) (
 .ite (decide ((0 : Int) ≤ (0 : Int) ∧ (0 : Int) < ((f.Curve.n : Nat) : Int))) (
 .ite (decide ((0 : Int) ≤ (0 : Int) ∧ (0 : Int) < ((f.Curve.n : Nat) : Int))) (.leaf (qB.mk (f.Curve.f 0).Pressure (f.Curve.f 0).Pressure)) (.fail)) (
 .fail)) (
 .ite (decide ((0 : Int) ≤ (wr (((f.Curve.n : Nat) : Int) - (1 : Int))) ∧ (wr (((f.Curve.n : Nat) : Int) - (1 : Int))) < ((f.Curve.n : Nat) : Int))) (
 .ite (decide (flow ≥ (f.Curve.f (Int.toNat (wr (((f.Curve.n : Nat) : Int) - (1 : Int))))).Flow)) (
 .ite (decide ((0 : Int) ≤ (wr (((f.Curve.n : Nat) : Int) - (1 : Int))) ∧ (wr (((f.Curve.n : Nat) : Int) - (1 : Int))) < ((f.Curve.n : Nat) : Int))) (
 .ite (decide ((0 : Int) ≤ (wr (((f.Curve.n : Nat) : Int) - (1 : Int))) ∧ (wr (((f.Curve.n : Nat) : Int) - (1 : Int))) < ((f.Curve.n : Nat) : Int))) (.leaf (qB.mk (f.Curve.f (Int.toNat (wr (((f.Curve.n : Nat) : Int) - (1 : Int))))).Pressure (f.Curve.f (Int.toNat (wr (((f.Curve.n : Nat) : Int) - (1 : Int))))).Pressure)) (.fail)) (
 .fail)) (
 .sum (Ub flow f.Road f.Back f.Auxiliary f.Curve (0 : Int)) (fun y0 =>
 .ite (decide ((0 : Int) ≤ y0 ∧ y0 < ((f.Curve.n : Nat) : Int))) (
 .ite (decide ((0 : Int) ≤ (wr (y0 + (1 : Int))) ∧ (wr (y0 + (1 : Int))) < ((f.Curve.n : Nat) : Int))) (
 .bind (Vn (wr ((wr ((f.Curve.f (Int.toNat (wr (y0 + (1 : Int))))).Pressure - (f.Curve.f (Int.toNat y0)).Pressure)) * (wr (flow - (f.Curve.f (Int.toNat y0)).Flow)))) (wr ((f.Curve.f (Int.toNat (wr (y0 + (1 : Int))))).Flow - (f.Curve.f (Int.toNat y0)).Flow))) fun z0 =>
 .bind (Yn (wr ((wr ((f.Curve.f (Int.toNat (wr (y0 + (1 : Int))))).Pressure - (f.Curve.f (Int.toNat y0)).Pressure)) * (wr (flow - (f.Curve.f (Int.toNat y0)).Flow)))) (wr ((f.Curve.f (Int.toNat (wr (y0 + (1 : Int))))).Flow - (f.Curve.f (Int.toNat y0)).Flow))) fun z1 =>
 .leaf (qB.mk (wr ((f.Curve.f (Int.toNat y0)).Pressure + z0)) (wr ((f.Curve.f (Int.toNat y0)).Pressure + z1)))) (
 .fail)) (
 .fail)) (fun _ => .fail))) (
 .fail))) (
 .fail)
def Ap : FnM := flM (SFan × Int) (qB) (fun p => ([.agg (SFan.enc p.1), .int .i64 p.2], [])) (fun p => Xf p.1 p.2) (fun r => .agg (qB.enc r)) (fun _ => rfl)
def QB : Env := envM [(132, yB.c), (91, zQ.c)] [(7, [1, 2, 4, 6], [1, 2, 4, 6])] [(7, Bj.c)] [] [(7, [0, 64])] 0
def adi : Env := { QB with nt := 106 }
theorem Sc : aQ adi (qd 7 Tryz.f133) Bj.c := Bj.tells 3264 (fun _ => by kernel_rfl) (fun _ _ _ _ => by kernel_rfl) (fun _ _ _ _ => by kernel_rfl) fun R f v N K => by kernel_rfl
theorem Yw : aI Tryz.prog 133 Ap.c := Ap.tells Tryz.func133 (show ∀ p, arun QB Tryz.f133 (Ap.enc p).1 (Ap.enc p).2 = _ from fun p => by kernel_rfl) (qg [qd 7 Tryz.f133] (by kernel_rfl) ⟨lpT (by kernel_rfl) Sc, trivial⟩) (.cons Mx (.cons OA .nil))
def Vp (f : SFan) (flow : Int) : Option (qB) := Ap.val (f, flow)
theorem ahA (f : SFan) (flow : Int) : Vp f flow = (Xf f flow).get := Ap.val_eq (fun x => (SFan.dec (aggL (gd x.1 0)), intA (gd x.1 1))) (fun p => by kernel_rfl) (f, flow)
def Xd (f : SFan) (back : Bool) (flow : Int) : DT (qB) :=
 .ite back (
 .bind (Vp f (wr (0 - flow))) fun z0 =>
 .leaf (qB.mk (wr (0 - z0.High)) (wr (0 - z0.Low)))) (
 .bind (Vp f flow) fun z1 =>
 .leaf z1)
def Am : FnM := flM (SFan × Bool × Int) (qB) (fun p => ([.agg (SFan.enc p.1), .bool p.2.1, .int .i64 p.2.2], [])) (fun p => Xd p.1 p.2.1 p.2.2) (fun r => .agg (qB.enc r)) (fun _ => rfl)
def abe : Env := envM [(133, Ap.c)] [] [] [] [] 0
theorem Yu : aI Tryz.prog 95 Am.c := Am.tells Tryz.func95 (show ∀ p, arun abe Tryz.f95 (Am.enc p).1 (Am.enc p).2 = _ from fun p => by kernel_rfl) p8 (.cons Yw .nil)
def JG (f : SFan) (back : Bool) (flow : Int) : Option (qB) := Am.val (f, back, flow)
theorem ahy (f : SFan) (back : Bool) (flow : Int) : JG f back flow = (Xd f back flow).get := Am.val_eq (fun x => (SFan.dec (aggL (gd x.1 0)), pU (gd x.1 1), intA (gd x.1 2))) (fun p => by kernel_rfl) (f, back, flow)
def Xg (f : SFan) (state flow : Int) : DT (qB) :=
 .ite (state == (0 : Int)) (
 .leaf (qB.mk (0 : Int) (0 : Int))) (
 .ite (state == (1 : Int)) (
 .bind (JG f f.Back flow) fun z0 =>
 .leaf z0) (
 .ite (state == (2 : Int)) (
 .bind (JG f (!f.Back) flow) fun z1 =>
 .leaf z1) (
 .bind (JG f false flow) fun z2 =>
 .bind (JG f true flow) fun z3 =>
 .leaf (qB.mk (if (0 : Int) < (if z3.Low < z2.Low then z3.Low else z2.Low) then (0 : Int) else (if z3.Low < z2.Low then z3.Low else z2.Low)) (if (if z2.High < z3.High then z3.High else z2.High) < (0 : Int) then (0 : Int) else (if z2.High < z3.High then z3.High else z2.High))))))
def yC : FnM := flM (SFan × Int × Int) (qB) (fun p => ([.agg (SFan.enc p.1), .int .i64 p.2.1, .int .i64 p.2.2], [])) (fun p => Xg p.1 p.2.1 p.2.2) (fun r => .agg (qB.enc r)) (fun _ => rfl)
def abg : Env := envM [(95, Am.c)] [] [] [] [] 0
theorem MC : aI Tryz.prog 63 yC.c := yC.tells Tryz.func63 (show ∀ p, arun abg Tryz.f63 (yC.enc p).1 (yC.enc p).2 = _ from fun p => by kernel_rfl) p8 (.cons Yu .nil)
def Vq (f : SFan) (state flow : Int) : Option (qB) := yC.val (f, state, flow)
theorem ahB (f : SFan) (state flow : Int) : Vq f state flow = (Xg f state flow).get := yC.val_eq (fun x => (SFan.dec (aggL (gd x.1 0)), intA (gd x.1 1), intA (gd x.1 2))) (fun p => by kernel_rfl) (f, state, flow)
def YP (c : qF) (n : Int) : DT (Int × Int) :=
 .ite (decide (n < (1 : Int))) (
 .leaf ((0 : Int), c.at_)) (
 .ite (decide (c.at_ ≥ ((c.l_.n : Nat) : Int))) (
 .leaf ((0 : Int), c.at_)) (
 .ite (decide ((0 : Int) ≤ (wr ((wr (c.at_ + (1 : Int))) - (1 : Int))) ∧ (wr ((wr (c.at_ + (1 : Int))) - (1 : Int))) < ((c.l_.n : Nat) : Int))) (
 .ite (decide (n > (256 : Int))) (
 .ite (decide ((wr (c.at_ + (1 : Int))) < ((c.l_.n : Nat) : Int))) (
 .ite (decide ((0 : Int) ≤ (wr (c.at_ + (1 : Int))) ∧ (wr (c.at_ + (1 : Int))) < ((c.l_.n : Nat) : Int))) (
 .ite (n != 0) (.leaf ((Int.tmod (wr ((wr ((wr (c.l_.f (Int.toNat (wr ((wr (c.at_ + (1 : Int))) - (1 : Int)))))) * (256 : Int))) + (wr (c.l_.f (Int.toNat (wr (c.at_ + (1 : Int)))))))) n), (wr ((wr (c.at_ + (1 : Int))) + (1 : Int))))) (.fail)) (
 .fail)) (
 .ite (n != 0) (.leaf ((Int.tmod (wr (c.l_.f (Int.toNat (wr ((wr (c.at_ + (1 : Int))) - (1 : Int)))))) n), (wr (c.at_ + (1 : Int))))) (.fail))) (
 .ite (n != 0) (.leaf ((Int.tmod (wr (c.l_.f (Int.toNat (wr ((wr (c.at_ + (1 : Int))) - (1 : Int)))))) n), (wr (c.at_ + (1 : Int))))) (.fail))) (
 .fail)))
def qX : FnM := nfM (qF × Int) (Int × Int) (fun p => ([.ptr 0 0, .int .i64 p.2], [.var (qF.enc p.1)])) (fun p => YP p.1 p.2) (fun r => .int .i64 r.1) (fun ins r => [.var [ql ins 0 0, .int .i64 r.2]])
def abO : Env := envM [] [] [] [] [] 1
theorem qW : aI Tryz.prog 28 qX.c := qX.tells Tryz.func28 (show ∀ p, arun abO Tryz.f28 (qX.enc p).1 (qX.enc p).2 = _ from fun p => by kernel_rfl) p8 .nil
def qJ (c : qF) (n : Int) : Option (Int × Int) := qX.val (c, n)
theorem ahV (c : qF) (n : Int) : qJ c n = (YP c n).get := qX.val_eq (fun x => (qF.dec (varL (dB x.2 0)), intA (gd x.1 1))) (fun p => by kernel_rfl) (c, n)
def aas (c : qF) (n : Int) : DT (Bool × Int) :=
 .bind (qJ c n) fun z0 =>
 .leaf ((z0.1 == (wr (n - (1 : Int)))), z0.2)
def yK : FnM := nfM (qF × Int) (Bool × Int) (fun p => ([.ptr 0 0, .int .i64 p.2], [.var (qF.enc p.1)])) (fun p => aas p.1 p.2) (fun r => .bool r.1) (fun ins r => [.var [ql ins 0 0, .int .i64 r.2]])
def acZ : Env := envM [(28, qX.c)] [] [] [] [] 1
theorem EO : aI Tryz.prog 31 yK.c := yK.tells Tryz.func31 (show ∀ p, arun acZ Tryz.f31 (yK.enc p).1 (yK.enc p).2 = _ from fun p => by kernel_rfl) p8 (.cons qW .nil)
def ze (c : qF) (n : Int) : Option (Bool × Int) := yK.val (c, n)
theorem air (c : qF) (n : Int) : ze c n = (aas c n).get := yK.val_eq (fun x => (qF.dec (varL (dB x.2 0)), intA (gd x.1 1))) (fun p => by kernel_rfl) (c, n)
def VI (c : qF) (low high : Int) : DT (Int × Int) :=
 .bind (qJ c (wr ((wr (high - low)) + (1 : Int)))) fun z0 =>
 .leaf ((wr (low + z0.1)), z0.2)
def tq : FnM := nfM (qF × Int × Int) (Int × Int) (fun p => ([.ptr 0 0, .int .i64 p.2.1, .int .i64 p.2.2], [.var (qF.enc p.1)])) (fun p => VI p.1 p.2.1 p.2.2) (fun r => .int .i64 r.1) (fun ins r => [.var [ql ins 0 0, .int .i64 r.2]])
def aat : Env := envM [(28, qX.c)] [] [] [] [] 1
theorem uW : aI Tryz.prog 32 tq.c := tq.tells Tryz.func32 (show ∀ p, arun aat Tryz.f32 (tq.enc p).1 (tq.enc p).2 = _ from fun p => by kernel_rfl) p8 (.cons qW .nil)
def qQ (c : qF) (low high : Int) : Option (Int × Int) := tq.val (c, low, high)
theorem ahe (c : qF) (low high : Int) : qQ c low high = (VI c low high).get := tq.val_eq (fun x => (qF.dec (varL (dB x.2 0)), intA (gd x.1 1), intA (gd x.1 2))) (fun p => by kernel_rfl) (c, low, high)
def YQ (c : qF) (from_ to_ : Int) : DT (qC × Int) :=
 .bind (qQ c (1 : Int) (400 : Int)) fun z0 =>
 .bind (qQ (qF.mk c.l_ z0.2) (4 : Int) (30 : Int)) fun z1 =>
 .bind (qJ (qF.mk c.l_ z1.2) (4 : Int)) fun z2 =>
 .bind (qQ (qF.mk c.l_ z2.2) (1 : Int) (20 : Int)) fun z3 =>
 .bind (qJ (qF.mk c.l_ z3.2) (3 : Int)) fun z4 =>
 .bind (qQ (qF.mk c.l_ z4.2) (-300 : Int) (300 : Int)) fun z5 =>
 .bind (qJ (qF.mk c.l_ z5.2) (20 : Int)) fun z6 =>
 .leaf ((qC.mk from_ to_ z0.1 z1.1 (decide (z2.1 > (0 : Int))) false (qB.mk z3.1 (wr (z3.1 + z4.1))) (qB.mk z5.1 (wr (z5.1 + z6.1)))), z6.2)
def Ca : FnM := nfM (qF × Int × Int) (qC × Int) (fun p => ([.ptr 0 0, .int .i64 p.2.1, .int .i64 p.2.2], [.var (qF.enc p.1)])) (fun p => YQ p.1 p.2.1 p.2.2) (fun r => .agg (qC.enc r.1)) (fun ins r => [.var [ql ins 0 0, .int .i64 r.2]])
def abP : Env := envM [(32, tq.c), (28, qX.c)] [] [] [] [] 1
theorem ZI : aI Tryz.prog 33 Ca.c := Ca.tells Tryz.func33 (show ∀ p, arun abP Tryz.f33 (Ca.enc p).1 (Ca.enc p).2 = _ from fun p => by kernel_rfl) p8 (.cons uW (.cons qW .nil))
def XV (c : qF) (from_ to_ : Int) : Option (qC × Int) := Ca.val (c, from_, to_)
theorem ahW (c : qF) (from_ to_ : Int) : XV c from_ to_ = (YQ c from_ to_).get := Ca.val_eq (fun x => (qF.dec (varL (dB x.2 0)), intA (gd x.1 1), intA (gd x.1 2))) (fun p => by kernel_rfl) (c, from_, to_)
def I4 (u3_1 : Sq Int) (u3_0 u3_2 : Int) (u3_3 : Sq qH) : DT (LR (Int × Int × (Sq qH)) (Int × (Sq qH)) (Unit)) :=
 .ite (decide (u3_0 > (0 : Int))) (
 .ite (decide ((0 : Int) ≤ (wr (((u3_3.n : Nat) : Int) - (1 : Int))) ∧ (wr (((u3_3.n : Nat) : Int) - (1 : Int))) < ((u3_3.n : Nat) : Int))) (
 .bind (qQ (qF.mk u3_1 u3_2) (1 : Int) (40 : Int)) fun z0 =>
 .bind (qJ (qF.mk u3_1 z0.2) (900 : Int)) fun z1 =>
 .ite (decide ((u3_3.n + 1) * 16 ≤ 140737488355328 ∧ (u3_3.n + 1) ≤ 1099511627776)) (
 .leaf (.next ((wr (u3_0 - (1 : Int))), z1.2, (Sq.mk (u3_3.n + 1) (fun k0 => (qH.mk (cond (Nat.blt k0 u3_3.n) (u3_3.f k0).Flow (wr ((u3_3.f (Int.toNat (wr (((u3_3.n : Nat) : Int) - (1 : Int))))).Flow + z0.1))) (cond (Nat.blt k0 u3_3.n) (u3_3.f k0).Pressure (if (0 : Int) < (wr ((u3_3.f (Int.toNat (wr (((u3_3.n : Nat) : Int) - (1 : Int))))).Pressure - z1.1)) then (wr ((u3_3.f (Int.toNat (wr (((u3_3.n : Nat) : Int) - (1 : Int))))).Pressure - z1.1)) else (0 : Int))))))))) (
 .fail)) (
 .fail)) (
 .leaf (.l (u3_2, u3_3)))
def AO : LpM := ⟨(Sq Int), Int × Int × (Sq qH), Int × (Sq qH), Unit, fun p => ⟨[(0, .ptr 0 0), (3, .own 385 0), (4, .int .i64 p.2.1)], [(0, .var [sqA 1 (eI .u8) p.1, .int .i64 p.2.2.1]), (385, rowA 0 2 140 qH.enc p.2.2.2)], 705⟩, fun f v => I4 f v.1 v.2.1 v.2.2, true, (.exit 0), (fun x a => ⟨[(3, .own 385 0)], [(0, .var [cellS x 0 0, .int .i64 a.1]), (385, rowA 0 2 140 qH.enc a.2)], 705⟩), .ret, (fun _ _ => ⟨[], [], 0⟩), c1, c1k⟩
def SV (u3_1 : Sq Int) (u3_0 u3_2 : Int) (u3_3 : Sq qH) : Option ((Int × (Sq qH)) ⊕ (Unit)) := AO.val (u3_1, (u3_0, u3_2, u3_3))
theorem afl (u3_1 : Sq Int) (u3_0 u3_2 : Int) (u3_3 : Sq qH) : SV u3_1 u3_0 u3_2 u3_3 = fixO (fun v : Int × Int × (Sq qH) => I4 u3_1 v.1 v.2.1 v.2.2) (u3_0, u3_2, u3_3) := AO.val_eq (fun x => (sqD dI (cellS x 0 0), (intA (aget x.tm 4), intA (cellS x 0 1), sqB qH.dec (blkS x 385)))) (fun p => by kernel_rfl) (u3_1, (u3_0, u3_2, u3_3))
def VF (c : qF) : DT ((Sq qH) × Int) :=
 .bind (qQ c (-20 : Int) (10 : Int)) fun z2 =>
 .bind (qQ (qF.mk c.l_ z2.2) (500 : Int) (3000 : Int)) fun z3 =>
 .bind (qJ (qF.mk c.l_ z3.2) (4 : Int)) fun z4 =>
 .sum (SV c.l_ z4.1 z4.2 (Sq.mk 1 (fun _ => (qH.mk z2.1 z3.1)))) (fun y0 =>
 .leaf (y0.2, y0.1)) (fun _ => .fail)
def zX : FnM := nfM (qF) ((Sq qH) × Int) (fun p => ([.ptr 0 0], [.var (qF.enc p)])) (fun p => VF p) (fun _ => .own 1 0) (fun ins r => [.var [ql ins 0 0, .int .i64 r.2], rowA 0 2 140 qH.enc r.1])
def Po : Env := envM [(32, tq.c), (28, qX.c)] [(3, [0, 3, 4], [3])] [(3, AO.c)] [] [(3, [0, 385])] 1
def acX : Env := { Po with nt := 40 }
theorem RB : aQ acX (qd 3 Tryz.f60) AO.c := AO.tells 705 (fun _ => by kernel_rfl) (fun _ _ _ _ => by kernel_rfl) (fun _ _ _ _ => by kernel_rfl) fun R f v N K => by kernel_rfl
theorem XU : aI Tryz.prog 60 zX.c := zX.tells Tryz.func60 (show ∀ p, arun Po Tryz.f60 (zX.enc p).1 (zX.enc p).2 = _ from fun p => by kernel_rfl) (qg [qd 3 Tryz.f60] (by kernel_rfl) ⟨lpT (by kernel_rfl) RB, trivial⟩) (.cons uW (.cons qW .nil))
def aar (c : qF) : Option ((Sq qH) × Int) := zX.val c
theorem ahc (c : qF) : aar c = (VF c).get := zX.val_eq (fun x => qF.dec (varL (dB x.2 0))) (fun p => by kernel_rfl) c
def Kn (u3_1 : Sq Int) (_u3_4 u3_0 u3_2 : Int) (u3_3 : Sq Int) : DT (LR (Int × Int × (Sq Int)) (Int × (Sq Int)) (Unit)) :=
 .ite (decide (u3_0 > (0 : Int))) (
 .ite (decide ((0 : Int) ≤ (wr (((u3_3.n : Nat) : Int) - (1 : Int))) ∧ (wr (((u3_3.n : Nat) : Int) - (1 : Int))) < ((u3_3.n : Nat) : Int))) (
 .bind (qQ (qF.mk u3_1 u3_2) (1 : Int) (60 : Int)) fun z0 =>
 .ite (decide ((u3_3.n + 1) * 8 ≤ 140737488355328 ∧ (u3_3.n + 1) ≤ 1099511627776)) (
 .leaf (.next ((wr (u3_0 - (1 : Int))), z0.2, (Sq.mk (u3_3.n + 1) (fun k0 => (cond (Nat.blt k0 u3_3.n) (u3_3.f k0) (if (0 : Int) < (wr ((u3_3.f (Int.toNat (wr (((u3_3.n : Nat) : Int) - (1 : Int))))) - z0.1)) then (wr ((u3_3.f (Int.toNat (wr (((u3_3.n : Nat) : Int) - (1 : Int))))) - z0.1)) else (0 : Int)))))))) (
 .fail)) (
 .fail)) (
 .leaf (.l (u3_2, u3_3)))
def BU : LpM := ⟨(Sq Int) × Int, Int × Int × (Sq Int), Int × (Sq Int), Unit, fun p => ⟨[(0, .ptr 0 0), (4, .ptr 1 0), (5, .ptr 385 0), (6, .int .i64 p.2.1)], [(0, .var [sqA 1 (eI .u8) p.1.1, .int .i64 p.2.2.1]), (1, .var [.int .i64 (0 : Int), .int .i64 (0 : Int), .own 2 0]), (2, .nilrow 0), (257, rowA 0 1 3 (eI .i64) p.2.2.2), (385, .var [.int .i64 p.1.2, .int .i64 (-1 : Int), .own 257 0])], 705⟩, fun f v => Kn f.1 f.2 v.1 v.2.1 v.2.2, true, (.exit 0), (fun x a => ⟨[(4, .ptr 1 0), (5, .ptr 385 0)], [(0, .var [cellS x 0 0, .int .i64 a.1]), (1, .var [.int .i64 (0 : Int), .int .i64 (0 : Int), .own 2 0]), (2, .nilrow 0), (257, rowA 0 1 3 (eI .i64) a.2), (385, blkS x 385)], 705⟩), .ret, (fun _ _ => ⟨[], [], 0⟩), c1, c1k⟩
def VG (u3_1 : Sq Int) (u3_4 u3_0 u3_2 : Int) (u3_3 : Sq Int) : Option ((Int × (Sq Int)) ⊕ (Unit)) := BU.val ((u3_1, u3_4), (u3_0, u3_2, u3_3))
theorem af7 (u3_1 : Sq Int) (u3_4 u3_0 u3_2 : Int) (u3_3 : Sq Int) : VG u3_1 u3_4 u3_0 u3_2 u3_3 = fixO (fun v : Int × Int × (Sq Int) => Kn u3_1 u3_4 v.1 v.2.1 v.2.2) (u3_0, u3_2, u3_3) := BU.val_eq (fun x => ((sqD dI (cellS x 0 0), intA (cellS x 385 0)), (intA (aget x.tm 6), intA (cellS x 0 1), sqB dI (blkS x 257)))) (fun p => by kernel_rfl) ((u3_1, u3_4), (u3_0, u3_2, u3_3))
def YN (c : qF) (road : Int) : DT (qD × Int) :=
 .bind (qQ c (200 : Int) (900 : Int)) fun z1 =>
 .bind (qQ (qF.mk c.l_ z1.2) (1 : Int) (3 : Int)) fun z2 =>
 .sum (VG c.l_ road z2.1 z2.2 (Sq.mk 1 (fun _ => z1.1))) (fun y0 =>
 .leaf ((qD.mk road (-1 : Int) y0.2), y0.1)) (fun _ => .fail)
def BX : FnM := nfM (qF × Int) (qD × Int) (fun p => ([.ptr 0 0, .int .i64 p.2], [.var (qF.enc p.1)])) (fun p => YN p.1 p.2) (fun r => .agg [.int .i64 r.1.Road, .int .i64 r.1.Other, .own 1 0]) (fun ins r => [.var [ql ins 0 0, .int .i64 r.2], rowA 0 1 3 (eI .i64) r.1.Rests])
def SX : Env := envM [(32, tq.c)] [(3, [0, 4, 5, 6], [4, 5])] [(3, BU.c)] [] [(3, [0, 1, 2, 257, 385])] 1
def adE : Env := { SX with nt := 36 }
theorem UM : aQ adE (qd 3 Tryz.f61) BU.c := BU.tells 705 (fun _ => by kernel_rfl) (fun _ _ _ _ => by kernel_rfl) (fun _ _ _ _ => by kernel_rfl) fun R f v N K => by kernel_rfl
theorem ZH : aI Tryz.prog 61 BX.c := BX.tells Tryz.func61 (show ∀ p, arun SX Tryz.f61 (BX.enc p).1 (BX.enc p).2 = _ from fun p => by kernel_rfl) (qg [qd 3 Tryz.f61] (by kernel_rfl) ⟨lpT (by kernel_rfl) UM, trivial⟩) (.cons uW .nil)
def acu (c : qF) (road : Int) : Option (qD × Int) := BX.val (c, road)
theorem ahT (c : qF) (road : Int) : acu c road = (YN c road).get := BX.val_eq (fun x => (qF.dec (varL (dB x.2 0)), intA (gd x.1 1))) (fun p => by kernel_rfl) (c, road)
def FC (u4_2 : Sq Int) (_u4_4 : Sq qA) (u4_5 : Sq qC) (_u4_7 : Sq qD) (u4_1 u4_3 : Int) (u4_6 : Sq SFan) (u4_8 : Sq Int) : DT (LR (Int × Int × (Sq SFan) × (Sq Int)) (Int × (Sq SFan) × (Sq Int)) (Unit)) :=
 .ite (decide (u4_1 > (0 : Int))) (
 .ite (decide (((u4_5.n : Nat) : Int) > (0 : Int))) (
 .bind (qJ (qF.mk u4_2 u4_3) ((u4_5.n : Nat) : Int)) fun z0 =>
 .bind (ze (qF.mk u4_2 z0.2) (3 : Int)) fun z1 =>
 .bind (ze (qF.mk u4_2 z1.2) (3 : Int)) fun z2 =>
 .bind (aar (qF.mk u4_2 z2.2)) fun z3 =>
 .ite (decide ((u4_6.n + 1) * 40 ≤ 140737488355328 ∧ (u4_6.n + 1) ≤ 1099511627776)) (
 .bind (qJ (qF.mk u4_2 z3.2) (3 : Int)) fun z4 =>
 .ite (decide ((u4_8.n + 1) * 8 ≤ 140737488355328 ∧ (u4_8.n + 1) ≤ 1099511627776)) (
 .leaf (.next ((wr (u4_1 - (1 : Int))), z4.2, (Sq.mk (u4_6.n + 1) (fun k0 => (SFan.mk (cond (Nat.blt k0 u4_6.n) (u4_6.f k0).Road z0.1) (cond (Nat.blt k0 u4_6.n) (u4_6.f k0).Back z1.1) (cond (Nat.blt k0 u4_6.n) (u4_6.f k0).Auxiliary z2.1) (Sq.mk (cond (Nat.blt k0 u4_6.n) (u4_6.f k0).Curve.n z3.1.n) (fun k1 => (qH.mk (cond (Nat.blt k0 u4_6.n) ((u4_6.f k0).Curve.f k1).Flow (z3.1.f k1).Flow) (cond (Nat.blt k0 u4_6.n) ((u4_6.f k0).Curve.f k1).Pressure (z3.1.f k1).Pressure))))))), (Sq.mk (u4_8.n + 1) (fun k2 => (cond (Nat.blt k2 u4_8.n) (u4_8.f k2) z4.1)))))) (
 .fail)) (
 .fail)) (
 .leaf (.l (u4_3, u4_6, u4_8)))) (
 .leaf (.l (u4_3, u4_6, u4_8)))
def wP : LpM := ⟨(Sq Int) × (Sq qA) × (Sq qC) × (Sq qD), Int × Int × (Sq SFan) × (Sq Int), Int × (Sq SFan) × (Sq Int), Unit, fun p => ⟨[(0, .ptr 0 0), (1, .ptr 1 0), (4, .ptr 6 0), (5, .ptr 70 0), (6, .int .i64 ((p.1.2.2.1.n : Nat) : Int)), (7, .int .i64 p.2.1)], [(0, .var [sqA 1 (eI .u8) p.1.1, .int .i64 p.2.2.1]), (1, .var [.own 2 0, .own 3 0, .own 4 1, .own 5 0]), (2, rowA 0 2 79 qA.enc p.1.2.1), (3, rowA 0 10 81 qC.enc p.1.2.2.1), (4, rowA 1 4 117 SFan.enc p.2.2.2.1), (5, rowA 0 3 91 qD.enc p.1.2.2.2), (6, .var [.own 7 0, .own 8 0]), (7, .nilrow 0), (8, .nilrow 0), (70, .var [.own 71 0, .own 72 0]), (71, rowA 0 1 3 (eI .i64) p.2.2.2.2), (72, .nilrow 0)], 774⟩, fun f v => FC f.1 f.2.1 f.2.2.1 f.2.2.2 v.1 v.2.1 v.2.2.1 v.2.2.2, true, (.exit 0), (fun x a => ⟨[(0, .ptr 0 0), (1, .ptr 1 0), (4, .ptr 6 0), (5, .ptr 70 0), (6, aget x.tm 6)], [(0, .var [cellS x 0 0, .int .i64 a.1]), (1, .var [.own 2 0, .own 3 0, .own 4 1, .own 5 0]), (2, blkS x 2), (3, blkS x 3), (4, rowA 1 4 117 SFan.enc a.2.1), (5, blkS x 5), (6, .var [.own 7 0, .own 8 0]), (7, .nilrow 0), (8, .nilrow 0), (70, .var [.own 71 0, .own 72 0]), (71, rowA 0 1 3 (eI .i64) a.2.2), (72, .nilrow 0)], 774⟩), .ret, (fun _ _ => ⟨[], [], 0⟩), c1, c1k⟩
def Lv (u4_2 : Sq Int) (u4_4 : Sq qA) (u4_5 : Sq qC) (u4_7 : Sq qD) (u4_1 u4_3 : Int) (u4_6 : Sq SFan) (u4_8 : Sq Int) : Option ((Int × (Sq SFan) × (Sq Int)) ⊕ (Unit)) := wP.val ((u4_2, u4_4, u4_5, u4_7), (u4_1, u4_3, u4_6, u4_8))
theorem aed (u4_2 : Sq Int) (u4_4 : Sq qA) (u4_5 : Sq qC) (u4_7 : Sq qD) (u4_1 u4_3 : Int) (u4_6 : Sq SFan) (u4_8 : Sq Int) : Lv u4_2 u4_4 u4_5 u4_7 u4_1 u4_3 u4_6 u4_8 = fixO (fun v : Int × Int × (Sq SFan) × (Sq Int) => FC u4_2 u4_4 u4_5 u4_7 v.1 v.2.1 v.2.2.1 v.2.2.2) (u4_1, u4_3, u4_6, u4_8) := wP.val_eq (fun x => ((sqD dI (cellS x 0 0), sqB qA.dec (blkS x 2), sqB qC.dec (blkS x 3), sqB qD.dec (blkS x 5)), (intA (aget x.tm 7), intA (cellS x 0 1), sqB SFan.dec (blkS x 4), sqB dI (blkS x 71)))) (fun p => by kernel_rfl) ((u4_2, u4_4, u4_5, u4_7), (u4_1, u4_3, u4_6, u4_8))
def FD (u9_2 : Sq Int) (_u9_4 : Sq qA) (u9_5 : Sq qC) (_u9_6 : Sq SFan) (_u9_8 : Sq Int) (u9_1 u9_3 : Int) (u9_7 : Sq qD) (u9_9 : Sq Int) : DT (LR (Int × Int × (Sq qD) × (Sq Int)) (Int × (Sq qD) × (Sq Int)) (Unit)) :=
 .ite (decide (u9_1 > (0 : Int))) (
 .ite (decide (((u9_5.n : Nat) : Int) > (0 : Int))) (
 .bind (qJ (qF.mk u9_2 u9_3) ((u9_5.n : Nat) : Int)) fun z5 =>
 .bind (acu (qF.mk u9_2 z5.2) z5.1) fun z6 =>
 .ite (decide ((u9_7.n + 1) * 40 ≤ 140737488355328 ∧ (u9_7.n + 1) ≤ 1099511627776)) (
 .bind (qJ (qF.mk u9_2 z6.2) ((z6.1.Rests.n : Nat) : Int)) fun z7 =>
 .ite (decide ((u9_9.n + 1) * 8 ≤ 140737488355328 ∧ (u9_9.n + 1) ≤ 1099511627776)) (
 .leaf (.next ((wr (u9_1 - (1 : Int))), z7.2, (Sq.mk (u9_7.n + 1) (fun k3 => (qD.mk (cond (Nat.blt k3 u9_7.n) (u9_7.f k3).Road z6.1.Road) (cond (Nat.blt k3 u9_7.n) (u9_7.f k3).Other z6.1.Other) (Sq.mk (cond (Nat.blt k3 u9_7.n) (u9_7.f k3).Rests.n z6.1.Rests.n) (fun k4 => (cond (Nat.blt k3 u9_7.n) ((u9_7.f k3).Rests.f k4) (z6.1.Rests.f k4))))))), (Sq.mk (u9_9.n + 1) (fun k5 => (cond (Nat.blt k5 u9_9.n) (u9_9.f k5) z7.1)))))) (
 .fail)) (
 .fail)) (
 .leaf (.l (u9_3, u9_7, u9_9)))) (
 .leaf (.l (u9_3, u9_7, u9_9)))
def wQ : LpM := ⟨(Sq Int) × (Sq qA) × (Sq qC) × (Sq SFan) × (Sq Int), Int × Int × (Sq qD) × (Sq Int), Int × (Sq qD) × (Sq Int), Unit, fun p => ⟨[(0, .ptr 0 0), (1, .ptr 1 0), (4, .ptr 6 0), (5, .ptr 70 0), (6, .int .i64 ((p.1.2.2.1.n : Nat) : Int)), (8, .int .i64 p.2.1)], [(0, .var [sqA 1 (eI .u8) p.1.1, .int .i64 p.2.2.1]), (1, .var [.own 2 0, .own 3 0, .own 4 1, .own 5 1]), (2, rowA 0 2 79 qA.enc p.1.2.1), (3, rowA 0 10 81 qC.enc p.1.2.2.1), (4, rowA 1 4 117 SFan.enc p.1.2.2.2.1), (5, rowA 1 3 91 qD.enc p.2.2.2.1), (6, .var [.own 7 0, .own 8 0]), (7, .nilrow 0), (8, .nilrow 0), (70, .var [.own 71 0, .own 72 0]), (71, rowA 0 1 3 (eI .i64) p.1.2.2.2.2), (72, rowA 0 1 3 (eI .i64) p.2.2.2.2)], 966⟩, fun f v => FD f.1 f.2.1 f.2.2.1 f.2.2.2.1 f.2.2.2.2 v.1 v.2.1 v.2.2.1 v.2.2.2, true, (.exit 2), (fun x a => ⟨[(4, .ptr 6 0), (5, .ptr 70 0)], [(0, .var [cellS x 0 0, .int .i64 a.1]), (1, .var [.own 2 0, .own 3 0, .own 4 1, .own 5 1]), (2, blkS x 2), (3, blkS x 3), (4, blkS x 4), (5, rowA 1 3 91 qD.enc a.2.1), (6, .var [.own 7 0, .own 8 0]), (7, .nilrow 0), (8, .nilrow 0), (70, .var [.own 71 0, .own 72 0]), (71, blkS x 71), (72, rowA 0 1 3 (eI .i64) a.2.2)], 966⟩), .ret, (fun _ _ => ⟨[], [], 0⟩), c1, c1k⟩
def Lx (u9_2 : Sq Int) (u9_4 : Sq qA) (u9_5 : Sq qC) (u9_6 : Sq SFan) (u9_8 : Sq Int) (u9_1 u9_3 : Int) (u9_7 : Sq qD) (u9_9 : Sq Int) : Option ((Int × (Sq qD) × (Sq Int)) ⊕ (Unit)) := wQ.val ((u9_2, u9_4, u9_5, u9_6, u9_8), (u9_1, u9_3, u9_7, u9_9))
theorem aee (u9_2 : Sq Int) (u9_4 : Sq qA) (u9_5 : Sq qC) (u9_6 : Sq SFan) (u9_8 : Sq Int) (u9_1 u9_3 : Int) (u9_7 : Sq qD) (u9_9 : Sq Int) : Lx u9_2 u9_4 u9_5 u9_6 u9_8 u9_1 u9_3 u9_7 u9_9 = fixO (fun v : Int × Int × (Sq qD) × (Sq Int) => FD u9_2 u9_4 u9_5 u9_6 u9_8 v.1 v.2.1 v.2.2.1 v.2.2.2) (u9_1, u9_3, u9_7, u9_9) := wQ.val_eq (fun x => ((sqD dI (cellS x 0 0), sqB qA.dec (blkS x 2), sqB qC.dec (blkS x 3), sqB SFan.dec (blkS x 4), sqB dI (blkS x 71)), (intA (aget x.tm 8), intA (cellS x 0 1), sqB qD.dec (blkS x 5), sqB dI (blkS x 72)))) (fun p => by kernel_rfl) ((u9_2, u9_4, u9_5, u9_6, u9_8), (u9_1, u9_3, u9_7, u9_9))
def NY (c : qF) (a : SAir) : DT (qz × Int × (Sq SFan) × (Sq qD)) :=
 .bind (qJ c (3 : Int)) fun z8 =>
 .sum (Lv c.l_ a.Mine.Places a.Mine.Roads a.Doors z8.1 z8.2 a.Fans (Sq.mk 0 (fun _ => (0 : Int)))) (fun y0 =>
 .bind (qJ (qF.mk c.l_ y0.1) (3 : Int)) fun z9 =>
 .sum (Lx c.l_ a.Mine.Places a.Mine.Roads y0.2.1 y0.2.2 z9.1 z9.2 a.Doors (Sq.mk 0 (fun _ => (0 : Int)))) (fun y1 =>
 .leaf ((qz.mk y0.2.2 y1.2.2), y1.1, y0.2.1, y1.2.1)) (fun _ => .fail)) (fun _ => .fail)
def vN : FnM := nfM (qF × SAir) (qz × Int × (Sq SFan) × (Sq qD)) (fun p => ([.ptr 0 0, .ptr 1 0], [.var (qF.enc p.1), .var [.own 2 0, .own 3 0, .own 4 0, .own 5 0], rowA 0 2 79 qA.enc p.2.Mine.Places, rowA 0 10 81 qC.enc p.2.Mine.Roads, rowA 0 4 117 SFan.enc p.2.Fans, rowA 0 3 91 qD.enc p.2.Doors])) (fun p => NY p.1 p.2) (fun _ => .agg [.own 6 0, .own 7 0]) (fun ins r => [.var [ql ins 0 0, .int .i64 r.2.1], .var [ql ins 1 0, ql ins 1 1, .own 4 1, .own 5 1], dB ins 2, dB ins 3, rowA 1 4 117 SFan.enc r.2.2.1, rowA 1 3 91 qD.enc r.2.2.2, rowA 0 1 3 (eI .i64) r.1.Fans, rowA 0 1 3 (eI .i64) r.1.Doors])
def Kr : Env := envM [(28, qX.c), (31, yK.c), (60, zX.c), (61, BX.c)] [(4, [0, 1, 4, 5, 6, 7], [0, 1, 4, 5, 6]), (9, [0, 1, 4, 5, 6, 8], [4, 5])] [(4, wP.c), (9, wQ.c)] [(1000004, [.asrow 71 3 1 (fun _ => (eI .i64) (0 : Int))]), (12, [.freeze 1606]), (1000009, [.asrow 72 3 1 (fun _ => (eI .i64) (0 : Int))])] [(4, [0, 1, 2, 3, 4, 5, 6, 7, 8, 70, 71, 72]), (9, [0, 1, 2, 3, 4, 5, 6, 7, 8, 70, 71, 72]), (4000004, [4]), (4000009, [5])] 6
def NW : Env := { Kr with nt := 88 }
theorem M9 : aQ NW (qd 4 Tryz.f34) wP.c := wP.tells 774 (fun _ => by kernel_rfl) (fun _ _ _ _ => by kernel_rfl) (fun _ _ _ _ => by kernel_rfl) fun R f v N K => by kernel_rfl
theorem Na : aQ NW (qd 9 Tryz.f34) wQ.c := wQ.tells 966 (fun _ => by kernel_rfl) (fun _ _ _ _ => by kernel_rfl) (fun _ _ _ _ => by kernel_rfl) fun R f v N K => by kernel_rfl
theorem RJ : aI Tryz.prog 34 vN.c := vN.tells Tryz.func34 (show ∀ p, arun Kr Tryz.f34 (vN.enc p).1 (vN.enc p).2 = _ from fun p => by kernel_rfl) (qg [qd 4 Tryz.f34, qd 9 Tryz.f34] (by kernel_rfl) ⟨lpT (by kernel_rfl) M9, ⟨lpT (by kernel_rfl) Na, trivial⟩⟩) (.cons qW (.cons EO (.cons XU (.cons ZH .nil))))
def DK (c : qF) (a : SAir) : Option (qz × Int × (Sq SFan) × (Sq qD)) := vN.val (c, a)
theorem afr (c : qF) (a : SAir) : DK c a = (NY c a).get := vN.val_eq (fun x => (qF.dec (varL (dB x.2 0)), ⟨⟨sqB qA.dec (dB x.2 2), sqB qC.dec (dB x.2 3)⟩, sqB SFan.dec (dB x.2 4), sqB qD.dec (dB x.2 5)⟩)) (fun p => by kernel_rfl) (c, a)
def LB (_u8_0 : Int) (_u8_2 : Sq Int) (_u8_3 : Int) (_u8_4 : Sq qA) (_u8_5 : Sq qC) (_u8_6 : Sq SFan) (u8_7 : Sq qD) (_u8_8 u8_9 _u8_10 _u8_11 : Sq Int) (u8_13 : Int) (_u8_14 : Nat) (u8_1 u8_12 : Int) : DT (LR (Int × Int) (Int) (Unit)) :=
 .ite (decide (u8_12 < ((u8_7.n : Nat) : Int))) (
 .ite (decide ((0 : Int) ≤ u8_12 ∧ u8_12 < ((u8_7.n : Nat) : Int))) (
 .ite ((u8_7.f (Int.toNat u8_12)).Road == u8_13) (
 .ite (decide ((0 : Int) ≤ u8_12 ∧ u8_12 < ((u8_7.n : Nat) : Int))) (
 .ite (decide ((0 : Int) ≤ u8_12 ∧ u8_12 < ((u8_9.n : Nat) : Int))) (
 .bind (Yy (u8_7.f (Int.toNat u8_12)) (u8_9.f (Int.toNat u8_12))) fun z0 =>
 .leaf (.next ((wr (u8_1 + z0.Low)), (wr (u8_12 + (1 : Int)))))) (
 .fail)) (
 .fail)) (
 .leaf (.next (u8_1, (wr (u8_12 + (1 : Int))))))) (
 .fail)) (
 .leaf (.l u8_1))
def DR : LpM := ⟨Int × (Sq Int) × Int × (Sq qA) × (Sq qC) × (Sq SFan) × (Sq qD) × (Sq Int) × (Sq Int) × (Sq Int) × (Sq Int) × Int × Nat, Int × Int, Int, Unit, fun p => ⟨[(0, .ptr 0 0), (1, .ptr 1 0), (6, .ptr 6 0), (7, .ptr 70 0), (8, .int .i64 p.1.2.2.2.2.2.2.2.2.2.2.2.1), (9, .rptr 3 0 10 p.1.2.2.2.2.2.2.2.2.2.2.2.2 0), (10, .int .i64 p.1.1), (11, .int .i64 p.2.1), (12, .int .i64 p.2.2)], [(0, .var [sqA 1 (eI .u8) p.1.2.1, .int .i64 p.1.2.2.1]), (1, .var [.own 2 0, .own 3 0, .own 4 0, .own 5 0]), (2, rowA 0 2 79 qA.enc p.1.2.2.2.1), (3, rowA 0 10 81 qC.enc p.1.2.2.2.2.1), (4, rowA 0 4 117 SFan.enc p.1.2.2.2.2.2.1), (5, rowA 0 3 91 qD.enc p.1.2.2.2.2.2.2.1), (6, .var [sqA 1 (eI .i64) p.1.2.2.2.2.2.2.2.1, sqA 1 (eI .i64) p.1.2.2.2.2.2.2.2.2.1]), (70, .var [sqA 1 (eI .i64) p.1.2.2.2.2.2.2.2.2.2.1, sqA 1 (eI .i64) p.1.2.2.2.2.2.2.2.2.2.2.1])], 3014⟩, fun f v => LB f.1 f.2.1 f.2.2.1 f.2.2.2.1 f.2.2.2.2.1 f.2.2.2.2.2.1 f.2.2.2.2.2.2.1 f.2.2.2.2.2.2.2.1 f.2.2.2.2.2.2.2.2.1 f.2.2.2.2.2.2.2.2.2.1 f.2.2.2.2.2.2.2.2.2.2.1 f.2.2.2.2.2.2.2.2.2.2.2.1 f.2.2.2.2.2.2.2.2.2.2.2.2 v.1 v.2, true, (.exit 2), (fun x a => ⟨[(0, .ptr 0 0), (1, .ptr 1 0), (6, .ptr 6 0), (7, .ptr 70 0), (8, aget x.tm 8), (9, aget x.tm 9), (10, aget x.tm 10), (11, .int .i64 a)], [(0, blkS x 0), (1, .var [.own 2 0, .own 3 0, .own 4 0, .own 5 0]), (2, blkS x 2), (3, blkS x 3), (4, blkS x 4), (5, blkS x 5), (6, blkS x 6), (70, blkS x 70)], 3014⟩), .ret, (fun _ _ => ⟨[], [], 0⟩), c1, c1k⟩
def YT (u8_0 : Int) (u8_2 : Sq Int) (u8_3 : Int) (u8_4 : Sq qA) (u8_5 : Sq qC) (u8_6 : Sq SFan) (u8_7 : Sq qD) (u8_8 u8_9 u8_10 u8_11 : Sq Int) (u8_13 : Int) (u8_14 : Nat) (u8_1 u8_12 : Int) : Option ((Int) ⊕ (Unit)) := DR.val ((u8_0, u8_2, u8_3, u8_4, u8_5, u8_6, u8_7, u8_8, u8_9, u8_10, u8_11, u8_13, u8_14), (u8_1, u8_12))
theorem agN (u8_0 : Int) (u8_2 : Sq Int) (u8_3 : Int) (u8_4 : Sq qA) (u8_5 : Sq qC) (u8_6 : Sq SFan) (u8_7 : Sq qD) (u8_8 u8_9 u8_10 u8_11 : Sq Int) (u8_13 : Int) (u8_14 : Nat) (u8_1 u8_12 : Int) : YT u8_0 u8_2 u8_3 u8_4 u8_5 u8_6 u8_7 u8_8 u8_9 u8_10 u8_11 u8_13 u8_14 u8_1 u8_12 = fixO (fun v : Int × Int => LB u8_0 u8_2 u8_3 u8_4 u8_5 u8_6 u8_7 u8_8 u8_9 u8_10 u8_11 u8_13 u8_14 v.1 v.2) (u8_1, u8_12) := DR.val_eq (fun x => ((intA (aget x.tm 10), sqD dI (cellS x 0 0), intA (cellS x 0 1), sqB qA.dec (blkS x 2), sqB qC.dec (blkS x 3), sqB SFan.dec (blkS x 4), sqB qD.dec (blkS x 5), sqD dI (cellS x 6 0), sqD dI (cellS x 6 1), sqD dI (cellS x 70 0), sqD dI (cellS x 70 1), intA (aget x.tm 8), qy (aget x.tm 9)), (intA (aget x.tm 11), intA (aget x.tm 12)))) (fun p => by kernel_rfl) ((u8_0, u8_2, u8_3, u8_4, u8_5, u8_6, u8_7, u8_8, u8_9, u8_10, u8_11, u8_13, u8_14), (u8_1, u8_12))
def Kt (u14_0 : Int) (_u14_2 : Sq Int) (_u14_3 : Int) (_u14_4 : Sq qA) (_u14_5 : Sq qC) (u14_6 : Sq SFan) (_u14_7 : Sq qD) (u14_8 _u14_9 _u14_10 _u14_11 : Sq Int) (u14_13 : Int) (_u14_14 : Nat) (u14_1 u14_12 : Int) : DT (LR (Int × Int) (Int) (Unit)) :=
 .ite (decide (u14_12 < ((u14_6.n : Nat) : Int))) (
 .ite (decide ((0 : Int) ≤ u14_12 ∧ u14_12 < ((u14_6.n : Nat) : Int))) (
 .ite ((u14_6.f (Int.toNat u14_12)).Road == u14_13) (
 .ite (decide ((0 : Int) ≤ u14_12 ∧ u14_12 < ((u14_6.n : Nat) : Int))) (
 .ite (decide ((0 : Int) ≤ u14_12 ∧ u14_12 < ((u14_8.n : Nat) : Int))) (
 .bind (Vq (u14_6.f (Int.toNat u14_12)) (u14_8.f (Int.toNat u14_12)) u14_0) fun z1 =>
 .leaf (.next ((wr (u14_1 - z1.Low)), (wr (u14_12 + (1 : Int)))))) (
 .fail)) (
 .fail)) (
 .leaf (.next (u14_1, (wr (u14_12 + (1 : Int))))))) (
 .fail)) (
 .leaf (.l u14_1))
def Cb : LpM := ⟨Int × (Sq Int) × Int × (Sq qA) × (Sq qC) × (Sq SFan) × (Sq qD) × (Sq Int) × (Sq Int) × (Sq Int) × (Sq Int) × Int × Nat, Int × Int, Int, Unit, fun p => ⟨[(0, .ptr 0 0), (1, .ptr 1 0), (6, .ptr 6 0), (7, .ptr 70 0), (8, .int .i64 p.1.2.2.2.2.2.2.2.2.2.2.2.1), (9, .rptr 3 0 10 p.1.2.2.2.2.2.2.2.2.2.2.2.2 0), (10, .int .i64 p.1.1), (13, .int .i64 p.2.1), (14, .int .i64 p.2.2)], [(0, .var [sqA 1 (eI .u8) p.1.2.1, .int .i64 p.1.2.2.1]), (1, .var [.own 2 0, .own 3 0, .own 4 0, .own 5 0]), (2, rowA 0 2 79 qA.enc p.1.2.2.2.1), (3, rowA 0 10 81 qC.enc p.1.2.2.2.2.1), (4, rowA 0 4 117 SFan.enc p.1.2.2.2.2.2.1), (5, rowA 0 3 91 qD.enc p.1.2.2.2.2.2.2.1), (6, .var [sqA 1 (eI .i64) p.1.2.2.2.2.2.2.2.1, sqA 1 (eI .i64) p.1.2.2.2.2.2.2.2.2.1]), (70, .var [sqA 1 (eI .i64) p.1.2.2.2.2.2.2.2.2.2.1, sqA 1 (eI .i64) p.1.2.2.2.2.2.2.2.2.2.2.1])], 4806⟩, fun f v => Kt f.1 f.2.1 f.2.2.1 f.2.2.2.1 f.2.2.2.2.1 f.2.2.2.2.2.1 f.2.2.2.2.2.2.1 f.2.2.2.2.2.2.2.1 f.2.2.2.2.2.2.2.2.1 f.2.2.2.2.2.2.2.2.2.1 f.2.2.2.2.2.2.2.2.2.2.1 f.2.2.2.2.2.2.2.2.2.2.2.1 f.2.2.2.2.2.2.2.2.2.2.2.2 v.1 v.2, true, (.exit 4), (fun x a => ⟨[(0, .ptr 0 0), (1, .ptr 1 0), (6, .ptr 6 0), (7, .ptr 70 0), (8, aget x.tm 8), (9, aget x.tm 9), (13, .int .i64 a)], [(0, blkS x 0), (1, .var [.own 2 0, .own 3 0, .own 4 0, .own 5 0]), (2, blkS x 2), (3, blkS x 3), (4, blkS x 4), (5, blkS x 5), (6, blkS x 6), (70, blkS x 70)], 4806⟩), .ret, (fun _ _ => ⟨[], [], 0⟩), c1, c1k⟩
def VP (u14_0 : Int) (u14_2 : Sq Int) (u14_3 : Int) (u14_4 : Sq qA) (u14_5 : Sq qC) (u14_6 : Sq SFan) (u14_7 : Sq qD) (u14_8 u14_9 u14_10 u14_11 : Sq Int) (u14_13 : Int) (u14_14 : Nat) (u14_1 u14_12 : Int) : Option ((Int) ⊕ (Unit)) := Cb.val ((u14_0, u14_2, u14_3, u14_4, u14_5, u14_6, u14_7, u14_8, u14_9, u14_10, u14_11, u14_13, u14_14), (u14_1, u14_12))
theorem aga (u14_0 : Int) (u14_2 : Sq Int) (u14_3 : Int) (u14_4 : Sq qA) (u14_5 : Sq qC) (u14_6 : Sq SFan) (u14_7 : Sq qD) (u14_8 u14_9 u14_10 u14_11 : Sq Int) (u14_13 : Int) (u14_14 : Nat) (u14_1 u14_12 : Int) : VP u14_0 u14_2 u14_3 u14_4 u14_5 u14_6 u14_7 u14_8 u14_9 u14_10 u14_11 u14_13 u14_14 u14_1 u14_12 = fixO (fun v : Int × Int => Kt u14_0 u14_2 u14_3 u14_4 u14_5 u14_6 u14_7 u14_8 u14_9 u14_10 u14_11 u14_13 u14_14 v.1 v.2) (u14_1, u14_12) := Cb.val_eq (fun x => ((intA (aget x.tm 10), sqD dI (cellS x 0 0), intA (cellS x 0 1), sqB qA.dec (blkS x 2), sqB qC.dec (blkS x 3), sqB SFan.dec (blkS x 4), sqB qD.dec (blkS x 5), sqD dI (cellS x 6 0), sqD dI (cellS x 6 1), sqD dI (cellS x 70 0), sqD dI (cellS x 70 1), intA (aget x.tm 8), qy (aget x.tm 9)), (intA (aget x.tm 13), intA (aget x.tm 14)))) (fun p => by kernel_rfl) ((u14_0, u14_2, u14_3, u14_4, u14_5, u14_6, u14_7, u14_8, u14_9, u14_10, u14_11, u14_13, u14_14), (u14_1, u14_12))
def LA (u2_0 : Sq Int) (u2_2 : Sq qA) (u2_4 : Sq SFan) (u2_5 : Sq qD) (u2_6 u2_7 u2_8 u2_9 : Sq Int) (u2_1 : Int) (u2_3 : Sq qC) (u2_10 : Int) : DT (LR (Int × (Sq qC) × Int) (Int × (Sq qC)) (Unit)) :=
 .ite (decide (u2_10 < ((u2_3.n : Nat) : Int))) (
 .ite (decide ((0 : Int) ≤ u2_10 ∧ u2_10 < ((u2_3.n : Nat) : Int))) (
 .ite (decide ((0 : Int) ≤ u2_10 ∧ u2_10 < ((u2_9.n : Nat) : Int))) (
 .bind (qJ (qF.mk u2_0 u2_1) (wr ((wr ((u2_3.f (Int.toNat u2_10)).Rest.High - (u2_3.f (Int.toNat u2_10)).Rest.Low)) + (1 : Int)))) fun z2 =>
 .sum (YT (u2_9.f (Int.toNat u2_10)) u2_0 z2.2 u2_2 u2_3 u2_4 u2_5 u2_6 u2_7 u2_8 u2_9 u2_10 (Int.toNat u2_10) (wr ((u2_3.f (Int.toNat u2_10)).Rest.Low + z2.1)) (0 : Int)) (fun y0 =>
 .ite (decide ((0 : Int) ≤ (u2_3.f (Int.toNat u2_10)).From ∧ (u2_3.f (Int.toNat u2_10)).From < ((u2_8.n : Nat) : Int))) (
 .ite (decide ((0 : Int) ≤ (u2_3.f (Int.toNat u2_10)).To ∧ (u2_3.f (Int.toNat u2_10)).To < ((u2_8.n : Nat) : Int))) (
 .sum (VP (u2_9.f (Int.toNat u2_10)) u2_0 z2.2 u2_2 u2_3 u2_4 u2_5 u2_6 u2_7 u2_8 u2_9 u2_10 (Int.toNat u2_10) (wr ((wr ((wr (y0 * (if (u2_9.f (Int.toNat u2_10)) < (wr (0 - (u2_9.f (Int.toNat u2_10)))) then (wr (0 - (u2_9.f (Int.toNat u2_10)))) else (u2_9.f (Int.toNat u2_10))))) * (u2_9.f (Int.toNat u2_10)))) - (wr ((u2_8.f (Int.toNat (u2_3.f (Int.toNat u2_10)).From)) - (u2_8.f (Int.toNat (u2_3.f (Int.toNat u2_10)).To)))))) (0 : Int)) (fun y1 =>
 .bind (qJ (qF.mk u2_0 z2.2) (30 : Int)) fun z3 =>
 .bind (qJ (qF.mk u2_0 z3.2) (30 : Int)) fun z4 =>
 .leaf (.next (z4.2, (Sq.mk u2_3.n (fun k0 => (qC.mk (cond (Nat.beq k0 (Int.toNat u2_10)) (u2_3.f (Int.toNat u2_10)).From (u2_3.f k0).From) (cond (Nat.beq k0 (Int.toNat u2_10)) (u2_3.f (Int.toNat u2_10)).To (u2_3.f k0).To) (cond (Nat.beq k0 (Int.toNat u2_10)) (u2_3.f (Int.toNat u2_10)).Length (u2_3.f k0).Length) (cond (Nat.beq k0 (Int.toNat u2_10)) (u2_3.f (Int.toNat u2_10)).Area (u2_3.f k0).Area) (cond (Nat.beq k0 (Int.toNat u2_10)) (u2_3.f (Int.toNat u2_10)).Walk (u2_3.f k0).Walk) (cond (Nat.beq k0 (Int.toNat u2_10)) (u2_3.f (Int.toNat u2_10)).Closed (u2_3.f k0).Closed) (qB.mk (cond (Nat.beq k0 (Int.toNat u2_10)) (u2_3.f (Int.toNat u2_10)).Rest.Low (u2_3.f k0).Rest.Low) (cond (Nat.beq k0 (Int.toNat u2_10)) (u2_3.f (Int.toNat u2_10)).Rest.High (u2_3.f k0).Rest.High)) (qB.mk (cond (Nat.beq k0 (Int.toNat u2_10)) (wr (y1 - z3.1)) (u2_3.f k0).Lift.Low) (cond (Nat.beq k0 (Int.toNat u2_10)) (wr (y1 + z4.1)) (u2_3.f k0).Lift.High))))), (wr (u2_10 + (1 : Int)))))) (fun _ => .fail)) (
 .fail)) (
 .fail)) (fun _ => .fail)) (
 .fail)) (
 .fail)) (
 .leaf (.l (u2_1, u2_3)))
def DL : LpM := ⟨(Sq Int) × (Sq qA) × (Sq SFan) × (Sq qD) × (Sq Int) × (Sq Int) × (Sq Int) × (Sq Int), Int × (Sq qC) × Int, Int × (Sq qC), Unit, fun p => ⟨[(0, .ptr 0 0), (1, .ptr 1 0), (6, .ptr 6 0), (7, .ptr 70 0), (8, .int .i64 p.2.2.2)], [(0, .var [sqA 1 (eI .u8) p.1.1, .int .i64 p.2.1]), (1, .var [.own 2 0, .own 3 0, .own 4 0, .own 5 0]), (2, rowA 0 2 79 qA.enc p.1.2.1), (3, rowA 0 10 81 qC.enc p.2.2.1), (4, rowA 0 4 117 SFan.enc p.1.2.2.1), (5, rowA 0 3 91 qD.enc p.1.2.2.2.1), (6, .var [sqA 1 (eI .i64) p.1.2.2.2.2.1, sqA 1 (eI .i64) p.1.2.2.2.2.2.1]), (70, .var [sqA 1 (eI .i64) p.1.2.2.2.2.2.2.1, sqA 1 (eI .i64) p.1.2.2.2.2.2.2.2])], 198⟩, fun f v => LA f.1 f.2.1 f.2.2.1 f.2.2.2.1 f.2.2.2.2.1 f.2.2.2.2.2.1 f.2.2.2.2.2.2.1 f.2.2.2.2.2.2.2 v.1 v.2.1 v.2.2, true, (.exit 0), (fun x a => ⟨[], [(0, .var [cellS x 0 0, .int .i64 a.1]), (1, .var [.own 2 0, .own 3 0, .own 4 0, .own 5 0]), (2, blkS x 2), (3, rowA 0 10 81 qC.enc a.2), (4, blkS x 4), (5, blkS x 5), (6, blkS x 6), (70, blkS x 70)], 198⟩), .ret, (fun _ _ => ⟨[], [], 0⟩), c1, c1k⟩
def YS (u2_0 : Sq Int) (u2_2 : Sq qA) (u2_4 : Sq SFan) (u2_5 : Sq qD) (u2_6 u2_7 u2_8 u2_9 : Sq Int) (u2_1 : Int) (u2_3 : Sq qC) (u2_10 : Int) : Option ((Int × (Sq qC)) ⊕ (Unit)) := DL.val ((u2_0, u2_2, u2_4, u2_5, u2_6, u2_7, u2_8, u2_9), (u2_1, u2_3, u2_10))
theorem agM (u2_0 : Sq Int) (u2_2 : Sq qA) (u2_4 : Sq SFan) (u2_5 : Sq qD) (u2_6 u2_7 u2_8 u2_9 : Sq Int) (u2_1 : Int) (u2_3 : Sq qC) (u2_10 : Int) : YS u2_0 u2_2 u2_4 u2_5 u2_6 u2_7 u2_8 u2_9 u2_1 u2_3 u2_10 = fixO (fun v : Int × (Sq qC) × Int => LA u2_0 u2_2 u2_4 u2_5 u2_6 u2_7 u2_8 u2_9 v.1 v.2.1 v.2.2) (u2_1, u2_3, u2_10) := DL.val_eq (fun x => ((sqD dI (cellS x 0 0), sqB qA.dec (blkS x 2), sqB SFan.dec (blkS x 4), sqB qD.dec (blkS x 5), sqD dI (cellS x 6 0), sqD dI (cellS x 6 1), sqD dI (cellS x 70 0), sqD dI (cellS x 70 1)), (intA (cellS x 0 1), sqB qC.dec (blkS x 3), intA (aget x.tm 8)))) (fun p => by kernel_rfl) ((u2_0, u2_2, u2_4, u2_5, u2_6, u2_7, u2_8, u2_9), (u2_1, u2_3, u2_10))
def aau (c : qF) (a : SAir) (s : qz) (x : yV) : DT (Int × (Sq qC)) :=
 .sum (YS c.l_ a.Mine.Places a.Fans a.Doors s.Fans s.Doors x.Pressures x.Flows c.at_ a.Mine.Roads (0 : Int)) (fun y2 =>
 .leaf (y2.1, y2.2)) (fun _ => .fail)
def El : FnM := nfM (qF × SAir × qz × yV) (Int × (Sq qC)) (fun p => ([.ptr 0 0, .ptr 1 0, .agg (qz.enc p.2.2.1), .agg (yV.enc p.2.2.2)], [.var (qF.enc p.1), .var [.own 2 0, .own 3 0, .own 4 0, .own 5 0], rowA 0 2 79 qA.enc p.2.1.Mine.Places, rowA 0 10 81 qC.enc p.2.1.Mine.Roads, rowA 0 4 117 SFan.enc p.2.1.Fans, rowA 0 3 91 qD.enc p.2.1.Doors])) (fun p => aau p.1 p.2.1 p.2.2.1 p.2.2.2) (fun _ => .tup []) (fun ins r => [.var [ql ins 0 0, .int .i64 r.1], dB ins 1, dB ins 2, rowA 0 10 81 qC.enc r.2, dB ins 4, dB ins 5])
def VO : Env := envM [(28, qX.c), (62, zS.c), (63, yC.c)] [(8, [0, 1, 6, 7, 8, 9, 10, 11, 12], [0, 1, 6, 7, 8, 9, 10, 11]), (14, [0, 1, 6, 7, 8, 9, 10, 13, 14], [0, 1, 6, 7, 8, 9, 13]), (2, [0, 1, 6, 7, 8], [])] [(8, DR.c), (14, Cb.c), (2, DL.c)] [] [(8, [0, 1, 2, 3, 4, 5, 6, 70]), (14, [0, 1, 2, 3, 4, 5, 6, 70]), (2, [0, 1, 2, 3, 4, 5, 6, 70])] 6
def UR : Env := { VO with nt := 166 }
theorem VT : aQ UR (qd 8 Tryz.f35) DR.c := DR.tells 3014 (fun _ => by kernel_rfl) (fun _ _ _ _ => by kernel_rfl) (fun _ _ _ _ => by kernel_rfl) fun R f v N K => by kernel_rfl
theorem UU : aQ UR (qd 14 Tryz.f35) Cb.c := Cb.tells 4806 (fun _ => by kernel_rfl) (fun _ _ _ _ => by kernel_rfl) (fun _ _ _ _ => by kernel_rfl) fun R f v N K => by kernel_rfl
theorem VQ : aQ UR (qd 2 Tryz.f35) DL.c := DL.tells 198 (fun _ => by kernel_rfl) (fun _ _ _ _ => by kernel_rfl) (fun _ _ _ _ => by kernel_rfl) fun R f v N K => by kernel_rfl
theorem aav : aI Tryz.prog 35 El.c := El.tells Tryz.func35 (show ∀ p, arun VO Tryz.f35 (El.enc p).1 (El.enc p).2 = _ from fun p => by kernel_rfl) (qg [qd 2 Tryz.f35, qd 8 Tryz.f35, qd 14 Tryz.f35] (by kernel_rfl) ⟨lpT (by kernel_rfl) VQ, ⟨lpT (by kernel_rfl) VT, ⟨lpT (by kernel_rfl) UU, trivial⟩⟩⟩) (.cons qW (.cons OC (.cons MC .nil)))
def Py (c : qF) (a : SAir) (s : qz) (x : yV) : Option (Int × (Sq qC)) := El.val (c, a, s, x)
theorem ais (c : qF) (a : SAir) (s : qz) (x : yV) : Py c a s x = (aau c a s x).get := El.val_eq (fun x => (qF.dec (varL (dB x.2 0)), ⟨⟨sqB qA.dec (dB x.2 2), sqB qC.dec (dB x.2 3)⟩, sqB SFan.dec (dB x.2 4), sqB qD.dec (dB x.2 5)⟩, qz.dec (aggL (gd x.1 2)), yV.dec (aggL (gd x.1 3)))) (fun p => by kernel_rfl) (c, a, s, x)
def HV (u3_0 u3_2 _u3_3 : Sq Int) (u3_1 : Int) (u3_4 : Sq Int) (u3_5 : Int) : DT (LR (Int × (Sq Int) × Int) (Int × (Sq Int)) (Unit)) :=
 .ite (decide (u3_5 < ((u3_2.n : Nat) : Int))) (
 .ite (decide ((0 : Int) ≤ u3_5 ∧ u3_5 < ((u3_2.n : Nat) : Int))) (
 .bind (ze (qF.mk u3_0 u3_1) (5 : Int)) fun z0 =>
 .ite z0.1 (
 .ite (decide ((u3_4.n + 1) * 8 ≤ 140737488355328 ∧ (u3_4.n + 1) ≤ 1099511627776)) (
 .leaf (.next (z0.2, (Sq.mk (u3_4.n + 1) (fun k0 => (cond (Nat.blt k0 u3_4.n) (u3_4.f k0) (-1 : Int)))), (wr (u3_5 + (1 : Int)))))) (
 .fail)) (
 .ite (decide ((u3_4.n + 1) * 8 ≤ 140737488355328 ∧ (u3_4.n + 1) ≤ 1099511627776)) (
 .leaf (.next (z0.2, (Sq.mk (u3_4.n + 1) (fun k1 => (cond (Nat.blt k1 u3_4.n) (u3_4.f k1) (u3_2.f (Int.toNat u3_5))))), (wr (u3_5 + (1 : Int)))))) (
 .fail))) (
 .fail)) (
 .leaf (.l (u3_1, u3_4)))
def zf : LpM := ⟨(Sq Int) × (Sq Int) × (Sq Int), Int × (Sq Int) × Int, Int × (Sq Int), Unit, fun p => ⟨[(0, .ptr 0 0), (5, .ptr 65 0), (6, .ptr 129 0), (7, .ptr 193 0), (8, .int .i64 p.2.2.2)], [(0, .var [sqA 1 (eI .u8) p.1.1, .int .i64 p.2.1]), (65, .var [sqA 1 (eI .i64) p.1.2.1, sqA 1 (eI .i64) p.1.2.2]), (129, .var [.own 130 0, .own 131 0]), (130, .nilrow 0), (131, .nilrow 0), (193, .var [.own 194 0, .own 195 0]), (194, rowA 0 1 3 (eI .i64) p.2.2.1), (195, .nilrow 0)], 321⟩, fun f v => HV f.1 f.2.1 f.2.2 v.1 v.2.1 v.2.2, true, (.exit 0), (fun x a => ⟨[(0, .ptr 0 0), (5, .ptr 65 0), (6, .ptr 129 0), (7, .ptr 193 0)], [(0, .var [cellS x 0 0, .int .i64 a.1]), (65, blkS x 65), (129, .var [.own 130 0, .own 131 0]), (130, .nilrow 0), (131, .nilrow 0), (193, .var [.own 194 0, .own 195 0]), (194, rowA 0 1 3 (eI .i64) a.2), (195, .nilrow 0)], 321⟩), .ret, (fun _ _ => ⟨[], [], 0⟩), c1, c1k⟩
def Pw (u3_0 u3_2 u3_3 : Sq Int) (u3_1 : Int) (u3_4 : Sq Int) (u3_5 : Int) : Option ((Int × (Sq Int)) ⊕ (Unit)) := zf.val ((u3_0, u3_2, u3_3), (u3_1, u3_4, u3_5))
theorem aeQ (u3_0 u3_2 u3_3 : Sq Int) (u3_1 : Int) (u3_4 : Sq Int) (u3_5 : Int) : Pw u3_0 u3_2 u3_3 u3_1 u3_4 u3_5 = fixO (fun v : Int × (Sq Int) × Int => HV u3_0 u3_2 u3_3 v.1 v.2.1 v.2.2) (u3_1, u3_4, u3_5) := zf.val_eq (fun x => ((sqD dI (cellS x 0 0), sqD dI (cellS x 65 0), sqD dI (cellS x 65 1)), (intA (cellS x 0 1), sqB dI (blkS x 194), intA (aget x.tm 8)))) (fun p => by kernel_rfl) ((u3_0, u3_2, u3_3), (u3_1, u3_4, u3_5))
def Gw (u10_0 _u10_2 u10_3 _u10_4 : Sq Int) (u10_1 : Int) (u10_5 : Sq Int) (u10_6 : Int) : DT (LR (Int × (Sq Int) × Int) (Int × (Sq Int)) (Unit)) :=
 .ite (decide (u10_6 < ((u10_3.n : Nat) : Int))) (
 .ite (decide ((0 : Int) ≤ u10_6 ∧ u10_6 < ((u10_3.n : Nat) : Int))) (
 .bind (ze (qF.mk u10_0 u10_1) (5 : Int)) fun z1 =>
 .ite z1.1 (
 .ite (decide ((u10_5.n + 1) * 8 ≤ 140737488355328 ∧ (u10_5.n + 1) ≤ 1099511627776)) (
 .leaf (.next (z1.2, (Sq.mk (u10_5.n + 1) (fun k2 => (cond (Nat.blt k2 u10_5.n) (u10_5.f k2) (-1 : Int)))), (wr (u10_6 + (1 : Int)))))) (
 .fail)) (
 .ite (decide ((u10_5.n + 1) * 8 ≤ 140737488355328 ∧ (u10_5.n + 1) ≤ 1099511627776)) (
 .leaf (.next (z1.2, (Sq.mk (u10_5.n + 1) (fun k3 => (cond (Nat.blt k3 u10_5.n) (u10_5.f k3) (u10_3.f (Int.toNat u10_6))))), (wr (u10_6 + (1 : Int)))))) (
 .fail))) (
 .fail)) (
 .leaf (.l (u10_1, u10_5)))
def yh : LpM := ⟨(Sq Int) × (Sq Int) × (Sq Int) × (Sq Int), Int × (Sq Int) × Int, Int × (Sq Int), Unit, fun p => ⟨[(0, .ptr 0 0), (5, .ptr 65 0), (6, .ptr 129 0), (7, .ptr 193 0), (10, .int .i64 p.2.2.2)], [(0, .var [sqA 1 (eI .u8) p.1.1, .int .i64 p.2.1]), (65, .var [sqA 1 (eI .i64) p.1.2.1, sqA 1 (eI .i64) p.1.2.2.1]), (129, .var [.own 130 0, .own 131 0]), (130, .nilrow 0), (131, .nilrow 0), (193, .var [.own 194 0, .own 195 0]), (194, rowA 0 1 3 (eI .i64) p.1.2.2.2), (195, rowA 0 1 3 (eI .i64) p.2.2.1)], 385⟩, fun f v => Gw f.1 f.2.1 f.2.2.1 f.2.2.2 v.1 v.2.1 v.2.2, true, (.exit 2), (fun x a => ⟨[(6, .ptr 129 0), (7, .ptr 193 0)], [(0, .var [cellS x 0 0, .int .i64 a.1]), (65, blkS x 65), (129, .var [.own 130 0, .own 131 0]), (130, .nilrow 0), (131, .nilrow 0), (193, .var [.own 194 0, .own 195 0]), (194, blkS x 194), (195, rowA 0 1 3 (eI .i64) a.2)], 385⟩), .ret, (fun _ _ => ⟨[], [], 0⟩), c1, c1k⟩
def NV (u10_0 u10_2 u10_3 u10_4 : Sq Int) (u10_1 : Int) (u10_5 : Sq Int) (u10_6 : Int) : Option ((Int × (Sq Int)) ⊕ (Unit)) := yh.val ((u10_0, u10_2, u10_3, u10_4), (u10_1, u10_5, u10_6))
theorem aeA (u10_0 u10_2 u10_3 u10_4 : Sq Int) (u10_1 : Int) (u10_5 : Sq Int) (u10_6 : Int) : NV u10_0 u10_2 u10_3 u10_4 u10_1 u10_5 u10_6 = fixO (fun v : Int × (Sq Int) × Int => Gw u10_0 u10_2 u10_3 u10_4 v.1 v.2.1 v.2.2) (u10_1, u10_5, u10_6) := yh.val_eq (fun x => ((sqD dI (cellS x 0 0), sqD dI (cellS x 65 0), sqD dI (cellS x 65 1), sqB dI (blkS x 194)), (intA (cellS x 0 1), sqB dI (blkS x 195), intA (aget x.tm 10)))) (fun p => by kernel_rfl) ((u10_0, u10_2, u10_3, u10_4), (u10_1, u10_5, u10_6))
def Te (c : qF) (s : qz) : DT (qz × Int) :=
 .sum (Pw c.l_ s.Fans s.Doors c.at_ (Sq.mk 0 (fun _ => (0 : Int))) (0 : Int)) (fun y0 =>
 .sum (NV c.l_ s.Fans s.Doors y0.2 y0.1 (Sq.mk 0 (fun _ => (0 : Int))) (0 : Int)) (fun y1 =>
 .leaf ((qz.mk y0.2 y1.2), y1.1)) (fun _ => .fail)) (fun _ => .fail)
def yM : FnM := nfM (qF × qz) (qz × Int) (fun p => ([.ptr 0 0, .agg [.any1, .any1, .any1, .any1], .agg (qz.enc p.2)], [.var (qF.enc p.1)])) (fun p => Te p.1 p.2) (fun _ => .agg [.own 1 0, .own 2 0]) (fun ins r => [.var [ql ins 0 0, .int .i64 r.2], rowA 0 1 3 (eI .i64) r.1.Fans, rowA 0 1 3 (eI .i64) r.1.Doors])
def NU : Env := envM [(31, yK.c)] [(3, [0, 5, 6, 7, 8], [0, 5, 6, 7]), (10, [0, 5, 6, 7, 10], [6, 7])] [(3, zf.c), (10, yh.c)] [(1000003, [.asrow 194 3 1 (fun _ => (eI .i64) (0 : Int))]), (1000010, [.asrow 195 3 1 (fun _ => (eI .i64) (0 : Int))])] [(3, [0, 65, 129, 130, 131, 193, 194, 195]), (10, [0, 65, 129, 130, 131, 193, 194, 195])] 1
def Td : Env := { NU with nt := 53 }
theorem Px : aQ Td (qd 3 Tryz.f36) zf.c := zf.tells 321 (fun _ => by kernel_rfl) (fun _ _ _ _ => by kernel_rfl) (fun _ _ _ _ => by kernel_rfl) fun R f v N K => by kernel_rfl
theorem OZ : aQ Td (qd 10 Tryz.f36) yh.c := yh.tells 385 (fun _ => by kernel_rfl) (fun _ _ _ _ => by kernel_rfl) (fun _ _ _ _ => by kernel_rfl) fun R f v N K => by kernel_rfl
theorem VN : aI Tryz.prog 36 yM.c := yM.tells Tryz.func36 (show ∀ p, arun NU Tryz.f36 (yM.enc p).1 (yM.enc p).2 = _ from fun p => by kernel_rfl) (qg [qd 3 Tryz.f36, qd 10 Tryz.f36] (by kernel_rfl) ⟨lpT (by kernel_rfl) Px, ⟨lpT (by kernel_rfl) OZ, trivial⟩⟩) (.cons EO .nil)
def Gv (c : qF) (s : qz) : Option (qz × Int) := yM.val (c, s)
theorem agL (c : qF) (s : qz) : Gv c s = (Te c s).get := yM.val_eq (fun x => (qF.dec (varL (dB x.2 0)), qz.dec (aggL (gd x.1 2)))) (fun p => by kernel_rfl) (c, s)
def Kq (u6_1 : Sq Int) (_u6_4 u6_0 u6_2 : Int) (u6_3 : Sq qA) : DT (LR (Int × Int × (Sq qA)) (Int × (Sq qA)) (Unit)) :=
 .ite (decide (u6_0 > (0 : Int))) (
 .bind (qJ (qF.mk u6_1 u6_2) (100 : Int)) fun z0 =>
 .ite (decide ((u6_3.n + 1) * 16 ≤ 140737488355328 ∧ (u6_3.n + 1) ≤ 1099511627776)) (
 .leaf (.next ((wr (u6_0 - (1 : Int))), z0.2, (Sq.mk (u6_3.n + 1) (fun k0 => (qA.mk (cond (Nat.blt k0 u6_3.n) (u6_3.f k0).Height (wr (0 - z0.1))) (cond (Nat.blt k0 u6_3.n) (u6_3.f k0).Surface false))))))) (
 .fail)) (
 .leaf (.l (u6_2, u6_3)))
def BZ : LpM := ⟨(Sq Int) × Int, Int × Int × (Sq qA), Int × (Sq qA), Unit, fun p => ⟨[(0, .ptr 0 0), (2, .ptr 1 0), (3, .ptr 65 0), (4, .ptr 129 0), (5, .ptr 449 0), (6, .int .i64 p.1.2), (7, .int .i64 p.2.1)], [(0, .var [sqA 1 (eI .u8) p.1.1, .int .i64 p.2.2.1]), (1, .var [.own 2 0, .own 3 0, .own 4 0, .own 5 0]), (2, .nilrow 0), (3, .nilrow 0), (4, .nilrow 0), (5, .nilrow 0), (65, .var [.own 66 0, .own 67 0]), (66, .nilrow 0), (67, .nilrow 0), (129, .var [.own 130 0, .own 131 0]), (130, .nilrow 0), (131, .nilrow 0), (257, rowA 0 2 79 qA.enc p.2.2.2), (322, .nilrow 0), (387, .nilrow 0), (388, .nilrow 0), (449, .var [.own 257 0, .own 322 0, .own 387 0, .own 388 0])], 1793⟩, fun f v => Kq f.1 f.2 v.1 v.2.1 v.2.2, true, (.exit 0), (fun x a => ⟨[(0, .ptr 0 0), (2, .ptr 1 0), (3, .ptr 65 0), (4, .ptr 129 0), (5, .ptr 449 0), (6, aget x.tm 6)], [(0, .var [cellS x 0 0, .int .i64 a.1]), (1, .var [.own 2 0, .own 3 0, .own 4 0, .own 5 0]), (2, .nilrow 0), (3, .nilrow 0), (4, .nilrow 0), (5, .nilrow 0), (65, .var [.own 66 0, .own 67 0]), (66, .nilrow 0), (67, .nilrow 0), (129, .var [.own 130 0, .own 131 0]), (130, .nilrow 0), (131, .nilrow 0), (257, rowA 0 2 79 qA.enc a.2), (322, .nilrow 0), (387, .nilrow 0), (388, .nilrow 0), (449, .var [.own 257 0, .own 322 0, .own 387 0, .own 388 0])], 1793⟩), .ret, (fun _ _ => ⟨[], [], 0⟩), c1, c1k⟩
def M7 (u6_1 : Sq Int) (u6_4 u6_0 u6_2 : Int) (u6_3 : Sq qA) : Option ((Int × (Sq qA)) ⊕ (Unit)) := BZ.val ((u6_1, u6_4), (u6_0, u6_2, u6_3))
theorem af8 (u6_1 : Sq Int) (u6_4 u6_0 u6_2 : Int) (u6_3 : Sq qA) : M7 u6_1 u6_4 u6_0 u6_2 u6_3 = fixO (fun v : Int × Int × (Sq qA) => Kq u6_1 u6_4 v.1 v.2.1 v.2.2) (u6_0, u6_2, u6_3) := BZ.val_eq (fun x => ((sqD dI (cellS x 0 0), intA (aget x.tm 6)), (intA (aget x.tm 7), intA (cellS x 0 1), sqB qA.dec (blkS x 257)))) (fun p => by kernel_rfl) ((u6_1, u6_4), (u6_0, u6_2, u6_3))
def I6 (u12_1 : Sq Int) (u12_3 : Sq qA) (_u12_6 u12_2 : Int) (u12_4 : Sq Int) (u12_5 : Int) : DT (LR (Int × (Sq Int) × Int) (Int × (Sq Int)) (Unit)) :=
 .ite (decide (u12_5 < ((u12_3.n : Nat) : Int))) (
 .bind (qQ (qF.mk u12_1 u12_2) (-4000 : Int) (4000 : Int)) fun z1 =>
 .ite (decide ((0 : Int) ≤ u12_5 ∧ u12_5 < ((u12_4.n : Nat) : Int))) (
 .leaf (.next (z1.2, (Sq.mk u12_4.n (fun k1 => (cond (Nat.beq k1 (Int.toNat u12_5)) z1.1 (u12_4.f k1)))), (wr (u12_5 + (1 : Int)))))) (
 .fail)) (
 .leaf (.l (u12_2, u12_4)))
def AU : LpM := ⟨(Sq Int) × (Sq qA) × Int, Int × (Sq Int) × Int, Int × (Sq Int), Unit, fun p => ⟨[(0, .ptr 0 0), (2, .ptr 1 0), (3, .ptr 65 0), (4, .ptr 129 0), (5, .ptr 449 0), (6, .int .i64 p.1.2.2), (8, .int .i64 ((p.1.2.1.n : Nat) : Int)), (9, .ptr 2305 0), (10, .int .i64 p.2.2.2)], [(0, .var [sqA 1 (eI .u8) p.1.1, .int .i64 p.2.1]), (1, .var [.own 2 0, .own 3 0, .own 4 0, .own 5 0]), (2, .nilrow 0), (3, .nilrow 0), (4, .nilrow 0), (5, .nilrow 0), (65, .var [.own 66 0, .own 67 0]), (66, .nilrow 0), (67, .nilrow 0), (129, .var [.own 130 0, .own 131 0]), (130, .nilrow 0), (131, .nilrow 0), (257, rowA 0 2 79 qA.enc p.1.2.1), (322, .nilrow 0), (387, .nilrow 0), (388, .nilrow 0), (449, .var [.own 257 0, .own 322 0, .own 387 0, .own 388 0]), (2177, rowA 0 1 3 (eI .i64) p.2.2.1), (2242, .nilrow 0), (2305, .var [.own 2177 0, .own 2242 0])], 2561⟩, fun f v => I6 f.1 f.2.1 f.2.2 v.1 v.2.1 v.2.2, true, (.exit 2), (fun x a => ⟨[(0, .ptr 0 0), (2, .ptr 1 0), (3, .ptr 65 0), (4, .ptr 129 0), (5, .ptr 449 0), (6, aget x.tm 6), (8, aget x.tm 8), (9, .ptr 2305 0)], [(0, .var [cellS x 0 0, .int .i64 a.1]), (1, .var [.own 2 0, .own 3 0, .own 4 0, .own 5 0]), (2, .nilrow 0), (3, .nilrow 0), (4, .nilrow 0), (5, .nilrow 0), (65, .var [.own 66 0, .own 67 0]), (66, .nilrow 0), (67, .nilrow 0), (129, .var [.own 130 0, .own 131 0]), (130, .nilrow 0), (131, .nilrow 0), (257, blkS x 257), (322, .nilrow 0), (387, .nilrow 0), (388, .nilrow 0), (449, .var [.own 257 0, .own 322 0, .own 387 0, .own 388 0]), (2177, rowA 0 1 3 (eI .i64) a.2), (2242, .nilrow 0), (2305, .var [.own 2177 0, .own 2242 0])], 2561⟩), .ret, (fun _ _ => ⟨[], [], 0⟩), c1, c1k⟩
def Lf (u12_1 : Sq Int) (u12_3 : Sq qA) (u12_6 u12_2 : Int) (u12_4 : Sq Int) (u12_5 : Int) : Option ((Int × (Sq Int)) ⊕ (Unit)) := AU.val ((u12_1, u12_3, u12_6), (u12_2, u12_4, u12_5))
theorem afn (u12_1 : Sq Int) (u12_3 : Sq qA) (u12_6 u12_2 : Int) (u12_4 : Sq Int) (u12_5 : Int) : Lf u12_1 u12_3 u12_6 u12_2 u12_4 u12_5 = fixO (fun v : Int × (Sq Int) × Int => I6 u12_1 u12_3 u12_6 v.1 v.2.1 v.2.2) (u12_2, u12_4, u12_5) := AU.val_eq (fun x => ((sqD dI (cellS x 0 0), sqB qA.dec (blkS x 257), intA (aget x.tm 6)), (intA (cellS x 0 1), sqB dI (blkS x 2177), intA (aget x.tm 10)))) (fun p => by kernel_rfl) ((u12_1, u12_3, u12_6), (u12_2, u12_4, u12_5))
def I7 (u18_2 : Sq Int) (u18_4 : Sq qA) (_u18_6 : Sq Int) (_u18_9 u18_1 u18_3 : Int) (u18_5 : Sq qC) (u18_7 u18_8 : Sq Int) : DT (LR (Int × Int × (Sq qC) × (Sq Int) × (Sq Int)) (Int × (Sq qC) × (Sq Int) × (Sq Int)) (Unit)) :=
 .ite (decide (u18_1 > (0 : Int))) (
 .bind (qJ (qF.mk u18_2 u18_3) ((u18_4.n : Nat) : Int)) fun z2 =>
 .bind (qJ (qF.mk u18_2 z2.2) (wr (((u18_4.n : Nat) : Int) - (1 : Int)))) fun z3 =>
 .ite (((u18_4.n : Nat) : Int) != 0) (
 .bind (XV (qF.mk u18_2 z3.2) z2.1 (Int.tmod (wr ((wr (z2.1 + (1 : Int))) + z3.1)) ((u18_4.n : Nat) : Int))) fun z4 =>
 .bind (ze (qF.mk u18_2 z4.2) (7 : Int)) fun z5 =>
 .bind (qQ (qF.mk u18_2 z5.2) (-60 : Int) (60 : Int)) fun z6 =>
 .ite z5.1 (
 .ite (decide ((u18_5.n + 1) * 72 ≤ 140737488355328 ∧ (u18_5.n + 1) ≤ 1099511627776)) (
 .ite (decide ((u18_7.n + 1) * 8 ≤ 140737488355328 ∧ (u18_7.n + 1) ≤ 1099511627776)) (
 .ite (decide ((0 : Int) ≤ z4.1.From ∧ z4.1.From < ((u18_8.n : Nat) : Int))) (
 .ite (decide ((0 : Int) ≤ z4.1.From ∧ z4.1.From < ((u18_8.n : Nat) : Int))) (
 .ite (decide ((0 : Int) ≤ z4.1.To ∧ z4.1.To < ((u18_8.n : Nat) : Int))) (
 .ite (decide ((0 : Int) ≤ z4.1.To ∧ z4.1.To < ((u18_8.n : Nat) : Int))) (
 .leaf (.next ((wr (u18_1 - (1 : Int))), z6.2, (Sq.mk (u18_5.n + 1) (fun k2 => (qC.mk (cond (Nat.blt k2 u18_5.n) (u18_5.f k2).From z4.1.From) (cond (Nat.blt k2 u18_5.n) (u18_5.f k2).To z4.1.To) (cond (Nat.blt k2 u18_5.n) (u18_5.f k2).Length z4.1.Length) (cond (Nat.blt k2 u18_5.n) (u18_5.f k2).Area z4.1.Area) (cond (Nat.blt k2 u18_5.n) (u18_5.f k2).Walk z4.1.Walk) (cond (Nat.blt k2 u18_5.n) (u18_5.f k2).Closed z5.1) (qB.mk (cond (Nat.blt k2 u18_5.n) (u18_5.f k2).Rest.Low z4.1.Rest.Low) (cond (Nat.blt k2 u18_5.n) (u18_5.f k2).Rest.High z4.1.Rest.High)) (qB.mk (cond (Nat.blt k2 u18_5.n) (u18_5.f k2).Lift.Low z4.1.Lift.Low) (cond (Nat.blt k2 u18_5.n) (u18_5.f k2).Lift.High z4.1.Lift.High))))), (Sq.mk (u18_7.n + 1) (fun k3 => (cond (Nat.blt k3 u18_7.n) (u18_7.f k3) (0 : Int)))), (Sq.mk u18_8.n (fun k4 => (cond (Nat.beq k4 (Int.toNat z4.1.To)) (wr ((cond (Nat.beq (Int.toNat z4.1.To) (Int.toNat z4.1.From)) (wr ((u18_8.f (Int.toNat z4.1.From)) + (0 : Int))) (u18_8.f (Int.toNat z4.1.To))) - (0 : Int))) (cond (Nat.beq k4 (Int.toNat z4.1.From)) (wr ((u18_8.f (Int.toNat z4.1.From)) + (0 : Int))) (u18_8.f k4)))))))) (
 .fail)) (
 .fail)) (
 .fail)) (
 .fail)) (
 .fail)) (
 .fail)) (
 .ite (decide ((u18_5.n + 1) * 72 ≤ 140737488355328 ∧ (u18_5.n + 1) ≤ 1099511627776)) (
 .ite (decide ((u18_7.n + 1) * 8 ≤ 140737488355328 ∧ (u18_7.n + 1) ≤ 1099511627776)) (
 .ite (decide ((0 : Int) ≤ z4.1.From ∧ z4.1.From < ((u18_8.n : Nat) : Int))) (
 .ite (decide ((0 : Int) ≤ z4.1.From ∧ z4.1.From < ((u18_8.n : Nat) : Int))) (
 .ite (decide ((0 : Int) ≤ z4.1.To ∧ z4.1.To < ((u18_8.n : Nat) : Int))) (
 .ite (decide ((0 : Int) ≤ z4.1.To ∧ z4.1.To < ((u18_8.n : Nat) : Int))) (
 .leaf (.next ((wr (u18_1 - (1 : Int))), z6.2, (Sq.mk (u18_5.n + 1) (fun k5 => (qC.mk (cond (Nat.blt k5 u18_5.n) (u18_5.f k5).From z4.1.From) (cond (Nat.blt k5 u18_5.n) (u18_5.f k5).To z4.1.To) (cond (Nat.blt k5 u18_5.n) (u18_5.f k5).Length z4.1.Length) (cond (Nat.blt k5 u18_5.n) (u18_5.f k5).Area z4.1.Area) (cond (Nat.blt k5 u18_5.n) (u18_5.f k5).Walk z4.1.Walk) (cond (Nat.blt k5 u18_5.n) (u18_5.f k5).Closed z5.1) (qB.mk (cond (Nat.blt k5 u18_5.n) (u18_5.f k5).Rest.Low z4.1.Rest.Low) (cond (Nat.blt k5 u18_5.n) (u18_5.f k5).Rest.High z4.1.Rest.High)) (qB.mk (cond (Nat.blt k5 u18_5.n) (u18_5.f k5).Lift.Low z4.1.Lift.Low) (cond (Nat.blt k5 u18_5.n) (u18_5.f k5).Lift.High z4.1.Lift.High))))), (Sq.mk (u18_7.n + 1) (fun k6 => (cond (Nat.blt k6 u18_7.n) (u18_7.f k6) z6.1))), (Sq.mk u18_8.n (fun k7 => (cond (Nat.beq k7 (Int.toNat z4.1.To)) (wr ((cond (Nat.beq (Int.toNat z4.1.To) (Int.toNat z4.1.From)) (wr ((u18_8.f (Int.toNat z4.1.From)) + z6.1)) (u18_8.f (Int.toNat z4.1.To))) - z6.1)) (cond (Nat.beq k7 (Int.toNat z4.1.From)) (wr ((u18_8.f (Int.toNat z4.1.From)) + z6.1)) (u18_8.f k7)))))))) (
 .fail)) (
 .fail)) (
 .fail)) (
 .fail)) (
 .fail)) (
 .fail))) (
 .fail)) (
 .leaf (.l (u18_3, u18_5, u18_7, u18_8)))
def AY : LpM := ⟨(Sq Int) × (Sq qA) × (Sq Int) × Int, Int × Int × (Sq qC) × (Sq Int) × (Sq Int), Int × (Sq qC) × (Sq Int) × (Sq Int), Unit, fun p => ⟨[(0, .ptr 0 0), (2, .ptr 1 0), (3, .ptr 65 0), (4, .ptr 129 0), (5, .ptr 449 0), (6, .int .i64 p.1.2.2.2), (8, .int .i64 ((p.1.2.1.n : Nat) : Int)), (9, .ptr 2305 0), (11, .own 2625 0), (12, .int .i64 p.2.1)], [(0, .var [sqA 1 (eI .u8) p.1.1, .int .i64 p.2.2.1]), (1, .var [.own 2 0, .own 3 0, .own 4 0, .own 5 0]), (2, .nilrow 0), (3, .nilrow 0), (4, .nilrow 0), (5, .nilrow 0), (65, .var [.own 66 0, .own 67 0]), (66, .nilrow 0), (67, .nilrow 0), (129, .var [.own 130 0, .own 131 0]), (130, .nilrow 0), (131, .nilrow 0), (257, rowA 0 2 79 qA.enc p.1.2.1), (322, rowA 0 10 81 qC.enc p.2.2.2.1), (387, .nilrow 0), (388, .nilrow 0), (449, .var [.own 257 0, .own 322 0, .own 387 0, .own 388 0]), (2177, rowA 0 1 3 (eI .i64) p.1.2.2.1), (2242, rowA 0 1 3 (eI .i64) p.2.2.2.2.1), (2305, .var [.own 2177 0, .own 2242 0]), (2625, rowA 0 1 3 (eI .i64) p.2.2.2.2.2)], 3073⟩, fun f v => I7 f.1 f.2.1 f.2.2.1 f.2.2.2 v.1 v.2.1 v.2.2.1 v.2.2.2.1 v.2.2.2.2, true, (.exit 4), (fun x a => ⟨[(0, .ptr 0 0), (2, .ptr 1 0), (3, .ptr 65 0), (4, .ptr 129 0), (5, .ptr 449 0), (6, aget x.tm 6), (8, aget x.tm 8), (9, .ptr 2305 0), (11, .own 2625 0)], [(0, .var [cellS x 0 0, .int .i64 a.1]), (1, .var [.own 2 0, .own 3 0, .own 4 0, .own 5 0]), (2, .nilrow 0), (3, .nilrow 0), (4, .nilrow 0), (5, .nilrow 0), (65, .var [.own 66 0, .own 67 0]), (66, .nilrow 0), (67, .nilrow 0), (129, .var [.own 130 0, .own 131 0]), (130, .nilrow 0), (131, .nilrow 0), (257, blkS x 257), (322, rowA 0 10 81 qC.enc a.2.1), (387, .nilrow 0), (388, .nilrow 0), (449, .var [.own 257 0, .own 322 0, .own 387 0, .own 388 0]), (2177, blkS x 2177), (2242, rowA 0 1 3 (eI .i64) a.2.2.1), (2305, .var [.own 2177 0, .own 2242 0]), (2625, rowA 0 1 3 (eI .i64) a.2.2.2)], 3073⟩), .ret, (fun _ _ => ⟨[], [], 0⟩), c1, c1k⟩
def Lg (u18_2 : Sq Int) (u18_4 : Sq qA) (u18_6 : Sq Int) (u18_9 u18_1 u18_3 : Int) (u18_5 : Sq qC) (u18_7 u18_8 : Sq Int) : Option ((Int × (Sq qC) × (Sq Int) × (Sq Int)) ⊕ (Unit)) := AY.val ((u18_2, u18_4, u18_6, u18_9), (u18_1, u18_3, u18_5, u18_7, u18_8))
theorem afo (u18_2 : Sq Int) (u18_4 : Sq qA) (u18_6 : Sq Int) (u18_9 u18_1 u18_3 : Int) (u18_5 : Sq qC) (u18_7 u18_8 : Sq Int) : Lg u18_2 u18_4 u18_6 u18_9 u18_1 u18_3 u18_5 u18_7 u18_8 = fixO (fun v : Int × Int × (Sq qC) × (Sq Int) × (Sq Int) => I7 u18_2 u18_4 u18_6 u18_9 v.1 v.2.1 v.2.2.1 v.2.2.2.1 v.2.2.2.2) (u18_1, u18_3, u18_5, u18_7, u18_8) := AY.val_eq (fun x => ((sqD dI (cellS x 0 0), sqB qA.dec (blkS x 257), sqB dI (blkS x 2177), intA (aget x.tm 6)), (intA (aget x.tm 12), intA (cellS x 0 1), sqB qC.dec (blkS x 322), sqB dI (blkS x 2242), sqB dI (blkS x 2625)))) (fun p => by kernel_rfl) ((u18_2, u18_4, u18_6, u18_9), (u18_1, u18_3, u18_5, u18_7, u18_8))
def I8 (u30_1 : Sq Int) (u30_3 : Sq qA) (_u30_5 u30_7 : Sq Int) (u30_9 u30_2 : Int) (u30_4 : Sq qC) (u30_6 : Sq Int) (u30_8 : Int) : DT (LR (Int × (Sq qC) × (Sq Int) × Int) (Int × (Sq qC) × (Sq Int)) (Unit)) :=
 .ite (decide (u30_8 < ((u30_3.n : Nat) : Int))) (
 .bind (qJ (qF.mk u30_1 u30_2) u30_9) fun z7 =>
 .bind (XV (qF.mk u30_1 z7.2) u30_8 z7.1) fun z8 =>
 .ite (decide ((0 : Int) ≤ u30_8 ∧ u30_8 < ((u30_7.n : Nat) : Int))) (
 .bind (ze (qF.mk u30_1 z8.2) (2 : Int)) fun z9 =>
 .ite z9.1 (
 .ite (decide ((u30_4.n + 1) * 72 ≤ 140737488355328 ∧ (u30_4.n + 1) ≤ 1099511627776)) (
 .ite (decide ((u30_6.n + 1) * 8 ≤ 140737488355328 ∧ (u30_6.n + 1) ≤ 1099511627776)) (
 .leaf (.next (z9.2, (Sq.mk (u30_4.n + 1) (fun k8 => (qC.mk (cond (Nat.blt k8 u30_4.n) (u30_4.f k8).From z8.1.To) (cond (Nat.blt k8 u30_4.n) (u30_4.f k8).To z8.1.From) (cond (Nat.blt k8 u30_4.n) (u30_4.f k8).Length z8.1.Length) (cond (Nat.blt k8 u30_4.n) (u30_4.f k8).Area z8.1.Area) (cond (Nat.blt k8 u30_4.n) (u30_4.f k8).Walk z8.1.Walk) (cond (Nat.blt k8 u30_4.n) (u30_4.f k8).Closed z8.1.Closed) (qB.mk (cond (Nat.blt k8 u30_4.n) (u30_4.f k8).Rest.Low z8.1.Rest.Low) (cond (Nat.blt k8 u30_4.n) (u30_4.f k8).Rest.High z8.1.Rest.High)) (qB.mk (cond (Nat.blt k8 u30_4.n) (u30_4.f k8).Lift.Low z8.1.Lift.Low) (cond (Nat.blt k8 u30_4.n) (u30_4.f k8).Lift.High z8.1.Lift.High))))), (Sq.mk (u30_6.n + 1) (fun k9 => (cond (Nat.blt k9 u30_6.n) (u30_6.f k9) (wr (0 - (wr (0 - (u30_7.f (Int.toNat u30_8))))))))), (wr (u30_8 + (1 : Int)))))) (
 .fail)) (
 .fail)) (
 .ite (decide ((u30_4.n + 1) * 72 ≤ 140737488355328 ∧ (u30_4.n + 1) ≤ 1099511627776)) (
 .ite (decide ((u30_6.n + 1) * 8 ≤ 140737488355328 ∧ (u30_6.n + 1) ≤ 1099511627776)) (
 .leaf (.next (z9.2, (Sq.mk (u30_4.n + 1) (fun k10 => (qC.mk (cond (Nat.blt k10 u30_4.n) (u30_4.f k10).From z8.1.From) (cond (Nat.blt k10 u30_4.n) (u30_4.f k10).To z8.1.To) (cond (Nat.blt k10 u30_4.n) (u30_4.f k10).Length z8.1.Length) (cond (Nat.blt k10 u30_4.n) (u30_4.f k10).Area z8.1.Area) (cond (Nat.blt k10 u30_4.n) (u30_4.f k10).Walk z8.1.Walk) (cond (Nat.blt k10 u30_4.n) (u30_4.f k10).Closed z8.1.Closed) (qB.mk (cond (Nat.blt k10 u30_4.n) (u30_4.f k10).Rest.Low z8.1.Rest.Low) (cond (Nat.blt k10 u30_4.n) (u30_4.f k10).Rest.High z8.1.Rest.High)) (qB.mk (cond (Nat.blt k10 u30_4.n) (u30_4.f k10).Lift.Low z8.1.Lift.Low) (cond (Nat.blt k10 u30_4.n) (u30_4.f k10).Lift.High z8.1.Lift.High))))), (Sq.mk (u30_6.n + 1) (fun k11 => (cond (Nat.blt k11 u30_6.n) (u30_6.f k11) (wr (0 - (u30_7.f (Int.toNat u30_8))))))), (wr (u30_8 + (1 : Int)))))) (
 .fail)) (
 .fail))) (
 .fail)) (
 .leaf (.l (u30_2, u30_4, u30_6)))
def AZ : LpM := ⟨(Sq Int) × (Sq qA) × (Sq Int) × (Sq Int) × Int, Int × (Sq qC) × (Sq Int) × Int, Int × (Sq qC) × (Sq Int), Unit, fun p => ⟨[(0, .ptr 0 0), (2, .ptr 1 0), (3, .ptr 65 0), (4, .ptr 129 0), (5, .ptr 449 0), (6, .int .i64 p.1.2.2.2.2), (8, .int .i64 ((p.1.2.1.n : Nat) : Int)), (9, .ptr 2305 0), (11, .own 2625 0), (16, .int .i64 p.2.2.2.2)], [(0, .var [sqA 1 (eI .u8) p.1.1, .int .i64 p.2.1]), (1, .var [.own 2 0, .own 3 0, .own 4 0, .own 5 0]), (2, .nilrow 0), (3, .nilrow 0), (4, .nilrow 0), (5, .nilrow 0), (65, .var [.own 66 0, .own 67 0]), (66, .nilrow 0), (67, .nilrow 0), (129, .var [.own 130 0, .own 131 0]), (130, .nilrow 0), (131, .nilrow 0), (257, rowA 0 2 79 qA.enc p.1.2.1), (322, rowA 0 10 81 qC.enc p.2.2.1), (387, .nilrow 0), (388, .nilrow 0), (449, .var [.own 257 0, .own 322 0, .own 387 0, .own 388 0]), (2177, rowA 0 1 3 (eI .i64) p.1.2.2.1), (2242, rowA 0 1 3 (eI .i64) p.2.2.2.1), (2305, .var [.own 2177 0, .own 2242 0]), (2625, rowA 0 1 3 (eI .i64) p.1.2.2.2.1)], 3201⟩, fun f v => I8 f.1 f.2.1 f.2.2.1 f.2.2.2.1 f.2.2.2.2 v.1 v.2.1 v.2.2.1 v.2.2.2, true, (.exit 6), (fun x a => ⟨[(0, .ptr 0 0), (2, .ptr 1 0), (3, .ptr 65 0), (4, .ptr 129 0), (5, .ptr 449 0), (9, .ptr 2305 0)], [(0, .var [cellS x 0 0, .int .i64 a.1]), (1, .var [.own 2 0, .own 3 0, .own 4 0, .own 5 0]), (2, .nilrow 0), (3, .nilrow 0), (4, .nilrow 0), (5, .nilrow 0), (65, .var [.own 66 0, .own 67 0]), (66, .nilrow 0), (67, .nilrow 0), (129, .var [.own 130 0, .own 131 0]), (130, .nilrow 0), (131, .nilrow 0), (257, blkS x 257), (322, rowA 0 10 81 qC.enc a.2.1), (387, .nilrow 0), (388, .nilrow 0), (449, .var [.own 257 0, .own 322 0, .own 387 0, .own 388 0]), (2177, blkS x 2177), (2242, rowA 0 1 3 (eI .i64) a.2.2), (2305, .var [.own 2177 0, .own 2242 0]), (2625, blkS x 2625)], 3201⟩), .ret, (fun _ _ => ⟨[], [], 0⟩), c1, c1k⟩
def DJ (u30_1 : Sq Int) (u30_3 : Sq qA) (u30_5 u30_7 : Sq Int) (u30_9 u30_2 : Int) (u30_4 : Sq qC) (u30_6 : Sq Int) (u30_8 : Int) : Option ((Int × (Sq qC) × (Sq Int)) ⊕ (Unit)) := AZ.val ((u30_1, u30_3, u30_5, u30_7, u30_9), (u30_2, u30_4, u30_6, u30_8))
theorem afp (u30_1 : Sq Int) (u30_3 : Sq qA) (u30_5 u30_7 : Sq Int) (u30_9 u30_2 : Int) (u30_4 : Sq qC) (u30_6 : Sq Int) (u30_8 : Int) : DJ u30_1 u30_3 u30_5 u30_7 u30_9 u30_2 u30_4 u30_6 u30_8 = fixO (fun v : Int × (Sq qC) × (Sq Int) × Int => I8 u30_1 u30_3 u30_5 u30_7 u30_9 v.1 v.2.1 v.2.2.1 v.2.2.2) (u30_2, u30_4, u30_6, u30_8) := AZ.val_eq (fun x => ((sqD dI (cellS x 0 0), sqB qA.dec (blkS x 257), sqB dI (blkS x 2177), sqB dI (blkS x 2625), intA (aget x.tm 6)), (intA (cellS x 0 1), sqB qC.dec (blkS x 322), sqB dI (blkS x 2242), intA (aget x.tm 16)))) (fun p => by kernel_rfl) ((u30_1, u30_3, u30_5, u30_7, u30_9), (u30_2, u30_4, u30_6, u30_8))
def YO (c : qF) : DT (SAir × qz × yV × Int) :=
 .bind (ze c (3 : Int)) fun z10 =>
 .ite z10.1 (
 .bind (qJ (qF.mk c.l_ z10.2) (5 : Int)) fun z11 =>
 .sum (M7 c.l_ (2 : Int) z11.1 z11.2 (Sq.mk 2 (fun k12 => (qA.mk (cond (Nat.blt k12 1) (0 : Int) (10 : Int)) (cond (Nat.blt k12 1) true true))))) (fun y0 =>
 .ite (decide ((0 : Int) ≤ ((y0.2.n : Nat) : Int) ∧ ((y0.2.n : Nat) : Int) ≤ ((y0.2.n : Nat) : Int) ∧ ((y0.2.n : Nat) : Int) * ((8 : Nat) : Int) ≤ 140737488355328 ∧ ((y0.2.n : Nat) : Int) ≤ 1099511627776)) (
 .sum (Lf c.l_ y0.2 (2 : Int) y0.1 (Sq.mk (Int.toNat ((y0.2.n : Nat) : Int)) (fun _ => (0 : Int))) (2 : Int)) (fun y1 =>
 .ite (decide ((0 : Int) ≤ ((y0.2.n : Nat) : Int) ∧ ((y0.2.n : Nat) : Int) ≤ ((y0.2.n : Nat) : Int) ∧ ((y0.2.n : Nat) : Int) * ((8 : Nat) : Int) ≤ 140737488355328 ∧ ((y0.2.n : Nat) : Int) ≤ 1099511627776)) (
 .ite (decide (((y0.2.n : Nat) : Int) > (1 : Int))) (
 .bind (qJ (qF.mk c.l_ y1.1) (6 : Int)) fun z12 =>
 .sum (Lg c.l_ y0.2 y1.2 (2 : Int) z12.1 z12.2 (Sq.mk 0 (fun _ => (qC.mk (0 : Int) (0 : Int) (0 : Int) (0 : Int) false false (qB.mk (0 : Int) (0 : Int)) (qB.mk (0 : Int) (0 : Int))))) (Sq.mk 0 (fun _ => (0 : Int))) (Sq.mk (Int.toNat ((y0.2.n : Nat) : Int)) (fun _ => (0 : Int)))) (fun y2 =>
 .sum (DJ c.l_ y0.2 y1.2 y2.2.2.2 (2 : Int) y2.1 y2.2.1 y2.2.2.1 (2 : Int)) (fun y3 =>
 .bind (DK (qF.mk c.l_ y3.1) (SAir.mk (qI.mk y0.2 y3.2.1) (Sq.mk 0 (fun _ => (SFan.mk (0 : Int) false false (Sq.mk 0 (fun _ => (qH.mk (0 : Int) (0 : Int))))))) (Sq.mk 0 (fun _ => (qD.mk (0 : Int) (0 : Int) (Sq.mk 0 (fun _ => (0 : Int)))))))) fun z13 =>
 .bind (Py (qF.mk c.l_ z13.2.1) (SAir.mk (qI.mk y0.2 y3.2.1) z13.2.2.1 z13.2.2.2) z13.1 (yV.mk y1.2 y3.2.2)) fun z14 =>
 .bind (Gv (qF.mk c.l_ z14.1) z13.1) fun z15 =>
 .leaf ((SAir.mk (qI.mk y0.2 z14.2) z13.2.2.1 z13.2.2.2), z15.1, (yV.mk y1.2 y3.2.2), z15.2)) (fun _ => .fail)) (fun _ => .fail)) (
 .sum (DJ c.l_ y0.2 y1.2 (Sq.mk (Int.toNat ((y0.2.n : Nat) : Int)) (fun _ => (0 : Int))) (2 : Int) y1.1 (Sq.mk 0 (fun _ => (qC.mk (0 : Int) (0 : Int) (0 : Int) (0 : Int) false false (qB.mk (0 : Int) (0 : Int)) (qB.mk (0 : Int) (0 : Int))))) (Sq.mk 0 (fun _ => (0 : Int))) (2 : Int)) (fun y4 =>
 .bind (DK (qF.mk c.l_ y4.1) (SAir.mk (qI.mk y0.2 y4.2.1) (Sq.mk 0 (fun _ => (SFan.mk (0 : Int) false false (Sq.mk 0 (fun _ => (qH.mk (0 : Int) (0 : Int))))))) (Sq.mk 0 (fun _ => (qD.mk (0 : Int) (0 : Int) (Sq.mk 0 (fun _ => (0 : Int)))))))) fun z16 =>
 .bind (Py (qF.mk c.l_ z16.2.1) (SAir.mk (qI.mk y0.2 y4.2.1) z16.2.2.1 z16.2.2.2) z16.1 (yV.mk y1.2 y4.2.2)) fun z17 =>
 .bind (Gv (qF.mk c.l_ z17.1) z16.1) fun z18 =>
 .leaf ((SAir.mk (qI.mk y0.2 z17.2) z16.2.2.1 z16.2.2.2), z18.1, (yV.mk y1.2 y4.2.2), z18.2)) (fun _ => .fail))) (
 .fail)) (fun _ => .fail)) (
 .fail)) (fun _ => .fail)) (
 .bind (qJ (qF.mk c.l_ z10.2) (5 : Int)) fun z19 =>
 .sum (M7 c.l_ (1 : Int) z19.1 z19.2 (Sq.mk 1 (fun _ => (qA.mk (0 : Int) true)))) (fun y5 =>
 .ite (decide ((0 : Int) ≤ ((y5.2.n : Nat) : Int) ∧ ((y5.2.n : Nat) : Int) ≤ ((y5.2.n : Nat) : Int) ∧ ((y5.2.n : Nat) : Int) * ((8 : Nat) : Int) ≤ 140737488355328 ∧ ((y5.2.n : Nat) : Int) ≤ 1099511627776)) (
 .sum (Lf c.l_ y5.2 (1 : Int) y5.1 (Sq.mk (Int.toNat ((y5.2.n : Nat) : Int)) (fun _ => (0 : Int))) (1 : Int)) (fun y6 =>
 .ite (decide ((0 : Int) ≤ ((y5.2.n : Nat) : Int) ∧ ((y5.2.n : Nat) : Int) ≤ ((y5.2.n : Nat) : Int) ∧ ((y5.2.n : Nat) : Int) * ((8 : Nat) : Int) ≤ 140737488355328 ∧ ((y5.2.n : Nat) : Int) ≤ 1099511627776)) (
 .ite (decide (((y5.2.n : Nat) : Int) > (1 : Int))) (
 .bind (qJ (qF.mk c.l_ y6.1) (6 : Int)) fun z20 =>
 .sum (Lg c.l_ y5.2 y6.2 (1 : Int) z20.1 z20.2 (Sq.mk 0 (fun _ => (qC.mk (0 : Int) (0 : Int) (0 : Int) (0 : Int) false false (qB.mk (0 : Int) (0 : Int)) (qB.mk (0 : Int) (0 : Int))))) (Sq.mk 0 (fun _ => (0 : Int))) (Sq.mk (Int.toNat ((y5.2.n : Nat) : Int)) (fun _ => (0 : Int)))) (fun y7 =>
 .sum (DJ c.l_ y5.2 y6.2 y7.2.2.2 (1 : Int) y7.1 y7.2.1 y7.2.2.1 (1 : Int)) (fun y8 =>
 .bind (DK (qF.mk c.l_ y8.1) (SAir.mk (qI.mk y5.2 y8.2.1) (Sq.mk 0 (fun _ => (SFan.mk (0 : Int) false false (Sq.mk 0 (fun _ => (qH.mk (0 : Int) (0 : Int))))))) (Sq.mk 0 (fun _ => (qD.mk (0 : Int) (0 : Int) (Sq.mk 0 (fun _ => (0 : Int)))))))) fun z21 =>
 .bind (Py (qF.mk c.l_ z21.2.1) (SAir.mk (qI.mk y5.2 y8.2.1) z21.2.2.1 z21.2.2.2) z21.1 (yV.mk y6.2 y8.2.2)) fun z22 =>
 .bind (Gv (qF.mk c.l_ z22.1) z21.1) fun z23 =>
 .leaf ((SAir.mk (qI.mk y5.2 z22.2) z21.2.2.1 z21.2.2.2), z23.1, (yV.mk y6.2 y8.2.2), z23.2)) (fun _ => .fail)) (fun _ => .fail)) (
 .sum (DJ c.l_ y5.2 y6.2 (Sq.mk (Int.toNat ((y5.2.n : Nat) : Int)) (fun _ => (0 : Int))) (1 : Int) y6.1 (Sq.mk 0 (fun _ => (qC.mk (0 : Int) (0 : Int) (0 : Int) (0 : Int) false false (qB.mk (0 : Int) (0 : Int)) (qB.mk (0 : Int) (0 : Int))))) (Sq.mk 0 (fun _ => (0 : Int))) (1 : Int)) (fun y9 =>
 .bind (DK (qF.mk c.l_ y9.1) (SAir.mk (qI.mk y5.2 y9.2.1) (Sq.mk 0 (fun _ => (SFan.mk (0 : Int) false false (Sq.mk 0 (fun _ => (qH.mk (0 : Int) (0 : Int))))))) (Sq.mk 0 (fun _ => (qD.mk (0 : Int) (0 : Int) (Sq.mk 0 (fun _ => (0 : Int)))))))) fun z24 =>
 .bind (Py (qF.mk c.l_ z24.2.1) (SAir.mk (qI.mk y5.2 y9.2.1) z24.2.2.1 z24.2.2.2) z24.1 (yV.mk y6.2 y9.2.2)) fun z25 =>
 .bind (Gv (qF.mk c.l_ z25.1) z24.1) fun z26 =>
 .leaf ((SAir.mk (qI.mk y5.2 z25.2) z24.2.2.1 z24.2.2.2), z26.1, (yV.mk y6.2 y9.2.2), z26.2)) (fun _ => .fail))) (
 .fail)) (fun _ => .fail)) (
 .fail)) (fun _ => .fail))
def uT : FnM := nfM (qF) (SAir × qz × yV × Int) (fun p => ([.ptr 0 0], [.var (qF.enc p)])) (fun p => YO p) (fun r => .tup [.agg [.own 1 0, .own 2 0, .own 3 0, .own 4 0], .agg [.own 5 0, .own 6 0], .agg (yV.enc r.2.2.1)]) (fun ins r => [.var [ql ins 0 0, .int .i64 r.2.2.2], rowA 0 2 79 qA.enc r.1.Mine.Places, rowA 0 10 81 qC.enc r.1.Mine.Roads, rowA 0 4 117 SFan.enc r.1.Fans, rowA 0 3 91 qD.enc r.1.Doors, rowA 0 1 3 (eI .i64) r.2.1.Fans, rowA 0 1 3 (eI .i64) r.2.1.Doors])
def S9 : Env := envM [(31, yK.c), (28, qX.c), (32, tq.c), (33, Ca.c), (34, vN.c), (35, El.c), (36, yM.c)] [(6, [0, 2, 3, 4, 5, 6, 7], [0, 2, 3, 4, 5, 6]), (12, [0, 2, 3, 4, 5, 6, 8, 9, 10], [0, 2, 3, 4, 5, 6, 8, 9]), (18, [0, 2, 3, 4, 5, 6, 8, 9, 11, 12], [0, 2, 3, 4, 5, 6, 8, 9, 11]), (30, [0, 2, 3, 4, 5, 6, 8, 9, 11, 16], [0, 2, 3, 4, 5, 9]), (3000036, [1], [])] [(6, BZ.c), (12, AU.c), (18, AY.c), (30, AZ.c)] [(1000018, [.asrow 2242 3 1 (fun _ => (eI .i64) (0 : Int)), .asrow 322 81 10 (fun _ => qC.enc (qC.mk (0 : Int) (0 : Int) (0 : Int) (0 : Int) false false (qB.mk (0 : Int) (0 : Int)) (qB.mk (0 : Int) (0 : Int))))]), (36, [.asrow 387 117 4 (fun _ => SFan.enc (SFan.mk (0 : Int) false false (Sq.mk 0 (fun _ => (qH.mk (0 : Int) (0 : Int)))))), .asrow 388 91 3 (fun _ => qD.enc (qD.mk (0 : Int) (0 : Int) (Sq.mk 0 (fun _ => (0 : Int)))))]), (37, [.freeze 3265, .freeze 3266, .freeze 2177, .freeze 2242]), (1000030, [.asrow 2242 3 1 (fun _ => (eI .i64) (0 : Int)), .asrow 322 81 10 (fun _ => qC.enc (qC.mk (0 : Int) (0 : Int) (0 : Int) (0 : Int) false false (qB.mk (0 : Int) (0 : Int)) (qB.mk (0 : Int) (0 : Int))))])] [(6, [0, 1, 2, 3, 4, 5, 65, 66, 67, 129, 130, 131, 257, 322, 387, 388, 449]), (12, [0, 1, 2, 3, 4, 5, 65, 66, 67, 129, 130, 131, 257, 322, 387, 388, 449, 2177, 2242, 2305]), (18, [0, 1, 2, 3, 4, 5, 65, 66, 67, 129, 130, 131, 257, 322, 387, 388, 449, 2177, 2242, 2305, 2625]), (30, [0, 1, 2, 3, 4, 5, 65, 66, 67, 129, 130, 131, 257, 322, 387, 388, 449, 2177, 2242, 2305, 2625])] 1
def Ko : Env := { S9 with nt := 189 }
theorem UO : aQ Ko (qd 6 Tryz.f10) BZ.c := BZ.tells 1793 (fun _ => by kernel_rfl) (fun _ _ _ _ => by kernel_rfl) (fun _ _ _ _ => by kernel_rfl) fun R f v N K => by kernel_rfl
theorem RF : aQ Ko (qd 12 Tryz.f10) AU.c := AU.tells 2561 (fun _ => by kernel_rfl) (fun _ _ _ _ => by kernel_rfl) (fun _ _ _ _ => by kernel_rfl) fun R f v N K => by kernel_rfl
theorem RG : aQ Ko (qd 18 Tryz.f10) AY.c := AY.tells 3073 (fun _ => by kernel_rfl) (fun _ _ _ _ => by kernel_rfl) (fun _ _ _ _ => by kernel_rfl) fun R f v N K => by kernel_rfl
theorem RH : aQ Ko (qd 30 Tryz.f10) AZ.c := AZ.tells 3201 (fun _ => by kernel_rfl) (fun _ _ _ _ => by kernel_rfl) (fun _ _ _ _ => by kernel_rfl) fun R f v N K => by kernel_rfl
theorem xZ : aI Tryz.prog 10 uT.c := uT.tells Tryz.func10 (show ∀ p, arun S9 Tryz.f10 (uT.enc p).1 (uT.enc p).2 = _ from fun p => by kernel_rfl) (qg [qd 6 Tryz.f10, qd 12 Tryz.f10, qd 18 Tryz.f10, qd 30 Tryz.f10] (by kernel_rfl) ⟨lpT (by kernel_rfl) UO, ⟨lpT (by kernel_rfl) RF, ⟨lpT (by kernel_rfl) RG, ⟨lpT (by kernel_rfl) RH, trivial⟩⟩⟩⟩) (.cons EO (.cons qW (.cons uW (.cons ZI (.cons RJ (.cons aav (.cons VN .nil)))))))
def F7 (c : qF) : Option (SAir × qz × yV × Int) := uT.val c
theorem ahU (c : qF) : F7 c = (YO c).get := uT.val_eq (fun x => qF.dec (varL (dB x.2 0))) (fun p => by kernel_rfl) c
def aiJ (k n : Int) : DT (Int) :=
 .ite (decide (n < (1 : Int))) (
 .leaf (0 : Int)) (
 .ite (n != 0) (
 .ite (decide ((Int.tmod k n) < (0 : Int))) (.leaf (wr ((Int.tmod k n) + n))) (.leaf (Int.tmod k n))) (
 .fail))
def aeB : FnM := flM (Int × Int) (Int) (fun p => ([.int .i64 p.1, .int .i64 p.2], [])) (fun p => aiJ p.1 p.2) (fun r => .int .i64 r) (fun _ => rfl)
def aiC : Env := envM [] [] [] [] [] 0
theorem agO : aI Tryz.prog 24 aeB.c := aeB.tells Tryz.func24 (show ∀ p, arun aiC Tryz.f24 (aeB.enc p).1 (aeB.enc p).2 = _ from fun p => by kernel_rfl) p8 .nil
def Mod (k n : Int) : Option (Int) := aeB.val (k, n)
theorem aiM (k n : Int) : Mod k n = (aiJ k n).get := aeB.val_eq (fun x => (intA (gd x.1 0), intA (gd x.1 1))) (fun p => by kernel_rfl) (k, n)
def aiK (l : Sq Int) : DT (qF) :=
 .ite (decide ((0 : Int) ≤ (if (300 : Int) < ((l.n : Nat) : Int) then (300 : Int) else ((l.n : Nat) : Int)) ∧ (if (300 : Int) < ((l.n : Nat) : Int) then (300 : Int) else ((l.n : Nat) : Int)) ≤ ((l.n : Nat) : Int))) (.leaf (qF.mk (Sq.mk (Int.toNat (if (300 : Int) < ((l.n : Nat) : Int) then (300 : Int) else ((l.n : Nat) : Int))) l.f) (0 : Int))) (.fail)
def ZK : FnM := nfM ((Sq Int)) (qF) (fun p => ([sqA 1 (eI .u8) p], [])) (fun p => aiK p) (fun _ => .ptr 0 0) (fun _ r => [.var (qF.enc r)])
def aiD : Env := envM [] [] [] [] [] 0
theorem LC : aI Tryz.prog 9 ZK.c := ZK.tells Tryz.func9 (show ∀ p, arun aiD Tryz.f9 (ZK.enc p).1 (ZK.enc p).2 = _ from fun p => by kernel_rfl) p8 .nil
def New (l : Sq Int) : Option (qF) := ZK.val l
theorem aiN (l : Sq Int) : New l = (aiK l).get := ZK.val_eq (fun x => sqD dI (gd x.1 0)) (fun p => by kernel_rfl) l
end
end Go.Proofs.YtimkpfnbkclclaaGreat.Ab
