/- Mirrors of code, stage 12. -/
import Derived.Test.YtmfiagdelnddkaaGreatZn
namespace Go.Proofs.YtmfiagdelnddkaaGreat.Ab
noncomputable section
open Go
attribute [local irreducible] arun
structure ay where
  Height : Int
  Surface : Bool
def ay.enc (x : ay) : List AV := [.int .i64 x.Height, .bool x.Surface]
def ay.dec (l : List AV) : ay := ⟨intA (gd l 0), iR (gd l 1)⟩
structure aK where
  Low : Int
  High : Int
def aK.enc (x : aK) : List AV := [.int .i64 x.Low, .int .i64 x.High]
def aK.dec (l : List AV) : aK := ⟨intA (gd l 0), intA (gd l 1)⟩
structure aB where
  From : Int
  To : Int
  Length : Int
  Area : Int
  Walk : Bool
  Closed : Bool
  Rest : aK
  Lift : aK
def aB.enc (x : aB) : List AV := [.int .i64 x.From, .int .i64 x.To, .int .i64 x.Length, .int .i64 x.Area, .bool x.Walk, .bool x.Closed, .int .i64 x.Rest.Low, .int .i64 x.Rest.High, .int .i64 x.Lift.Low, .int .i64 x.Lift.High]
def aB.dec (l : List AV) : aB := ⟨intA (gd l 0), intA (gd l 1), intA (gd l 2), intA (gd l 3), iR (gd l 4), iR (gd l 5), ⟨intA (gd l 6), intA (gd l 7)⟩, ⟨intA (gd l 8), intA (gd l 9)⟩⟩
structure aL where
  Places : (Sq ay)
  Roads : (Sq aB)
def aL.enc (x : aL) : List AV := [sqA 2 ay.enc x.Places, sqA 10 aB.enc x.Roads]
def aL.dec (l : List AV) : aL := ⟨sqD ay.dec (gd l 0), sqD aB.dec (gd l 1)⟩
structure aM where
  Flow : Int
  Pressure : Int
def aM.enc (x : aM) : List AV := [.int .i64 x.Flow, .int .i64 x.Pressure]
def aM.dec (l : List AV) : aM := ⟨intA (gd l 0), intA (gd l 1)⟩
structure SFan where
  Road : Int
  Back : Bool
  Auxiliary : Bool
  Curve : (Sq aM)
def SFan.enc (x : SFan) : List AV := [.int .i64 x.Road, .bool x.Back, .bool x.Auxiliary, sqA 2 aM.enc x.Curve]
def SFan.dec (l : List AV) : SFan := ⟨intA (gd l 0), iR (gd l 1), iR (gd l 2), sqD aM.dec (gd l 3)⟩
structure aC where
  Road : Int
  Other : Int
  Rests : (Sq Int)
def aC.enc (x : aC) : List AV := [.int .i64 x.Road, .int .i64 x.Other, sqA 1 (eI .i64) x.Rests]
def aC.dec (l : List AV) : aC := ⟨intA (gd l 0), intA (gd l 1), sqD dI (gd l 2)⟩
structure SAir where
  Mine : aL
  Fans : (Sq SFan)
  Doors : (Sq aC)
def SAir.enc (x : SAir) : List AV := [sqA 2 ay.enc x.Mine.Places, sqA 10 aB.enc x.Mine.Roads, sqA 4 SFan.enc x.Fans, sqA 3 aC.enc x.Doors]
def SAir.dec (l : List AV) : SAir := ⟨⟨sqD ay.dec (gd l 0), sqD aB.dec (gd l 1)⟩, sqD SFan.dec (gd l 2), sqD aC.dec (gd l 3)⟩
structure au where
  Fans : (Sq Int)
  Doors : (Sq Int)
def au.enc (x : au) : List AV := [sqA 1 (eI .i64) x.Fans, sqA 1 (eI .i64) x.Doors]
def au.dec (l : List AV) : au := ⟨sqD dI (gd l 0), sqD dI (gd l 1)⟩
structure aU where
  air_ : SAir
  setting_ : au
  pressures_ : (Sq Int)
  place_ : Int
def aU.enc (x : aU) : List AV := [sqA 2 ay.enc x.air_.Mine.Places, sqA 10 aB.enc x.air_.Mine.Roads, sqA 4 SFan.enc x.air_.Fans, sqA 3 aC.enc x.air_.Doors, sqA 1 (eI .i64) x.setting_.Fans, sqA 1 (eI .i64) x.setting_.Doors, sqA 1 (eI .i64) x.pressures_, .int .i64 x.place_]
def aU.dec (l : List AV) : aU := ⟨⟨⟨sqD ay.dec (gd l 0), sqD aB.dec (gd l 1)⟩, sqD SFan.dec (gd l 2), sqD aC.dec (gd l 3)⟩, ⟨sqD dI (gd l 4), sqD dI (gd l 5)⟩, sqD dI (gd l 6), intA (gd l 7)⟩
structure aT where
  Fan : SFan
  state_ : Int
def aT.enc (x : aT) : List AV := [.int .i64 x.Fan.Road, .bool x.Fan.Back, .bool x.Fan.Auxiliary, sqA 2 aM.enc x.Fan.Curve, .int .i64 x.state_]
def aT.dec (l : List AV) : aT := ⟨⟨intA (gd l 0), iR (gd l 1), iR (gd l 2), sqD aM.dec (gd l 3)⟩, intA (gd l 4)⟩
structure aY where
  Road : aB
  blowers_ : (Sq aT)
def aY.enc (x : aY) : List AV := [.int .i64 x.Road.From, .int .i64 x.Road.To, .int .i64 x.Road.Length, .int .i64 x.Road.Area, .bool x.Road.Walk, .bool x.Road.Closed, .int .i64 x.Road.Rest.Low, .int .i64 x.Road.Rest.High, .int .i64 x.Road.Lift.Low, .int .i64 x.Road.Lift.High, sqA 5 aT.enc x.blowers_]
def aY.dec (l : List AV) : aY := ⟨⟨intA (gd l 0), intA (gd l 1), intA (gd l 2), intA (gd l 3), iR (gd l 4), iR (gd l 5), ⟨intA (gd l 6), intA (gd l 7)⟩, ⟨intA (gd l 8), intA (gd l 9)⟩⟩, sqD aT.dec (gd l 10)⟩
structure bM where
  Low : (Sq Int)
  High : (Sq Int)
def bM.enc (x : bM) : List AV := [sqA 1 (eI .i64) x.Low, sqA 1 (eI .i64) x.High]
def bM.dec (l : List AV) : bM := ⟨sqD dI (gd l 0), sqD dI (gd l 1)⟩
structure bg where
  air_ : SAir
  setting_ : au
  pressures_ : (Sq Int)
def bg.enc (x : bg) : List AV := [sqA 2 ay.enc x.air_.Mine.Places, sqA 10 aB.enc x.air_.Mine.Roads, sqA 4 SFan.enc x.air_.Fans, sqA 3 aC.enc x.air_.Doors, sqA 1 (eI .i64) x.setting_.Fans, sqA 1 (eI .i64) x.setting_.Doors, sqA 1 (eI .i64) x.pressures_]
def bg.dec (l : List AV) : bg := ⟨⟨⟨sqD ay.dec (gd l 0), sqD aB.dec (gd l 1)⟩, sqD SFan.dec (gd l 2), sqD aC.dec (gd l 3)⟩, ⟨sqD dI (gd l 4), sqD dI (gd l 5)⟩, sqD dI (gd l 6)⟩
structure aJ where
  l_ : (Sq Int)
  at_ : Int
def aJ.enc (x : aJ) : List AV := [sqA 1 (eI .u8) x.l_, .int .i64 x.at_]
def aJ.dec (l : List AV) : aJ := ⟨sqD dI (gd l 0), intA (gd l 1)⟩
structure dN where
  Pressures : (Sq Int)
  Flows : (Sq Int)
def dN.enc (x : dN) : List AV := [sqA 1 (eI .i64) x.Pressures, sqA 1 (eI .i64) x.Flows]
def dN.dec (l : List AV) : dN := ⟨sqD dI (gd l 0), sqD dI (gd l 1)⟩
def pU (u5_0 : Sq Int) (u5_1 u5_2 : Int) : DT (LR (Int × Int) (Int) (Unit)) :=
 .ite (decide (u5_2 < ((u5_0.n : Nat) : Int))) (
 .ite (decide ((0 : Int) ≤ u5_2 ∧ u5_2 < ((u5_0.n : Nat) : Int))) (
 .leaf (.next ((if (u5_0.f (Int.toNat u5_2)) < u5_1 then (u5_0.f (Int.toNat u5_2)) else u5_1), (wr (u5_2 + (1 : Int)))))) (
 .fail)) (
 .leaf (.l u5_1))
def wR : LpM := ⟨(Sq Int), Int × Int, Int, Unit, fun p => ⟨[(0, sqA 1 (eI .i64) p.1), (3, .int .i64 p.2.1), (4, .int .i64 p.2.2)], [], 704⟩, fun f v => pU f v.1 v.2, true, (.exit 0), (fun _ a => ⟨[(3, .int .i64 a)], [], 704⟩), .ret, (fun _ _ => ⟨[], [], 0⟩), c1, c1k⟩
def Kc (u5_0 : Sq Int) (u5_1 u5_2 : Int) : Option ((Int) ⊕ (Unit)) := wR.val (u5_0, (u5_1, u5_2))
theorem XH (u5_0 : Sq Int) (u5_1 u5_2 : Int) : Kc u5_0 u5_1 u5_2 = fixO (fun v : Int × Int => pU u5_0 v.1 v.2) (u5_1, u5_2) := wR.val_eq (fun x => (sqD dI (aget x.tm 0), (intA (aget x.tm 3), intA (aget x.tm 4)))) (fun p => by kernel_rfl) (u5_0, (u5_1, u5_2))
def NN (x : Sq Int) : DT (Int) :=
 .ite (decide (((x.n : Nat) : Int) < (1 : Int))) (
 .fail) (
 .ite (decide ((0 : Int) ≤ (0 : Int) ∧ (0 : Int) < ((x.n : Nat) : Int))) (
 .sum (Kc x (x.f 0) (1 : Int)) (fun y0 =>
 .leaf y0) (fun _ => .fail)) (
 .fail))
def wS : FnM := flM ((Sq Int)) (Int) (fun p => ([sqA 1 (eI .i64) p], [])) (fun p => NN p) (fun r => .int .i64 r) (fun _ => rfl)
def Qa : Env := envM [] [(5, [0, 3, 4], [3])] [(5, wR.c)] [] [(5, [])] 0
def adR : Env := { Qa with nt := 25 }
theorem Rv : aG adR (aH 5 Tryz.f148) wR.c := wR.tells 704 (fun _ => by kernel_rfl) (fun _ _ _ _ => by kernel_rfl) (fun _ _ _ _ => by kernel_rfl) fun R f v N K => by kernel_rfl
theorem XI : aN Tryz.prog 148 wS.c := wS.tells Tryz.func148 (show ∀ p, arun Qa Tryz.f148 (wS.enc p).1 (wS.enc p).2 = _ from fun p => by kernel_rfl) (bf [aH 5 Tryz.f148] (by kernel_rfl) ⟨lpT (by kernel_rfl) Rv, trivial⟩) .nil
def VG (x : Sq Int) : Option (Int) := wS.val x
theorem acv (x : Sq Int) : VG x = (NN x).get := wS.val_eq (fun x => sqD dI (gd x.1 0)) (fun p => by kernel_rfl) x
def pR (u5_0 : Sq Int) (u5_1 u5_2 : Int) : DT (LR (Int × Int) (Int) (Unit)) :=
 .ite (decide (u5_2 < ((u5_0.n : Nat) : Int))) (
 .ite (decide ((0 : Int) ≤ u5_2 ∧ u5_2 < ((u5_0.n : Nat) : Int))) (
 .leaf (.next ((if u5_1 < (u5_0.f (Int.toNat u5_2)) then (u5_0.f (Int.toNat u5_2)) else u5_1), (wr (u5_2 + (1 : Int)))))) (
 .fail)) (
 .leaf (.l u5_1))
def wP : LpM := ⟨(Sq Int), Int × Int, Int, Unit, fun p => ⟨[(0, sqA 1 (eI .i64) p.1), (3, .int .i64 p.2.1), (4, .int .i64 p.2.2)], [], 704⟩, fun f v => pR f v.1 v.2, true, (.exit 0), (fun _ a => ⟨[(3, .int .i64 a)], [], 704⟩), .ret, (fun _ _ => ⟨[], [], 0⟩), c1, c1k⟩
def Ka (u5_0 : Sq Int) (u5_1 u5_2 : Int) : Option ((Int) ⊕ (Unit)) := wP.val (u5_0, (u5_1, u5_2))
theorem XF (u5_0 : Sq Int) (u5_1 u5_2 : Int) : Ka u5_0 u5_1 u5_2 = fixO (fun v : Int × Int => pR u5_0 v.1 v.2) (u5_1, u5_2) := wP.val_eq (fun x => (sqD dI (aget x.tm 0), (intA (aget x.tm 3), intA (aget x.tm 4)))) (fun p => by kernel_rfl) (u5_0, (u5_1, u5_2))
def NM (x : Sq Int) : DT (Int) :=
 .ite (decide (((x.n : Nat) : Int) < (1 : Int))) (
 .fail) (
 .ite (decide ((0 : Int) ≤ (0 : Int) ∧ (0 : Int) < ((x.n : Nat) : Int))) (
 .sum (Ka x (x.f 0) (1 : Int)) (fun y0 =>
 .leaf y0) (fun _ => .fail)) (
 .fail))
def wQ : FnM := flM ((Sq Int)) (Int) (fun p => ([sqA 1 (eI .i64) p], [])) (fun p => NM p) (fun r => .int .i64 r) (fun _ => rfl)
def P9 : Env := envM [] [(5, [0, 3, 4], [3])] [(5, wP.c)] [] [(5, [])] 0
def adQ : Env := { P9 with nt := 25 }
theorem Ru : aG adQ (aH 5 Tryz.f149) wP.c := wP.tells 704 (fun _ => by kernel_rfl) (fun _ _ _ _ => by kernel_rfl) (fun _ _ _ _ => by kernel_rfl) fun R f v N K => by kernel_rfl
theorem XG : aN Tryz.prog 149 wQ.c := wQ.tells Tryz.func149 (show ∀ p, arun P9 Tryz.f149 (wQ.enc p).1 (wQ.enc p).2 = _ from fun p => by kernel_rfl) (bf [aH 5 Tryz.f149] (by kernel_rfl) ⟨lpT (by kernel_rfl) Ru, trivial⟩) .nil
def VF (x : Sq Int) : Option (Int) := wQ.val x
theorem acu (x : Sq Int) : VF x = (NM x).get := wQ.val_eq (fun x => sqD dI (gd x.1 0)) (fun p => by kernel_rfl) x
def oW (_u7_0 _u7_1 : Int) (u7_2 : Sq Int) (u7_3 u7_4 u7_5 : Int) : DT (LR (Int × Int × Int) (Int × Int) (Unit)) :=
 .ite (decide (u7_4 < ((u7_2.n : Nat) : Int))) (
 .ite (decide ((0 : Int) ≤ u7_4 ∧ u7_4 < ((u7_2.n : Nat) : Int))) (
 .ite (decide ((0 : Int) ≤ u7_4 ∧ u7_4 < ((u7_2.n : Nat) : Int))) (
 .leaf (.next ((if (u7_2.f (Int.toNat u7_4)) < u7_3 then (u7_2.f (Int.toNat u7_4)) else u7_3), (wr (u7_4 + (1 : Int))), (if u7_5 < (u7_2.f (Int.toNat u7_4)) then (u7_2.f (Int.toNat u7_4)) else u7_5)))) (
 .fail)) (
 .fail)) (
 .leaf (.l (u7_3, u7_5)))
def wD : LpM := ⟨Int × Int × (Sq Int), Int × Int × Int, Int × Int, Unit, fun p => ⟨[(2, .ptr 0 0), (4, .ptr 64 0), (5, .ptr 2688 0), (6, .int .i64 p.2.2.1)], [(0, .var [.int .i64 p.1.1, .int .i64 p.1.2.1, sqA 1 (eI .i64) p.1.2.2]), (64, .var [.int .i64 (0 : Int), .int .i64 (0 : Int)]), (2688, .var [.int .i64 p.2.1, .int .i64 p.2.2.2])], 2880⟩, fun f v => oW f.1 f.2.1 f.2.2 v.1 v.2.1 v.2.2, true, (.exit 0), (fun x a => ⟨[(4, .ptr 64 0), (5, .ptr 2688 0)], [(0, blkS x 0), (64, .var [.int .i64 (0 : Int), .int .i64 (0 : Int)]), (2688, .var [.int .i64 a.1, .int .i64 a.2])], 2880⟩), .ret, (fun _ _ => ⟨[], [], 0⟩), c1, c1k⟩
def JI (u7_0 u7_1 : Int) (u7_2 : Sq Int) (u7_3 u7_4 u7_5 : Int) : Option ((Int × Int) ⊕ (Unit)) := wD.val ((u7_0, u7_1, u7_2), (u7_3, u7_4, u7_5))
theorem Xq (u7_0 u7_1 : Int) (u7_2 : Sq Int) (u7_3 u7_4 u7_5 : Int) : JI u7_0 u7_1 u7_2 u7_3 u7_4 u7_5 = fixO (fun v : Int × Int × Int => oW u7_0 u7_1 u7_2 v.1 v.2.1 v.2.2) (u7_3, u7_4, u7_5) := wD.val_eq (fun x => ((intA (cellS x 0 0), intA (cellS x 0 1), sqD dI (cellS x 0 2)), (intA (cellS x 2688 0), intA (aget x.tm 6), intA (cellS x 2688 1)))) (fun p => by kernel_rfl) ((u7_0, u7_1, u7_2), (u7_3, u7_4, u7_5))
def M0 (d : aC) (state : Int) : DT (aK) :=
 .ite (((d.Rests.n : Nat) : Int) == (0 : Int)) (
 .leaf (aK.mk (0 : Int) (0 : Int))) (
 .ite (decide (state < (-1 : Int))) (
 .leaf (aK.mk (0 : Int) (0 : Int))) (
 .ite (decide (state ≥ ((d.Rests.n : Nat) : Int))) (
 .leaf (aK.mk (0 : Int) (0 : Int))) (
 .ite (decide (state ≥ (0 : Int))) (
 .ite (decide ((0 : Int) ≤ state ∧ state < ((d.Rests.n : Nat) : Int))) (
 .ite (decide ((0 : Int) ≤ state ∧ state < ((d.Rests.n : Nat) : Int))) (.leaf (aK.mk (d.Rests.f (Int.toNat state)) (d.Rests.f (Int.toNat state)))) (.fail)) (
 .fail)) (
 .ite (decide ((0 : Int) ≤ (0 : Int) ∧ (0 : Int) < ((d.Rests.n : Nat) : Int))) (
 .ite (decide ((0 : Int) ≤ (0 : Int) ∧ (0 : Int) < ((d.Rests.n : Nat) : Int))) (
 .sum (JI d.Road d.Other d.Rests (d.Rests.f 0) (0 : Int) (d.Rests.f 0)) (fun y0 =>
 .leaf (aK.mk y0.1 y0.2)) (fun _ => .fail)) (
 .fail)) (
 .fail)))))
def rF : FnM := flM (aC × Int) (aK) (fun p => ([.agg (aC.enc p.1), .int .i64 p.2], [])) (fun p => M0 p.1 p.2) (fun r => .agg (aK.enc r)) (fun _ => rfl)
def PX : Env := envM [] [(7, [2, 4, 5, 6], [4, 5])] [(7, wD.c)] [] [(7, [0, 64, 2688])] 0
def adF : Env := { PX with nt := 71 }
theorem Rh : aG adF (aH 7 Tryz.f49) wD.c := wD.tells 2880 (fun _ => by kernel_rfl) (fun _ _ _ _ => by kernel_rfl) (fun _ _ _ _ => by kernel_rfl) fun R f v N K => by kernel_rfl
theorem KG : aN Tryz.prog 49 rF.c := rF.tells Tryz.func49 (show ∀ p, arun PX Tryz.f49 (rF.enc p).1 (rF.enc p).2 = _ from fun p => by kernel_rfl) (bf [aH 7 Tryz.f49] (by kernel_rfl) ⟨lpT (by kernel_rfl) Rh, trivial⟩) .nil
def Oe (d : aC) (state : Int) : Option (aK) := rF.val (d, state)
theorem ab5 (d : aC) (state : Int) : Oe d state = (M0 d state).get := rF.val_eq (fun x => (aC.dec (aggL (gd x.1 0)), intA (gd x.1 1))) (fun p => by kernel_rfl) (d, state)
def Jw (a b : Int) : DT (Int) :=
 .ite (b != 0) (
 .ite (b != 0) (
 .ite (decide ((Int.tmod a b) < (0 : Int))) (.leaf (wr ((wr (Int.tdiv a b)) - (1 : Int)))) (.leaf (wr (Int.tdiv a b)))) (
 .fail)) (
 .fail)
def oU : FnM := flM (Int × Int) (Int) (fun p => ([.int .i64 p.1, .int .i64 p.2], [])) (fun p => Jw p.1 p.2) (fun r => .int .i64 r) (fun _ => rfl)
def Y0 : Env := envM [] [] [] [] [] 0
theorem Hw : aN Tryz.prog 114 oU.c := oU.tells Tryz.func114 (show ∀ p, arun Y0 Tryz.f114 (oU.enc p).1 (oU.enc p).2 = _ from fun p => by kernel_rfl) aP .nil
def DX (a b : Int) : Option (Int) := oU.val (a, b)
theorem aae (a b : Int) : DX a b = (Jw a b).get := oU.val_eq (fun x => (intA (gd x.1 0), intA (gd x.1 1))) (fun p => by kernel_rfl) (a, b)
def MS (a b : Int) : DT (Int) :=
 .bind (DX (wr (0 - a)) b) fun z0 =>
 .leaf (wr (0 - z0))
def wC : FnM := flM (Int × Int) (Int) (fun p => ([.int .i64 p.1, .int .i64 p.2], [])) (fun p => MS p.1 p.2) (fun r => .int .i64 r) (fun _ => rfl)
def aad : Env := envM [(114, oU.c)] [] [] [] [] 0
theorem Xo : aN Tryz.prog 115 wC.c := wC.tells Tryz.func115 (show ∀ p, arun aad Tryz.f115 (wC.enc p).1 (wC.enc p).2 = _ from fun p => by kernel_rfl) aP (.cons Hw .nil)
def Od (a b : Int) : Option (Int) := wC.val (a, b)
theorem ab0 (a b : Int) : Od a b = (MS a b).get := wC.val_eq (fun x => (intA (gd x.1 0), intA (gd x.1 1))) (fun p => by kernel_rfl) (a, b)
def sQ (u7_0 _u7_1 : Int) (_u7_2 _u7_3 : Bool) (u7_4 : Sq aM) (u7_5 : Int) : DT (LR (Int) (Int) (Unit)) :=
 .ite (decide ((0 : Int) ≤ (wr (u7_5 + (1 : Int))) ∧ (wr (u7_5 + (1 : Int))) < ((u7_4.n : Nat) : Int))) (
 .ite (decide ((u7_4.f (Int.toNat (wr (u7_5 + (1 : Int))))).Flow ≤ u7_0)) (
 .leaf (.next (wr (u7_5 + (1 : Int))))) (
 .leaf (.l u7_5))) (
 .fail)
def uj : LpM := ⟨Int × Int × Bool × Bool × (Sq aM), Int, Int, Unit, fun p => ⟨[(1, .int .i64 p.1.1), (2, .ptr 0 0), (4, .ptr 64 0), (6, .int .i64 p.2)], [(0, .var [.int .i64 p.1.2.1, .bool p.1.2.2.1, .bool p.1.2.2.2.1, sqA 2 aM.enc p.1.2.2.2.2]), (64, .var [.int .i64 (0 : Int), .int .i64 (0 : Int)])], 3264⟩, fun f v => sQ f.1 f.2.1 f.2.2.1 f.2.2.2.1 f.2.2.2.2 v, true, (.exit 0), (fun x a => ⟨[(1, aget x.tm 1), (2, .ptr 0 0), (4, .ptr 64 0), (6, .int .i64 a)], [(0, blkS x 0), (64, .var [.int .i64 (0 : Int), .int .i64 (0 : Int)])], 3264⟩), .ret, (fun _ _ => ⟨[], [], 0⟩), c1, c1k⟩
def Gh (u7_0 u7_1 : Int) (u7_2 u7_3 : Bool) (u7_4 : Sq aM) (u7_5 : Int) : Option ((Int) ⊕ (Unit)) := uj.val ((u7_0, u7_1, u7_2, u7_3, u7_4), u7_5)
theorem Ve (u7_0 u7_1 : Int) (u7_2 u7_3 : Bool) (u7_4 : Sq aM) (u7_5 : Int) : Gh u7_0 u7_1 u7_2 u7_3 u7_4 u7_5 = fixO (fun v : Int => sQ u7_0 u7_1 u7_2 u7_3 u7_4 v) u7_5 := uj.val_eq (fun x => ((intA (aget x.tm 1), intA (cellS x 0 0), iR (cellS x 0 1), iR (cellS x 0 2), sqD aM.dec (cellS x 0 3)), intA (aget x.tm 6))) (fun p => by kernel_rfl) ((u7_0, u7_1, u7_2, u7_3, u7_4), u7_5)
def JB (f : SFan) (flow : Int) : DT (aK) :=
 .ite (decide ((0 : Int) ≤ (0 : Int) ∧ (0 : Int) < ((f.Curve.n : Nat) : Int))) (
 .ite (decide (flow ≤ (f.Curve.f 0).Flow)) (
 .ite (decide ((0 : Int) ≤ (0 : Int) ∧ (0 : Int) < ((f.Curve.n : Nat) : Int))) (
 .ite (decide ((0 : Int) ≤ (0 : Int) ∧ (0 : Int) < ((f.Curve.n : Nat) : Int))) (.leaf (aK.mk (f.Curve.f 0).Pressure (f.Curve.f 0).Pressure)) (.fail)) (
 .fail)) (
 .ite (decide ((0 : Int) ≤ (wr (((f.Curve.n : Nat) : Int) - (1 : Int))) ∧ (wr (((f.Curve.n : Nat) : Int) - (1 : Int))) < ((f.Curve.n : Nat) : Int))) (
 .ite (decide (flow ≥ (f.Curve.f (Int.toNat (wr (((f.Curve.n : Nat) : Int) - (1 : Int))))).Flow)) (
 .ite (decide ((0 : Int) ≤ (wr (((f.Curve.n : Nat) : Int) - (1 : Int))) ∧ (wr (((f.Curve.n : Nat) : Int) - (1 : Int))) < ((f.Curve.n : Nat) : Int))) (
 .ite (decide ((0 : Int) ≤ (wr (((f.Curve.n : Nat) : Int) - (1 : Int))) ∧ (wr (((f.Curve.n : Nat) : Int) - (1 : Int))) < ((f.Curve.n : Nat) : Int))) (.leaf (aK.mk (f.Curve.f (Int.toNat (wr (((f.Curve.n : Nat) : Int) - (1 : Int))))).Pressure (f.Curve.f (Int.toNat (wr (((f.Curve.n : Nat) : Int) - (1 : Int))))).Pressure)) (.fail)) (
 .fail)) (
 .sum (Gh flow f.Road f.Back f.Auxiliary f.Curve (0 : Int)) (fun y0 =>
 .ite (decide ((0 : Int) ≤ y0 ∧ y0 < ((f.Curve.n : Nat) : Int))) (
 .ite (decide ((0 : Int) ≤ (wr (y0 + (1 : Int))) ∧ (wr (y0 + (1 : Int))) < ((f.Curve.n : Nat) : Int))) (
 .bind (DX (wr ((wr ((f.Curve.f (Int.toNat (wr (y0 + (1 : Int))))).Pressure - (f.Curve.f (Int.toNat y0)).Pressure)) * (wr (flow - (f.Curve.f (Int.toNat y0)).Flow)))) (wr ((f.Curve.f (Int.toNat (wr (y0 + (1 : Int))))).Flow - (f.Curve.f (Int.toNat y0)).Flow))) fun z0 =>
 .bind (Od (wr ((wr ((f.Curve.f (Int.toNat (wr (y0 + (1 : Int))))).Pressure - (f.Curve.f (Int.toNat y0)).Pressure)) * (wr (flow - (f.Curve.f (Int.toNat y0)).Flow)))) (wr ((f.Curve.f (Int.toNat (wr (y0 + (1 : Int))))).Flow - (f.Curve.f (Int.toNat y0)).Flow))) fun z1 =>
 .leaf (aK.mk (wr ((f.Curve.f (Int.toNat y0)).Pressure + z0)) (wr ((f.Curve.f (Int.toNat y0)).Pressure + z1)))) (
 .fail)) (
 .fail)) (fun _ => .fail))) (
 .fail))) (
 .fail)
def sS : FnM := flM (SFan × Int) (aK) (fun p => ([.agg (SFan.enc p.1), .int .i64 p.2], [])) (fun p => JB p.1 p.2) (fun r => .agg (aK.enc r)) (fun _ => rfl)
def MV : Env := envM [(114, oU.c), (115, wC.c)] [(7, [1, 2, 4, 6], [1, 2, 4, 6])] [(7, uj.c)] [] [(7, [0, 64])] 0
def ab3 : Env := { MV with nt := 106 }
theorem OY : aG ab3 (aH 7 Tryz.f92) uj.c := uj.tells 3264 (fun _ => by kernel_rfl) (fun _ _ _ _ => by kernel_rfl) (fun _ _ _ _ => by kernel_rfl) fun R f v N K => by kernel_rfl
theorem Vf : aN Tryz.prog 92 sS.c := sS.tells Tryz.func92 (show ∀ p, arun MV Tryz.f92 (sS.enc p).1 (sS.enc p).2 = _ from fun p => by kernel_rfl) (bf [aH 7 Tryz.f92] (by kernel_rfl) ⟨lpT (by kernel_rfl) OY, trivial⟩) (.cons Hw (.cons Xo .nil))
def JA (f : SFan) (flow : Int) : Option (aK) := sS.val (f, flow)
theorem aah (f : SFan) (flow : Int) : JA f flow = (JB f flow).get := sS.val_eq (fun x => (SFan.dec (aggL (gd x.1 0)), intA (gd x.1 1))) (fun p => by kernel_rfl) (f, flow)
def Jy (f : SFan) (back : Bool) (flow : Int) : DT (aK) :=
 .ite back (
 .bind (JA f (wr (0 - flow))) fun z0 =>
 .leaf (aK.mk (wr (0 - z0.High)) (wr (0 - z0.Low)))) (
 .bind (JA f flow) fun z1 =>
 .leaf z1)
def sO : FnM := flM (SFan × Bool × Int) (aK) (fun p => ([.agg (SFan.enc p.1), .bool p.2.1, .int .i64 p.2.2], [])) (fun p => Jy p.1 p.2.1 p.2.2) (fun r => .agg (aK.enc r)) (fun _ => rfl)
def Y1 : Env := envM [(92, sS.c)] [] [] [] [] 0
theorem Va : aN Tryz.prog 72 sO.c := sO.tells Tryz.func72 (show ∀ p, arun Y1 Tryz.f72 (sO.enc p).1 (sO.enc p).2 = _ from fun p => by kernel_rfl) aP (.cons Vf .nil)
def A9 (f : SFan) (back : Bool) (flow : Int) : Option (aK) := sO.val (f, back, flow)
theorem aaf (f : SFan) (back : Bool) (flow : Int) : A9 f back flow = (Jy f back flow).get := sO.val_eq (fun x => (SFan.dec (aggL (gd x.1 0)), iR (gd x.1 1), intA (gd x.1 2))) (fun p => by kernel_rfl) (f, back, flow)
def JE (f : SFan) (state flow : Int) : DT (aK) :=
 .ite (state == (0 : Int)) (
 .leaf (aK.mk (0 : Int) (0 : Int))) (
 .ite (state == (1 : Int)) (
 .bind (A9 f f.Back flow) fun z0 =>
 .leaf z0) (
 .ite (state == (2 : Int)) (
 .bind (A9 f (!f.Back) flow) fun z1 =>
 .leaf z1) (
 .bind (A9 f false flow) fun z2 =>
 .bind (A9 f true flow) fun z3 =>
 .leaf (aK.mk (if (0 : Int) < (if z3.Low < z2.Low then z3.Low else z2.Low) then (0 : Int) else (if z3.Low < z2.Low then z3.Low else z2.Low)) (if (if z2.High < z3.High then z3.High else z2.High) < (0 : Int) then (0 : Int) else (if z2.High < z3.High then z3.High else z2.High))))))
def oV : FnM := flM (SFan × Int × Int) (aK) (fun p => ([.agg (SFan.enc p.1), .int .i64 p.2.1, .int .i64 p.2.2], [])) (fun p => JE p.1 p.2.1 p.2.2) (fun r => .agg (aK.enc r)) (fun _ => rfl)
def Y2 : Env := envM [(72, sO.c)] [] [] [] [] 0
theorem Hy : aN Tryz.prog 50 oV.c := oV.tells Tryz.func50 (show ∀ p, arun Y2 Tryz.f50 (oV.enc p).1 (oV.enc p).2 = _ from fun p => by kernel_rfl) aP (.cons Va .nil)
def JC (f : SFan) (state flow : Int) : Option (aK) := oV.val (f, state, flow)
theorem aai (f : SFan) (state flow : Int) : JC f state flow = (JE f state flow).get := oV.val_eq (fun x => (SFan.dec (aggL (gd x.1 0)), intA (gd x.1 1), intA (gd x.1 2))) (fun p => by kernel_rfl) (f, state, flow)
def Ll (c : aJ) (n : Int) : DT (Int × Int) :=
 .ite (decide (n < (1 : Int))) (
 .leaf ((0 : Int), c.at_)) (
 .ite (decide (c.at_ ≥ ((c.l_.n : Nat) : Int))) (
 .leaf ((0 : Int), c.at_)) (
 .ite (decide ((0 : Int) ≤ (wr ((wr (c.at_ + (1 : Int))) - (1 : Int))) ∧ (wr ((wr (c.at_ + (1 : Int))) - (1 : Int))) < ((c.l_.n : Nat) : Int))) (
 .ite (decide (n > (256 : Int))) (
 .ite (decide ((wr (c.at_ + (1 : Int))) < ((c.l_.n : Nat) : Int))) (
 .ite (decide ((0 : Int) ≤ (wr (c.at_ + (1 : Int))) ∧ (wr (c.at_ + (1 : Int))) < ((c.l_.n : Nat) : Int))) (
 .ite (n != 0) (.leaf ((Int.tmod (wr ((wr ((wr (c.l_.f (Int.toNat (wr ((wr (c.at_ + (1 : Int))) - (1 : Int)))))) * (256 : Int))) + (wr (c.l_.f (Int.toNat (wr (c.at_ + (1 : Int)))))))) n), (wr ((wr (c.at_ + (1 : Int))) + (1 : Int))))) (.fail)) (
 .fail)) (
 .ite (n != 0) (.leaf ((Int.tmod (wr (c.l_.f (Int.toNat (wr ((wr (c.at_ + (1 : Int))) - (1 : Int)))))) n), (wr (c.at_ + (1 : Int))))) (.fail))) (
 .ite (n != 0) (.leaf ((Int.tmod (wr (c.l_.f (Int.toNat (wr ((wr (c.at_ + (1 : Int))) - (1 : Int)))))) n), (wr (c.at_ + (1 : Int))))) (.fail))) (
 .fail)))
def gu : FnM := nfM (aJ × Int) (Int × Int) (fun p => ([.ptr 0 0, .int .i64 p.2], [.var (aJ.enc p.1)])) (fun p => Ll p.1 p.2) (fun r => .int .i64 r.1) (fun ins r => [.var [R8 ins 0 0, .int .i64 r.2]])
def Zx : Env := envM [] [] [] [] [] 1
theorem jq : aN Tryz.prog 28 gu.c := gu.tells Tryz.func28 (show ∀ p, arun Zx Tryz.f28 (gu.enc p).1 (gu.enc p).2 = _ from fun p => by kernel_rfl) aP .nil
def bq (c : aJ) (n : Int) : Option (Int × Int) := gu.val (c, n)
theorem abe (c : aJ) (n : Int) : bq c n = (Ll c n).get := gu.val_eq (fun x => (aJ.dec (varL (dB x.2 0)), intA (gd x.1 1))) (fun p => by kernel_rfl) (c, n)
def Qf (c : aJ) (n : Int) : DT (Bool × Int) :=
 .bind (bq c n) fun z0 =>
 .leaf ((z0.1 == (wr (n - (1 : Int)))), z0.2)
def rV : FnM := nfM (aJ × Int) (Bool × Int) (fun p => ([.ptr 0 0, .int .i64 p.2], [.var (aJ.enc p.1)])) (fun p => Qf p.1 p.2) (fun r => .bool r.1) (fun ins r => [.var [R8 ins 0 0, .int .i64 r.2]])
def abf : Env := envM [(28, gu.c)] [] [] [] [] 1
theorem Db : aN Tryz.prog 27 rV.c := rV.tells Tryz.func27 (show ∀ p, arun abf Tryz.f27 (rV.enc p).1 (rV.enc p).2 = _ from fun p => by kernel_rfl) aP (.cons jq .nil)
def zA (c : aJ) (n : Int) : Option (Bool × Int) := rV.val (c, n)
theorem acJ (c : aJ) (n : Int) : zA c n = (Qf c n).get := rV.val_eq (fun x => (aJ.dec (varL (dB x.2 0)), intA (gd x.1 1))) (fun p => by kernel_rfl) (c, n)
def Io (c : aJ) (low high : Int) : DT (Int × Int) :=
 .bind (bq c (wr ((wr (high - low)) + (1 : Int)))) fun z0 =>
 .leaf ((wr (low + z0.1)), z0.2)
def iT : FnM := nfM (aJ × Int × Int) (Int × Int) (fun p => ([.ptr 0 0, .int .i64 p.2.1, .int .i64 p.2.2], [.var (aJ.enc p.1)])) (fun p => Io p.1 p.2.1 p.2.2) (fun r => .int .i64 r.1) (fun ins r => [.var [R8 ins 0 0, .int .i64 r.2]])
def XW : Env := envM [(28, gu.c)] [] [] [] [] 1
theorem qB : aN Tryz.prog 29 iT.c := iT.tells Tryz.func29 (show ∀ p, arun XW Tryz.f29 (iT.enc p).1 (iT.enc p).2 = _ from fun p => by kernel_rfl) aP (.cons jq .nil)
def iw (c : aJ) (low high : Int) : Option (Int × Int) := iT.val (c, low, high)
theorem Zy (c : aJ) (low high : Int) : iw c low high = (Io c low high).get := iT.val_eq (fun x => (aJ.dec (varL (dB x.2 0)), intA (gd x.1 1), intA (gd x.1 2))) (fun p => by kernel_rfl) (c, low, high)
def Lm (c : aJ) (from_ to_ : Int) : DT (aB × Int) :=
 .bind (iw c (1 : Int) (400 : Int)) fun z0 =>
 .bind (iw (aJ.mk c.l_ z0.2) (4 : Int) (30 : Int)) fun z1 =>
 .bind (bq (aJ.mk c.l_ z1.2) (4 : Int)) fun z2 =>
 .bind (iw (aJ.mk c.l_ z2.2) (1 : Int) (20 : Int)) fun z3 =>
 .bind (bq (aJ.mk c.l_ z3.2) (3 : Int)) fun z4 =>
 .bind (iw (aJ.mk c.l_ z4.2) (-300 : Int) (300 : Int)) fun z5 =>
 .bind (bq (aJ.mk c.l_ z5.2) (20 : Int)) fun z6 =>
 .leaf ((aB.mk from_ to_ z0.1 z1.1 (decide (z2.1 > (0 : Int))) false (aK.mk z3.1 (wr (z3.1 + z4.1))) (aK.mk z5.1 (wr (z5.1 + z6.1)))), z6.2)
def vL : FnM := nfM (aJ × Int × Int) (aB × Int) (fun p => ([.ptr 0 0, .int .i64 p.2.1, .int .i64 p.2.2], [.var (aJ.enc p.1)])) (fun p => Lm p.1 p.2.1 p.2.2) (fun r => .agg (aB.enc r.1)) (fun ins r => [.var [R8 ins 0 0, .int .i64 r.2]])
def Zz : Env := envM [(29, iT.c), (28, gu.c)] [] [] [] [] 1
theorem Wn : aN Tryz.prog 30 vL.c := vL.tells Tryz.func30 (show ∀ p, arun Zz Tryz.f30 (vL.enc p).1 (vL.enc p).2 = _ from fun p => by kernel_rfl) aP (.cons qB (.cons jq .nil))
def NS (c : aJ) (from_ to_ : Int) : Option (aB × Int) := vL.val (c, from_, to_)
theorem abg (c : aJ) (from_ to_ : Int) : NS c from_ to_ = (Lm c from_ to_).get := vL.val_eq (fun x => (aJ.dec (varL (dB x.2 0)), intA (gd x.1 1), intA (gd x.1 2))) (fun p => by kernel_rfl) (c, from_, to_)
def rO (u3_1 : Sq Int) (u3_0 u3_2 : Int) (u3_3 : Sq aM) : DT (LR (Int × Int × (Sq aM)) (Int × (Sq aM)) (Unit)) :=
 .ite (decide (u3_0 > (0 : Int))) (
 .ite (decide ((0 : Int) ≤ (wr (((u3_3.n : Nat) : Int) - (1 : Int))) ∧ (wr (((u3_3.n : Nat) : Int) - (1 : Int))) < ((u3_3.n : Nat) : Int))) (
 .bind (iw (aJ.mk u3_1 u3_2) (1 : Int) (40 : Int)) fun z0 =>
 .bind (bq (aJ.mk u3_1 z0.2) (900 : Int)) fun z1 =>
 .ite (decide ((u3_3.n + 1) * 16 ≤ 140737488355328 ∧ (u3_3.n + 1) ≤ 1099511627776)) (
 .leaf (.next ((wr (u3_0 - (1 : Int))), z1.2, (Sq.mk (u3_3.n + 1) (fun k0 => (aM.mk (cond (Nat.blt k0 u3_3.n) (u3_3.f k0).Flow (wr ((u3_3.f (Int.toNat (wr (((u3_3.n : Nat) : Int) - (1 : Int))))).Flow + z0.1))) (cond (Nat.blt k0 u3_3.n) (u3_3.f k0).Pressure (if (0 : Int) < (wr ((u3_3.f (Int.toNat (wr (((u3_3.n : Nat) : Int) - (1 : Int))))).Pressure - z1.1)) then (wr ((u3_3.f (Int.toNat (wr (((u3_3.n : Nat) : Int) - (1 : Int))))).Pressure - z1.1)) else (0 : Int))))))))) (
 .fail)) (
 .fail)) (
 .leaf (.l (u3_2, u3_3)))
def tN : LpM := ⟨(Sq Int), Int × Int × (Sq aM), Int × (Sq aM), Unit, fun p => ⟨[(0, .ptr 0 0), (3, .own 385 0), (4, .int .i64 p.2.1)], [(0, .var [sqA 1 (eI .u8) p.1, .int .i64 p.2.2.1]), (385, rowA 0 2 122 aM.enc p.2.2.2)], 705⟩, fun f v => rO f v.1 v.2.1 v.2.2, true, (.exit 0), (fun x a => ⟨[(3, .own 385 0)], [(0, .var [cellS x 0 0, .int .i64 a.1]), (385, rowA 0 2 122 aM.enc a.2)], 705⟩), .ret, (fun _ _ => ⟨[], [], 0⟩), c1, c1k⟩
def Pq (u3_1 : Sq Int) (u3_0 u3_2 : Int) (u3_3 : Sq aM) : Option ((Int × (Sq aM)) ⊕ (Unit)) := tN.val (u3_1, (u3_0, u3_2, u3_3))
theorem Ua (u3_1 : Sq Int) (u3_0 u3_2 : Int) (u3_3 : Sq aM) : Pq u3_1 u3_0 u3_2 u3_3 = fixO (fun v : Int × Int × (Sq aM) => rO u3_1 v.1 v.2.1 v.2.2) (u3_0, u3_2, u3_3) := tN.val_eq (fun x => (sqD dI (cellS x 0 0), (intA (aget x.tm 4), intA (cellS x 0 1), sqB aM.dec (blkS x 385)))) (fun p => by kernel_rfl) (u3_1, (u3_0, u3_2, u3_3))
def Im (c : aJ) : DT ((Sq aM) × Int) :=
 .bind (iw c (-20 : Int) (10 : Int)) fun z2 =>
 .bind (iw (aJ.mk c.l_ z2.2) (500 : Int) (3000 : Int)) fun z3 =>
 .bind (bq (aJ.mk c.l_ z3.2) (4 : Int)) fun z4 =>
 .sum (Pq c.l_ z4.1 z4.2 (Sq.mk 1 (fun _ => (aM.mk z2.1 z3.1)))) (fun y0 =>
 .leaf (y0.2, y0.1)) (fun _ => .fail)
def rP : FnM := nfM (aJ) ((Sq aM) × Int) (fun p => ([.ptr 0 0], [.var (aJ.enc p)])) (fun p => Im p) (fun _ => .own 1 0) (fun ins r => [.var [R8 ins 0 0, .int .i64 r.2], rowA 0 2 122 aM.enc r.1])
def Lh : Env := envM [(29, iT.c), (28, gu.c)] [(3, [0, 3, 4], [3])] [(3, tN.c)] [] [(3, [0, 385])] 1
def aa8 : Env := { Lh with nt := 40 }
theorem Om : aG aa8 (aH 3 Tryz.f47) tN.c := tN.tells 705 (fun _ => by kernel_rfl) (fun _ _ _ _ => by kernel_rfl) (fun _ _ _ _ => by kernel_rfl) fun R f v N K => by kernel_rfl
theorem Ub : aN Tryz.prog 47 rP.c := rP.tells Tryz.func47 (show ∀ p, arun Lh Tryz.f47 (rP.enc p).1 (rP.enc p).2 = _ from fun p => by kernel_rfl) (bf [aH 3 Tryz.f47] (by kernel_rfl) ⟨lpT (by kernel_rfl) Om, trivial⟩) (.cons qB (.cons jq .nil))
def Qc (c : aJ) : Option ((Sq aM) × Int) := rP.val c
theorem Zv (c : aJ) : Qc c = (Im c).get := rP.val_eq (fun x => aJ.dec (varL (dB x.2 0))) (fun p => by kernel_rfl) c
def uT (u3_1 : Sq Int) (_u3_4 u3_0 u3_2 : Int) (u3_3 : Sq Int) : DT (LR (Int × Int × (Sq Int)) (Int × (Sq Int)) (Unit)) :=
 .ite (decide (u3_0 > (0 : Int))) (
 .ite (decide ((0 : Int) ≤ (wr (((u3_3.n : Nat) : Int) - (1 : Int))) ∧ (wr (((u3_3.n : Nat) : Int) - (1 : Int))) < ((u3_3.n : Nat) : Int))) (
 .bind (iw (aJ.mk u3_1 u3_2) (1 : Int) (60 : Int)) fun z0 =>
 .ite (decide ((u3_3.n + 1) * 8 ≤ 140737488355328 ∧ (u3_3.n + 1) ≤ 1099511627776)) (
 .leaf (.next ((wr (u3_0 - (1 : Int))), z0.2, (Sq.mk (u3_3.n + 1) (fun k0 => (cond (Nat.blt k0 u3_3.n) (u3_3.f k0) (if (0 : Int) < (wr ((u3_3.f (Int.toNat (wr (((u3_3.n : Nat) : Int) - (1 : Int))))) - z0.1)) then (wr ((u3_3.f (Int.toNat (wr (((u3_3.n : Nat) : Int) - (1 : Int))))) - z0.1)) else (0 : Int)))))))) (
 .fail)) (
 .fail)) (
 .leaf (.l (u3_2, u3_3)))
def vH : LpM := ⟨(Sq Int) × Int, Int × Int × (Sq Int), Int × (Sq Int), Unit, fun p => ⟨[(0, .ptr 0 0), (4, .ptr 1 0), (5, .ptr 385 0), (6, .int .i64 p.2.1)], [(0, .var [sqA 1 (eI .u8) p.1.1, .int .i64 p.2.2.1]), (1, .var [.int .i64 (0 : Int), .int .i64 (0 : Int), .own 2 0]), (2, .nilrow 0), (257, rowA 0 1 3 (eI .i64) p.2.2.2), (385, .var [.int .i64 p.1.2, .int .i64 (-1 : Int), .own 257 0])], 705⟩, fun f v => uT f.1 f.2 v.1 v.2.1 v.2.2, true, (.exit 0), (fun x a => ⟨[(4, .ptr 1 0), (5, .ptr 385 0)], [(0, .var [cellS x 0 0, .int .i64 a.1]), (1, .var [.int .i64 (0 : Int), .int .i64 (0 : Int), .own 2 0]), (2, .nilrow 0), (257, rowA 0 1 3 (eI .i64) a.2), (385, blkS x 385)], 705⟩), .ret, (fun _ _ => ⟨[], [], 0⟩), c1, c1k⟩
def Rx (u3_1 : Sq Int) (u3_4 u3_0 u3_2 : Int) (u3_3 : Sq Int) : Option ((Int × (Sq Int)) ⊕ (Unit)) := vH.val ((u3_1, u3_4), (u3_0, u3_2, u3_3))
theorem Wj (u3_1 : Sq Int) (u3_4 u3_0 u3_2 : Int) (u3_3 : Sq Int) : Rx u3_1 u3_4 u3_0 u3_2 u3_3 = fixO (fun v : Int × Int × (Sq Int) => uT u3_1 u3_4 v.1 v.2.1 v.2.2) (u3_0, u3_2, u3_3) := vH.val_eq (fun x => ((sqD dI (cellS x 0 0), intA (cellS x 385 0)), (intA (aget x.tm 6), intA (cellS x 0 1), sqB dI (blkS x 257)))) (fun p => by kernel_rfl) ((u3_1, u3_4), (u3_0, u3_2, u3_3))
def Li (c : aJ) (road : Int) : DT (aC × Int) :=
 .bind (iw c (200 : Int) (900 : Int)) fun z1 =>
 .bind (iw (aJ.mk c.l_ z1.2) (1 : Int) (3 : Int)) fun z2 =>
 .sum (Rx c.l_ road z2.1 z2.2 (Sq.mk 1 (fun _ => z1.1))) (fun y0 =>
 .leaf ((aC.mk road (-1 : Int) y0.2), y0.1)) (fun _ => .fail)
def vI : FnM := nfM (aJ × Int) (aC × Int) (fun p => ([.ptr 0 0, .int .i64 p.2], [.var (aJ.enc p.1)])) (fun p => Li p.1 p.2) (fun r => .agg [.int .i64 r.1.Road, .int .i64 r.1.Other, .own 1 0]) (fun ins r => [.var [R8 ins 0 0, .int .i64 r.2], rowA 0 1 3 (eI .i64) r.1.Rests])
def Pt : Env := envM [(29, iT.c)] [(3, [0, 4, 5, 6], [4, 5])] [(3, vH.c)] [] [(3, [0, 1, 2, 257, 385])] 1
def acI : Env := { Pt with nt := 36 }
theorem Qd : aG acI (aH 3 Tryz.f48) vH.c := vH.tells 705 (fun _ => by kernel_rfl) (fun _ _ _ _ => by kernel_rfl) (fun _ _ _ _ => by kernel_rfl) fun R f v N K => by kernel_rfl
theorem Wl : aN Tryz.prog 48 vI.c := vI.tells Tryz.func48 (show ∀ p, arun Pt Tryz.f48 (vI.enc p).1 (vI.enc p).2 = _ from fun p => by kernel_rfl) (bf [aH 3 Tryz.f48] (by kernel_rfl) ⟨lpT (by kernel_rfl) Qd, trivial⟩) (.cons qB .nil)
def Uc (c : aJ) (road : Int) : Option (aC × Int) := vI.val (c, road)
theorem aa9 (c : aJ) (road : Int) : Uc c road = (Li c road).get := vI.val_eq (fun x => (aJ.dec (varL (dB x.2 0)), intA (gd x.1 1))) (fun p => by kernel_rfl) (c, road)
def nU (u4_2 : Sq Int) (_u4_4 : Sq ay) (u4_5 : Sq aB) (_u4_7 : Sq aC) (u4_1 u4_3 : Int) (u4_6 : Sq SFan) (u4_8 : Sq Int) : DT (LR (Int × Int × (Sq SFan) × (Sq Int)) (Int × (Sq SFan) × (Sq Int)) (Unit)) :=
 .ite (decide (u4_1 > (0 : Int))) (
 .ite (decide (((u4_5.n : Nat) : Int) > (0 : Int))) (
 .bind (bq (aJ.mk u4_2 u4_3) ((u4_5.n : Nat) : Int)) fun z0 =>
 .bind (zA (aJ.mk u4_2 z0.2) (3 : Int)) fun z1 =>
 .bind (zA (aJ.mk u4_2 z1.2) (3 : Int)) fun z2 =>
 .bind (Qc (aJ.mk u4_2 z2.2)) fun z3 =>
 .ite (decide ((u4_6.n + 1) * 40 ≤ 140737488355328 ∧ (u4_6.n + 1) ≤ 1099511627776)) (
 .bind (bq (aJ.mk u4_2 z3.2) (3 : Int)) fun z4 =>
 .ite (decide ((u4_8.n + 1) * 8 ≤ 140737488355328 ∧ (u4_8.n + 1) ≤ 1099511627776)) (
 .leaf (.next ((wr (u4_1 - (1 : Int))), z4.2, (Sq.mk (u4_6.n + 1) (fun k0 => (SFan.mk (cond (Nat.blt k0 u4_6.n) (u4_6.f k0).Road z0.1) (cond (Nat.blt k0 u4_6.n) (u4_6.f k0).Back z1.1) (cond (Nat.blt k0 u4_6.n) (u4_6.f k0).Auxiliary z2.1) (Sq.mk (cond (Nat.blt k0 u4_6.n) (u4_6.f k0).Curve.n z3.1.n) (fun k1 => (aM.mk (cond (Nat.blt k0 u4_6.n) ((u4_6.f k0).Curve.f k1).Flow (z3.1.f k1).Flow) (cond (Nat.blt k0 u4_6.n) ((u4_6.f k0).Curve.f k1).Pressure (z3.1.f k1).Pressure))))))), (Sq.mk (u4_8.n + 1) (fun k2 => (cond (Nat.blt k2 u4_8.n) (u4_8.f k2) z4.1)))))) (
 .fail)) (
 .fail)) (
 .leaf (.l (u4_3, u4_6, u4_8)))) (
 .leaf (.l (u4_3, u4_6, u4_8)))
def mK : LpM := ⟨(Sq Int) × (Sq ay) × (Sq aB) × (Sq aC), Int × Int × (Sq SFan) × (Sq Int), Int × (Sq SFan) × (Sq Int), Unit, fun p => ⟨[(0, .ptr 0 0), (1, .ptr 1 0), (4, .ptr 6 0), (5, .ptr 70 0), (6, .int .i64 ((p.1.2.2.1.n : Nat) : Int)), (7, .int .i64 p.2.1)], [(0, .var [sqA 1 (eI .u8) p.1.1, .int .i64 p.2.2.1]), (1, .var [.own 2 0, .own 3 0, .own 4 1, .own 5 0]), (2, rowA 0 2 61 ay.enc p.1.2.1), (3, rowA 0 10 70 aB.enc p.1.2.2.1), (4, rowA 1 4 73 SFan.enc p.2.2.2.1), (5, rowA 0 3 91 aC.enc p.1.2.2.2), (6, .var [.own 7 0, .own 8 0]), (7, .nilrow 0), (8, .nilrow 0), (70, .var [.own 71 0, .own 72 0]), (71, rowA 0 1 3 (eI .i64) p.2.2.2.2), (72, .nilrow 0)], 774⟩, fun f v => nU f.1 f.2.1 f.2.2.1 f.2.2.2 v.1 v.2.1 v.2.2.1 v.2.2.2, true, (.exit 0), (fun x a => ⟨[(0, .ptr 0 0), (1, .ptr 1 0), (4, .ptr 6 0), (5, .ptr 70 0), (6, aget x.tm 6)], [(0, .var [cellS x 0 0, .int .i64 a.1]), (1, .var [.own 2 0, .own 3 0, .own 4 1, .own 5 0]), (2, blkS x 2), (3, blkS x 3), (4, rowA 1 4 73 SFan.enc a.2.1), (5, blkS x 5), (6, .var [.own 7 0, .own 8 0]), (7, .nilrow 0), (8, .nilrow 0), (70, .var [.own 71 0, .own 72 0]), (71, rowA 0 1 3 (eI .i64) a.2.2), (72, .nilrow 0)], 774⟩), .ret, (fun _ _ => ⟨[], [], 0⟩), c1, c1k⟩
def GL (u4_2 : Sq Int) (u4_4 : Sq ay) (u4_5 : Sq aB) (u4_7 : Sq aC) (u4_1 u4_3 : Int) (u4_6 : Sq SFan) (u4_8 : Sq Int) : Option ((Int × (Sq SFan) × (Sq Int)) ⊕ (Unit)) := mK.val ((u4_2, u4_4, u4_5, u4_7), (u4_1, u4_3, u4_6, u4_8))
theorem Ou (u4_2 : Sq Int) (u4_4 : Sq ay) (u4_5 : Sq aB) (u4_7 : Sq aC) (u4_1 u4_3 : Int) (u4_6 : Sq SFan) (u4_8 : Sq Int) : GL u4_2 u4_4 u4_5 u4_7 u4_1 u4_3 u4_6 u4_8 = fixO (fun v : Int × Int × (Sq SFan) × (Sq Int) => nU u4_2 u4_4 u4_5 u4_7 v.1 v.2.1 v.2.2.1 v.2.2.2) (u4_1, u4_3, u4_6, u4_8) := mK.val_eq (fun x => ((sqD dI (cellS x 0 0), sqB ay.dec (blkS x 2), sqB aB.dec (blkS x 3), sqB aC.dec (blkS x 5)), (intA (aget x.tm 7), intA (cellS x 0 1), sqB SFan.dec (blkS x 4), sqB dI (blkS x 71)))) (fun p => by kernel_rfl) ((u4_2, u4_4, u4_5, u4_7), (u4_1, u4_3, u4_6, u4_8))
def nV (u9_2 : Sq Int) (_u9_4 : Sq ay) (u9_5 : Sq aB) (_u9_6 : Sq SFan) (_u9_8 : Sq Int) (u9_1 u9_3 : Int) (u9_7 : Sq aC) (u9_9 : Sq Int) : DT (LR (Int × Int × (Sq aC) × (Sq Int)) (Int × (Sq aC) × (Sq Int)) (Unit)) :=
 .ite (decide (u9_1 > (0 : Int))) (
 .ite (decide (((u9_5.n : Nat) : Int) > (0 : Int))) (
 .bind (bq (aJ.mk u9_2 u9_3) ((u9_5.n : Nat) : Int)) fun z5 =>
 .bind (Uc (aJ.mk u9_2 z5.2) z5.1) fun z6 =>
 .ite (decide ((u9_7.n + 1) * 40 ≤ 140737488355328 ∧ (u9_7.n + 1) ≤ 1099511627776)) (
 .bind (bq (aJ.mk u9_2 z6.2) ((z6.1.Rests.n : Nat) : Int)) fun z7 =>
 .ite (decide ((u9_9.n + 1) * 8 ≤ 140737488355328 ∧ (u9_9.n + 1) ≤ 1099511627776)) (
 .leaf (.next ((wr (u9_1 - (1 : Int))), z7.2, (Sq.mk (u9_7.n + 1) (fun k3 => (aC.mk (cond (Nat.blt k3 u9_7.n) (u9_7.f k3).Road z6.1.Road) (cond (Nat.blt k3 u9_7.n) (u9_7.f k3).Other z6.1.Other) (Sq.mk (cond (Nat.blt k3 u9_7.n) (u9_7.f k3).Rests.n z6.1.Rests.n) (fun k4 => (cond (Nat.blt k3 u9_7.n) ((u9_7.f k3).Rests.f k4) (z6.1.Rests.f k4))))))), (Sq.mk (u9_9.n + 1) (fun k5 => (cond (Nat.blt k5 u9_9.n) (u9_9.f k5) z7.1)))))) (
 .fail)) (
 .fail)) (
 .leaf (.l (u9_3, u9_7, u9_9)))) (
 .leaf (.l (u9_3, u9_7, u9_9)))
def mM : LpM := ⟨(Sq Int) × (Sq ay) × (Sq aB) × (Sq SFan) × (Sq Int), Int × Int × (Sq aC) × (Sq Int), Int × (Sq aC) × (Sq Int), Unit, fun p => ⟨[(0, .ptr 0 0), (1, .ptr 1 0), (4, .ptr 6 0), (5, .ptr 70 0), (6, .int .i64 ((p.1.2.2.1.n : Nat) : Int)), (8, .int .i64 p.2.1)], [(0, .var [sqA 1 (eI .u8) p.1.1, .int .i64 p.2.2.1]), (1, .var [.own 2 0, .own 3 0, .own 4 1, .own 5 1]), (2, rowA 0 2 61 ay.enc p.1.2.1), (3, rowA 0 10 70 aB.enc p.1.2.2.1), (4, rowA 1 4 73 SFan.enc p.1.2.2.2.1), (5, rowA 1 3 91 aC.enc p.2.2.2.1), (6, .var [.own 7 0, .own 8 0]), (7, .nilrow 0), (8, .nilrow 0), (70, .var [.own 71 0, .own 72 0]), (71, rowA 0 1 3 (eI .i64) p.1.2.2.2.2), (72, rowA 0 1 3 (eI .i64) p.2.2.2.2)], 966⟩, fun f v => nV f.1 f.2.1 f.2.2.1 f.2.2.2.1 f.2.2.2.2 v.1 v.2.1 v.2.2.1 v.2.2.2, true, (.exit 2), (fun x a => ⟨[(4, .ptr 6 0), (5, .ptr 70 0)], [(0, .var [cellS x 0 0, .int .i64 a.1]), (1, .var [.own 2 0, .own 3 0, .own 4 1, .own 5 1]), (2, blkS x 2), (3, blkS x 3), (4, blkS x 4), (5, rowA 1 3 91 aC.enc a.2.1), (6, .var [.own 7 0, .own 8 0]), (7, .nilrow 0), (8, .nilrow 0), (70, .var [.own 71 0, .own 72 0]), (71, blkS x 71), (72, rowA 0 1 3 (eI .i64) a.2.2)], 966⟩), .ret, (fun _ _ => ⟨[], [], 0⟩), c1, c1k⟩
def GN (u9_2 : Sq Int) (u9_4 : Sq ay) (u9_5 : Sq aB) (u9_6 : Sq SFan) (u9_8 : Sq Int) (u9_1 u9_3 : Int) (u9_7 : Sq aC) (u9_9 : Sq Int) : Option ((Int × (Sq aC) × (Sq Int)) ⊕ (Unit)) := mM.val ((u9_2, u9_4, u9_5, u9_6, u9_8), (u9_1, u9_3, u9_7, u9_9))
theorem Ov (u9_2 : Sq Int) (u9_4 : Sq ay) (u9_5 : Sq aB) (u9_6 : Sq SFan) (u9_8 : Sq Int) (u9_1 u9_3 : Int) (u9_7 : Sq aC) (u9_9 : Sq Int) : GN u9_2 u9_4 u9_5 u9_6 u9_8 u9_1 u9_3 u9_7 u9_9 = fixO (fun v : Int × Int × (Sq aC) × (Sq Int) => nV u9_2 u9_4 u9_5 u9_6 u9_8 v.1 v.2.1 v.2.2.1 v.2.2.2) (u9_1, u9_3, u9_7, u9_9) := mM.val_eq (fun x => ((sqD dI (cellS x 0 0), sqB ay.dec (blkS x 2), sqB aB.dec (blkS x 3), sqB SFan.dec (blkS x 4), sqB dI (blkS x 71)), (intA (aget x.tm 8), intA (cellS x 0 1), sqB aC.dec (blkS x 5), sqB dI (blkS x 72)))) (fun p => by kernel_rfl) ((u9_2, u9_4, u9_5, u9_6, u9_8), (u9_1, u9_3, u9_7, u9_9))
def BD (c : aJ) (a : SAir) : DT (au × Int × (Sq SFan) × (Sq aC)) :=
 .bind (bq c (3 : Int)) fun z8 =>
 .sum (GL c.l_ a.Mine.Places a.Mine.Roads a.Doors z8.1 z8.2 a.Fans (Sq.mk 0 (fun _ => (0 : Int)))) (fun y0 =>
 .bind (bq (aJ.mk c.l_ y0.1) (3 : Int)) fun z9 =>
 .sum (GN c.l_ a.Mine.Places a.Mine.Roads y0.2.1 y0.2.2 z9.1 z9.2 a.Doors (Sq.mk 0 (fun _ => (0 : Int)))) (fun y1 =>
 .leaf ((au.mk y0.2.2 y1.2.2), y1.1, y0.2.1, y1.2.1)) (fun _ => .fail)) (fun _ => .fail)
def kR : FnM := nfM (aJ × SAir) (au × Int × (Sq SFan) × (Sq aC)) (fun p => ([.ptr 0 0, .ptr 1 0], [.var (aJ.enc p.1), .var [.own 2 0, .own 3 0, .own 4 0, .own 5 0], rowA 0 2 61 ay.enc p.2.Mine.Places, rowA 0 10 70 aB.enc p.2.Mine.Roads, rowA 0 4 73 SFan.enc p.2.Fans, rowA 0 3 91 aC.enc p.2.Doors])) (fun p => BD p.1 p.2) (fun _ => .agg [.own 6 0, .own 7 0]) (fun ins r => [.var [R8 ins 0 0, .int .i64 r.2.1], .var [R8 ins 1 0, R8 ins 1 1, .own 4 1, .own 5 1], dB ins 2, dB ins 3, rowA 1 4 73 SFan.enc r.2.2.1, rowA 1 3 91 aC.enc r.2.2.2, rowA 0 1 3 (eI .i64) r.1.Fans, rowA 0 1 3 (eI .i64) r.1.Doors])
def EZ : Env := envM [(28, gu.c), (27, rV.c), (47, rP.c), (48, vI.c)] [(4, [0, 1, 4, 5, 6, 7], [0, 1, 4, 5, 6]), (9, [0, 1, 4, 5, 6, 8], [4, 5])] [(4, mK.c), (9, mM.c)] [(1000004, [.asrow 71 3 1 (fun _ => (eI .i64) (0 : Int))]), (12, [.freeze 1606]), (1000009, [.asrow 72 3 1 (fun _ => (eI .i64) (0 : Int))])] [(4, [0, 1, 2, 3, 4, 5, 6, 7, 8, 70, 71, 72]), (9, [0, 1, 2, 3, 4, 5, 6, 7, 8, 70, 71, 72]), (4000004, [4]), (4000009, [5])] 6
def Ku : Env := { EZ with nt := 88 }
theorem Iq : aG Ku (aH 4 Tryz.f31) mK.c := mK.tells 774 (fun _ => by kernel_rfl) (fun _ _ _ _ => by kernel_rfl) (fun _ _ _ _ => by kernel_rfl) fun R f v N K => by kernel_rfl
theorem Ir : aG Ku (aH 9 Tryz.f31) mM.c := mM.tells 966 (fun _ => by kernel_rfl) (fun _ _ _ _ => by kernel_rfl) (fun _ _ _ _ => by kernel_rfl) fun R f v N K => by kernel_rfl
theorem Ow : aN Tryz.prog 31 kR.c := kR.tells Tryz.func31 (show ∀ p, arun EZ Tryz.f31 (kR.enc p).1 (kR.enc p).2 = _ from fun p => by kernel_rfl) (bf [aH 4 Tryz.f31, aH 9 Tryz.f31] (by kernel_rfl) ⟨lpT (by kernel_rfl) Iq, ⟨lpT (by kernel_rfl) Ir, trivial⟩⟩) (.cons jq (.cons Db (.cons Ub (.cons Wl .nil))))
def jW (c : aJ) (a : SAir) : Option (au × Int × (Sq SFan) × (Sq aC)) := kR.val (c, a)
theorem Ug (c : aJ) (a : SAir) : jW c a = (BD c a).get := kR.val_eq (fun x => (aJ.dec (varL (dB x.2 0)), ⟨⟨sqB ay.dec (dB x.2 2), sqB aB.dec (dB x.2 3)⟩, sqB SFan.dec (dB x.2 4), sqB aC.dec (dB x.2 5)⟩)) (fun p => by kernel_rfl) (c, a)
def qD (_u8_0 : Int) (_u8_2 : Sq Int) (_u8_3 : Int) (_u8_4 : Sq ay) (_u8_5 : Sq aB) (_u8_6 : Sq SFan) (u8_7 : Sq aC) (_u8_8 u8_9 _u8_10 _u8_11 : Sq Int) (u8_13 : Int) (_u8_14 : Nat) (u8_1 u8_12 : Int) : DT (LR (Int × Int) (Int) (Unit)) :=
 .ite (decide (u8_12 < ((u8_7.n : Nat) : Int))) (
 .ite (decide ((0 : Int) ≤ u8_12 ∧ u8_12 < ((u8_7.n : Nat) : Int))) (
 .ite ((u8_7.f (Int.toNat u8_12)).Road == u8_13) (
 .ite (decide ((0 : Int) ≤ u8_12 ∧ u8_12 < ((u8_7.n : Nat) : Int))) (
 .ite (decide ((0 : Int) ≤ u8_12 ∧ u8_12 < ((u8_9.n : Nat) : Int))) (
 .bind (Oe (u8_7.f (Int.toNat u8_12)) (u8_9.f (Int.toNat u8_12))) fun z0 =>
 .leaf (.next ((wr (u8_1 + z0.Low)), (wr (u8_12 + (1 : Int)))))) (
 .fail)) (
 .fail)) (
 .leaf (.next (u8_1, (wr (u8_12 + (1 : Int))))))) (
 .fail)) (
 .leaf (.l u8_1))
def yh : LpM := ⟨Int × (Sq Int) × Int × (Sq ay) × (Sq aB) × (Sq SFan) × (Sq aC) × (Sq Int) × (Sq Int) × (Sq Int) × (Sq Int) × Int × Nat, Int × Int, Int, Unit, fun p => ⟨[(0, .ptr 0 0), (1, .ptr 1 0), (6, .ptr 6 0), (7, .ptr 70 0), (8, .int .i64 p.1.2.2.2.2.2.2.2.2.2.2.2.1), (9, .rptr 3 0 10 p.1.2.2.2.2.2.2.2.2.2.2.2.2 0), (10, .int .i64 p.1.1), (11, .int .i64 p.2.1), (12, .int .i64 p.2.2)], [(0, .var [sqA 1 (eI .u8) p.1.2.1, .int .i64 p.1.2.2.1]), (1, .var [.own 2 0, .own 3 0, .own 4 0, .own 5 0]), (2, rowA 0 2 61 ay.enc p.1.2.2.2.1), (3, rowA 0 10 70 aB.enc p.1.2.2.2.2.1), (4, rowA 0 4 73 SFan.enc p.1.2.2.2.2.2.1), (5, rowA 0 3 91 aC.enc p.1.2.2.2.2.2.2.1), (6, .var [sqA 1 (eI .i64) p.1.2.2.2.2.2.2.2.1, sqA 1 (eI .i64) p.1.2.2.2.2.2.2.2.2.1]), (70, .var [sqA 1 (eI .i64) p.1.2.2.2.2.2.2.2.2.2.1, sqA 1 (eI .i64) p.1.2.2.2.2.2.2.2.2.2.2.1])], 3014⟩, fun f v => qD f.1 f.2.1 f.2.2.1 f.2.2.2.1 f.2.2.2.2.1 f.2.2.2.2.2.1 f.2.2.2.2.2.2.1 f.2.2.2.2.2.2.2.1 f.2.2.2.2.2.2.2.2.1 f.2.2.2.2.2.2.2.2.2.1 f.2.2.2.2.2.2.2.2.2.2.1 f.2.2.2.2.2.2.2.2.2.2.2.1 f.2.2.2.2.2.2.2.2.2.2.2.2 v.1 v.2, true, (.exit 2), (fun x a => ⟨[(0, .ptr 0 0), (1, .ptr 1 0), (6, .ptr 6 0), (7, .ptr 70 0), (8, aget x.tm 8), (9, aget x.tm 9), (10, aget x.tm 10), (11, .int .i64 a)], [(0, blkS x 0), (1, .var [.own 2 0, .own 3 0, .own 4 0, .own 5 0]), (2, blkS x 2), (3, blkS x 3), (4, blkS x 4), (5, blkS x 5), (6, blkS x 6), (70, blkS x 70)], 3014⟩), .ret, (fun _ _ => ⟨[], [], 0⟩), c1, c1k⟩
def Lu (u8_0 : Int) (u8_2 : Sq Int) (u8_3 : Int) (u8_4 : Sq ay) (u8_5 : Sq aB) (u8_6 : Sq SFan) (u8_7 : Sq aC) (u8_8 u8_9 u8_10 u8_11 : Sq Int) (u8_13 : Int) (u8_14 : Nat) (u8_1 u8_12 : Int) : Option ((Int) ⊕ (Unit)) := yh.val ((u8_0, u8_2, u8_3, u8_4, u8_5, u8_6, u8_7, u8_8, u8_9, u8_10, u8_11, u8_13, u8_14), (u8_1, u8_12))
theorem X3 (u8_0 : Int) (u8_2 : Sq Int) (u8_3 : Int) (u8_4 : Sq ay) (u8_5 : Sq aB) (u8_6 : Sq SFan) (u8_7 : Sq aC) (u8_8 u8_9 u8_10 u8_11 : Sq Int) (u8_13 : Int) (u8_14 : Nat) (u8_1 u8_12 : Int) : Lu u8_0 u8_2 u8_3 u8_4 u8_5 u8_6 u8_7 u8_8 u8_9 u8_10 u8_11 u8_13 u8_14 u8_1 u8_12 = fixO (fun v : Int × Int => qD u8_0 u8_2 u8_3 u8_4 u8_5 u8_6 u8_7 u8_8 u8_9 u8_10 u8_11 u8_13 u8_14 v.1 v.2) (u8_1, u8_12) := yh.val_eq (fun x => ((intA (aget x.tm 10), sqD dI (cellS x 0 0), intA (cellS x 0 1), sqB ay.dec (blkS x 2), sqB aB.dec (blkS x 3), sqB SFan.dec (blkS x 4), sqB aC.dec (blkS x 5), sqD dI (cellS x 6 0), sqD dI (cellS x 6 1), sqD dI (cellS x 70 0), sqD dI (cellS x 70 1), intA (aget x.tm 8), akV (aget x.tm 9)), (intA (aget x.tm 11), intA (aget x.tm 12)))) (fun p => by kernel_rfl) ((u8_0, u8_2, u8_3, u8_4, u8_5, u8_6, u8_7, u8_8, u8_9, u8_10, u8_11, u8_13, u8_14), (u8_1, u8_12))
def oH (u14_0 : Int) (_u14_2 : Sq Int) (_u14_3 : Int) (_u14_4 : Sq ay) (_u14_5 : Sq aB) (u14_6 : Sq SFan) (_u14_7 : Sq aC) (u14_8 _u14_9 _u14_10 _u14_11 : Sq Int) (u14_13 : Int) (_u14_14 : Nat) (u14_1 u14_12 : Int) : DT (LR (Int × Int) (Int) (Unit)) :=
 .ite (decide (u14_12 < ((u14_6.n : Nat) : Int))) (
 .ite (decide ((0 : Int) ≤ u14_12 ∧ u14_12 < ((u14_6.n : Nat) : Int))) (
 .ite ((u14_6.f (Int.toNat u14_12)).Road == u14_13) (
 .ite (decide ((0 : Int) ≤ u14_12 ∧ u14_12 < ((u14_6.n : Nat) : Int))) (
 .ite (decide ((0 : Int) ≤ u14_12 ∧ u14_12 < ((u14_8.n : Nat) : Int))) (
 .bind (JC (u14_6.f (Int.toNat u14_12)) (u14_8.f (Int.toNat u14_12)) u14_0) fun z1 =>
 .leaf (.next ((wr (u14_1 - z1.Low)), (wr (u14_12 + (1 : Int)))))) (
 .fail)) (
 .fail)) (
 .leaf (.next (u14_1, (wr (u14_12 + (1 : Int))))))) (
 .fail)) (
 .leaf (.l u14_1))
def vM : LpM := ⟨Int × (Sq Int) × Int × (Sq ay) × (Sq aB) × (Sq SFan) × (Sq aC) × (Sq Int) × (Sq Int) × (Sq Int) × (Sq Int) × Int × Nat, Int × Int, Int, Unit, fun p => ⟨[(0, .ptr 0 0), (1, .ptr 1 0), (6, .ptr 6 0), (7, .ptr 70 0), (8, .int .i64 p.1.2.2.2.2.2.2.2.2.2.2.2.1), (9, .rptr 3 0 10 p.1.2.2.2.2.2.2.2.2.2.2.2.2 0), (10, .int .i64 p.1.1), (13, .int .i64 p.2.1), (14, .int .i64 p.2.2)], [(0, .var [sqA 1 (eI .u8) p.1.2.1, .int .i64 p.1.2.2.1]), (1, .var [.own 2 0, .own 3 0, .own 4 0, .own 5 0]), (2, rowA 0 2 61 ay.enc p.1.2.2.2.1), (3, rowA 0 10 70 aB.enc p.1.2.2.2.2.1), (4, rowA 0 4 73 SFan.enc p.1.2.2.2.2.2.1), (5, rowA 0 3 91 aC.enc p.1.2.2.2.2.2.2.1), (6, .var [sqA 1 (eI .i64) p.1.2.2.2.2.2.2.2.1, sqA 1 (eI .i64) p.1.2.2.2.2.2.2.2.2.1]), (70, .var [sqA 1 (eI .i64) p.1.2.2.2.2.2.2.2.2.2.1, sqA 1 (eI .i64) p.1.2.2.2.2.2.2.2.2.2.2.1])], 4806⟩, fun f v => oH f.1 f.2.1 f.2.2.1 f.2.2.2.1 f.2.2.2.2.1 f.2.2.2.2.2.1 f.2.2.2.2.2.2.1 f.2.2.2.2.2.2.2.1 f.2.2.2.2.2.2.2.2.1 f.2.2.2.2.2.2.2.2.2.1 f.2.2.2.2.2.2.2.2.2.2.1 f.2.2.2.2.2.2.2.2.2.2.2.1 f.2.2.2.2.2.2.2.2.2.2.2.2 v.1 v.2, true, (.exit 4), (fun x a => ⟨[(0, .ptr 0 0), (1, .ptr 1 0), (6, .ptr 6 0), (7, .ptr 70 0), (8, aget x.tm 8), (9, aget x.tm 9), (13, .int .i64 a)], [(0, blkS x 0), (1, .var [.own 2 0, .own 3 0, .own 4 0, .own 5 0]), (2, blkS x 2), (3, blkS x 3), (4, blkS x 4), (5, blkS x 5), (6, blkS x 6), (70, blkS x 70)], 4806⟩), .ret, (fun _ _ => ⟨[], [], 0⟩), c1, c1k⟩
def Iu (u14_0 : Int) (u14_2 : Sq Int) (u14_3 : Int) (u14_4 : Sq ay) (u14_5 : Sq aB) (u14_6 : Sq SFan) (u14_7 : Sq aC) (u14_8 u14_9 u14_10 u14_11 : Sq Int) (u14_13 : Int) (u14_14 : Nat) (u14_1 u14_12 : Int) : Option ((Int) ⊕ (Unit)) := vM.val ((u14_0, u14_2, u14_3, u14_4, u14_5, u14_6, u14_7, u14_8, u14_9, u14_10, u14_11, u14_13, u14_14), (u14_1, u14_12))
theorem Wq (u14_0 : Int) (u14_2 : Sq Int) (u14_3 : Int) (u14_4 : Sq ay) (u14_5 : Sq aB) (u14_6 : Sq SFan) (u14_7 : Sq aC) (u14_8 u14_9 u14_10 u14_11 : Sq Int) (u14_13 : Int) (u14_14 : Nat) (u14_1 u14_12 : Int) : Iu u14_0 u14_2 u14_3 u14_4 u14_5 u14_6 u14_7 u14_8 u14_9 u14_10 u14_11 u14_13 u14_14 u14_1 u14_12 = fixO (fun v : Int × Int => oH u14_0 u14_2 u14_3 u14_4 u14_5 u14_6 u14_7 u14_8 u14_9 u14_10 u14_11 u14_13 u14_14 v.1 v.2) (u14_1, u14_12) := vM.val_eq (fun x => ((intA (aget x.tm 10), sqD dI (cellS x 0 0), intA (cellS x 0 1), sqB ay.dec (blkS x 2), sqB aB.dec (blkS x 3), sqB SFan.dec (blkS x 4), sqB aC.dec (blkS x 5), sqD dI (cellS x 6 0), sqD dI (cellS x 6 1), sqD dI (cellS x 70 0), sqD dI (cellS x 70 1), intA (aget x.tm 8), akV (aget x.tm 9)), (intA (aget x.tm 13), intA (aget x.tm 14)))) (fun p => by kernel_rfl) ((u14_0, u14_2, u14_3, u14_4, u14_5, u14_6, u14_7, u14_8, u14_9, u14_10, u14_11, u14_13, u14_14), (u14_1, u14_12))
def wX (u2_0 : Sq Int) (u2_2 : Sq ay) (u2_4 : Sq SFan) (u2_5 : Sq aC) (u2_6 u2_7 u2_8 u2_9 : Sq Int) (u2_1 : Int) (u2_3 : Sq aB) (u2_10 : Int) : DT (LR (Int × (Sq aB) × Int) (Int × (Sq aB)) (Unit)) :=
 .ite (decide (u2_10 < ((u2_3.n : Nat) : Int))) (
 .ite (decide ((0 : Int) ≤ u2_10 ∧ u2_10 < ((u2_3.n : Nat) : Int))) (
 .ite (decide ((0 : Int) ≤ u2_10 ∧ u2_10 < ((u2_9.n : Nat) : Int))) (
 .bind (bq (aJ.mk u2_0 u2_1) (wr ((wr ((u2_3.f (Int.toNat u2_10)).Rest.High - (u2_3.f (Int.toNat u2_10)).Rest.Low)) + (1 : Int)))) fun z2 =>
 .sum (Lu (u2_9.f (Int.toNat u2_10)) u2_0 z2.2 u2_2 u2_3 u2_4 u2_5 u2_6 u2_7 u2_8 u2_9 u2_10 (Int.toNat u2_10) (wr ((u2_3.f (Int.toNat u2_10)).Rest.Low + z2.1)) (0 : Int)) (fun y0 =>
 .ite (decide ((0 : Int) ≤ (u2_3.f (Int.toNat u2_10)).From ∧ (u2_3.f (Int.toNat u2_10)).From < ((u2_8.n : Nat) : Int))) (
 .ite (decide ((0 : Int) ≤ (u2_3.f (Int.toNat u2_10)).To ∧ (u2_3.f (Int.toNat u2_10)).To < ((u2_8.n : Nat) : Int))) (
 .sum (Iu (u2_9.f (Int.toNat u2_10)) u2_0 z2.2 u2_2 u2_3 u2_4 u2_5 u2_6 u2_7 u2_8 u2_9 u2_10 (Int.toNat u2_10) (wr ((wr ((wr (y0 * (if (u2_9.f (Int.toNat u2_10)) < (wr (0 - (u2_9.f (Int.toNat u2_10)))) then (wr (0 - (u2_9.f (Int.toNat u2_10)))) else (u2_9.f (Int.toNat u2_10))))) * (u2_9.f (Int.toNat u2_10)))) - (wr ((u2_8.f (Int.toNat (u2_3.f (Int.toNat u2_10)).From)) - (u2_8.f (Int.toNat (u2_3.f (Int.toNat u2_10)).To)))))) (0 : Int)) (fun y1 =>
 .bind (bq (aJ.mk u2_0 z2.2) (30 : Int)) fun z3 =>
 .bind (bq (aJ.mk u2_0 z3.2) (30 : Int)) fun z4 =>
 .leaf (.next (z4.2, (Sq.mk u2_3.n (fun k0 => (aB.mk (cond (Nat.beq k0 (Int.toNat u2_10)) (u2_3.f (Int.toNat u2_10)).From (u2_3.f k0).From) (cond (Nat.beq k0 (Int.toNat u2_10)) (u2_3.f (Int.toNat u2_10)).To (u2_3.f k0).To) (cond (Nat.beq k0 (Int.toNat u2_10)) (u2_3.f (Int.toNat u2_10)).Length (u2_3.f k0).Length) (cond (Nat.beq k0 (Int.toNat u2_10)) (u2_3.f (Int.toNat u2_10)).Area (u2_3.f k0).Area) (cond (Nat.beq k0 (Int.toNat u2_10)) (u2_3.f (Int.toNat u2_10)).Walk (u2_3.f k0).Walk) (cond (Nat.beq k0 (Int.toNat u2_10)) (u2_3.f (Int.toNat u2_10)).Closed (u2_3.f k0).Closed) (aK.mk (cond (Nat.beq k0 (Int.toNat u2_10)) (u2_3.f (Int.toNat u2_10)).Rest.Low (u2_3.f k0).Rest.Low) (cond (Nat.beq k0 (Int.toNat u2_10)) (u2_3.f (Int.toNat u2_10)).Rest.High (u2_3.f k0).Rest.High)) (aK.mk (cond (Nat.beq k0 (Int.toNat u2_10)) (wr (y1 - z3.1)) (u2_3.f k0).Lift.Low) (cond (Nat.beq k0 (Int.toNat u2_10)) (wr (y1 + z4.1)) (u2_3.f k0).Lift.High))))), (wr (u2_10 + (1 : Int)))))) (fun _ => .fail)) (
 .fail)) (
 .fail)) (fun _ => .fail)) (
 .fail)) (
 .fail)) (
 .leaf (.l (u2_1, u2_3)))
def yg : LpM := ⟨(Sq Int) × (Sq ay) × (Sq SFan) × (Sq aC) × (Sq Int) × (Sq Int) × (Sq Int) × (Sq Int), Int × (Sq aB) × Int, Int × (Sq aB), Unit, fun p => ⟨[(0, .ptr 0 0), (1, .ptr 1 0), (6, .ptr 6 0), (7, .ptr 70 0), (8, .int .i64 p.2.2.2)], [(0, .var [sqA 1 (eI .u8) p.1.1, .int .i64 p.2.1]), (1, .var [.own 2 0, .own 3 0, .own 4 0, .own 5 0]), (2, rowA 0 2 61 ay.enc p.1.2.1), (3, rowA 0 10 70 aB.enc p.2.2.1), (4, rowA 0 4 73 SFan.enc p.1.2.2.1), (5, rowA 0 3 91 aC.enc p.1.2.2.2.1), (6, .var [sqA 1 (eI .i64) p.1.2.2.2.2.1, sqA 1 (eI .i64) p.1.2.2.2.2.2.1]), (70, .var [sqA 1 (eI .i64) p.1.2.2.2.2.2.2.1, sqA 1 (eI .i64) p.1.2.2.2.2.2.2.2])], 198⟩, fun f v => wX f.1 f.2.1 f.2.2.1 f.2.2.2.1 f.2.2.2.2.1 f.2.2.2.2.2.1 f.2.2.2.2.2.2.1 f.2.2.2.2.2.2.2 v.1 v.2.1 v.2.2, true, (.exit 0), (fun x a => ⟨[], [(0, .var [cellS x 0 0, .int .i64 a.1]), (1, .var [.own 2 0, .own 3 0, .own 4 0, .own 5 0]), (2, blkS x 2), (3, rowA 0 10 70 aB.enc a.2), (4, blkS x 4), (5, blkS x 5), (6, blkS x 6), (70, blkS x 70)], 198⟩), .ret, (fun _ _ => ⟨[], [], 0⟩), c1, c1k⟩
def VT (u2_0 : Sq Int) (u2_2 : Sq ay) (u2_4 : Sq SFan) (u2_5 : Sq aC) (u2_6 u2_7 u2_8 u2_9 : Sq Int) (u2_1 : Int) (u2_3 : Sq aB) (u2_10 : Int) : Option ((Int × (Sq aB)) ⊕ (Unit)) := yg.val ((u2_0, u2_2, u2_4, u2_5, u2_6, u2_7, u2_8, u2_9), (u2_1, u2_3, u2_10))
theorem X0 (u2_0 : Sq Int) (u2_2 : Sq ay) (u2_4 : Sq SFan) (u2_5 : Sq aC) (u2_6 u2_7 u2_8 u2_9 : Sq Int) (u2_1 : Int) (u2_3 : Sq aB) (u2_10 : Int) : VT u2_0 u2_2 u2_4 u2_5 u2_6 u2_7 u2_8 u2_9 u2_1 u2_3 u2_10 = fixO (fun v : Int × (Sq aB) × Int => wX u2_0 u2_2 u2_4 u2_5 u2_6 u2_7 u2_8 u2_9 v.1 v.2.1 v.2.2) (u2_1, u2_3, u2_10) := yg.val_eq (fun x => ((sqD dI (cellS x 0 0), sqB ay.dec (blkS x 2), sqB SFan.dec (blkS x 4), sqB aC.dec (blkS x 5), sqD dI (cellS x 6 0), sqD dI (cellS x 6 1), sqD dI (cellS x 70 0), sqD dI (cellS x 70 1)), (intA (cellS x 0 1), sqB aB.dec (blkS x 3), intA (aget x.tm 8)))) (fun p => by kernel_rfl) ((u2_0, u2_2, u2_4, u2_5, u2_6, u2_7, u2_8, u2_9), (u2_1, u2_3, u2_10))
def Qm (c : aJ) (a : SAir) (s : au) (x : dN) : DT (Int × (Sq aB)) :=
 .sum (VT c.l_ a.Mine.Places a.Fans a.Doors s.Fans s.Doors x.Pressures x.Flows c.at_ a.Mine.Roads (0 : Int)) (fun y2 =>
 .leaf (y2.1, y2.2)) (fun _ => .fail)
def yL : FnM := nfM (aJ × SAir × au × dN) (Int × (Sq aB)) (fun p => ([.ptr 0 0, .ptr 1 0, .agg (au.enc p.2.2.1), .agg (dN.enc p.2.2.2)], [.var (aJ.enc p.1), .var [.own 2 0, .own 3 0, .own 4 0, .own 5 0], rowA 0 2 61 ay.enc p.2.1.Mine.Places, rowA 0 10 70 aB.enc p.2.1.Mine.Roads, rowA 0 4 73 SFan.enc p.2.1.Fans, rowA 0 3 91 aC.enc p.2.1.Doors])) (fun p => Qm p.1 p.2.1 p.2.2.1 p.2.2.2) (fun _ => .tup []) (fun ins r => [.var [R8 ins 0 0, .int .i64 r.1], dB ins 1, dB ins 2, rowA 0 10 70 aB.enc r.2, dB ins 4, dB ins 5])
def RB : Env := envM [(28, gu.c), (49, rF.c), (50, oV.c)] [(8, [0, 1, 6, 7, 8, 9, 10, 11, 12], [0, 1, 6, 7, 8, 9, 10, 11]), (14, [0, 1, 6, 7, 8, 9, 10, 13, 14], [0, 1, 6, 7, 8, 9, 13]), (2, [0, 1, 6, 7, 8], [])] [(8, yh.c), (14, vM.c), (2, yg.c)] [] [(8, [0, 1, 2, 3, 4, 5, 6, 70]), (14, [0, 1, 2, 3, 4, 5, 6, 70]), (2, [0, 1, 2, 3, 4, 5, 6, 70])] 6
def Qk : Env := { RB with nt := 166 }
theorem RF : aG Qk (aH 8 Tryz.f32) yh.c := yh.tells 3014 (fun _ => by kernel_rfl) (fun _ _ _ _ => by kernel_rfl) (fun _ _ _ _ => by kernel_rfl) fun R f v N K => by kernel_rfl
theorem Ql : aG Qk (aH 14 Tryz.f32) vM.c := vM.tells 4806 (fun _ => by kernel_rfl) (fun _ _ _ _ => by kernel_rfl) (fun _ _ _ _ => by kernel_rfl) fun R f v N K => by kernel_rfl
theorem RD : aG Qk (aH 2 Tryz.f32) yg.c := yg.tells 198 (fun _ => by kernel_rfl) (fun _ _ _ _ => by kernel_rfl) (fun _ _ _ _ => by kernel_rfl) fun R f v N K => by kernel_rfl
theorem X4 : aN Tryz.prog 32 yL.c := yL.tells Tryz.func32 (show ∀ p, arun RB Tryz.f32 (yL.enc p).1 (yL.enc p).2 = _ from fun p => by kernel_rfl) (bf [aH 2 Tryz.f32, aH 8 Tryz.f32, aH 14 Tryz.f32] (by kernel_rfl) ⟨lpT (by kernel_rfl) RD, ⟨lpT (by kernel_rfl) RF, ⟨lpT (by kernel_rfl) Ql, trivial⟩⟩⟩) (.cons jq (.cons KG (.cons Hy .nil)))
def zB (c : aJ) (a : SAir) (s : au) (x : dN) : Option (Int × (Sq aB)) := yL.val (c, a, s, x)
theorem acK (c : aJ) (a : SAir) (s : au) (x : dN) : zB c a s x = (Qm c a s x).get := yL.val_eq (fun x => (aJ.dec (varL (dB x.2 0)), ⟨⟨sqB ay.dec (dB x.2 2), sqB aB.dec (dB x.2 3)⟩, sqB SFan.dec (dB x.2 4), sqB aC.dec (dB x.2 5)⟩, au.dec (aggL (gd x.1 2)), dN.dec (aggL (gd x.1 3)))) (fun p => by kernel_rfl) (c, a, s, x)
def qy (u3_0 u3_2 _u3_3 : Sq Int) (u3_1 : Int) (u3_4 : Sq Int) (u3_5 : Int) : DT (LR (Int × (Sq Int) × Int) (Int × (Sq Int)) (Unit)) :=
 .ite (decide (u3_5 < ((u3_2.n : Nat) : Int))) (
 .ite (decide ((0 : Int) ≤ u3_5 ∧ u3_5 < ((u3_2.n : Nat) : Int))) (
 .bind (zA (aJ.mk u3_0 u3_1) (5 : Int)) fun z0 =>
 .ite z0.1 (
 .ite (decide ((u3_4.n + 1) * 8 ≤ 140737488355328 ∧ (u3_4.n + 1) ≤ 1099511627776)) (
 .leaf (.next (z0.2, (Sq.mk (u3_4.n + 1) (fun k0 => (cond (Nat.blt k0 u3_4.n) (u3_4.f k0) (-1 : Int)))), (wr (u3_5 + (1 : Int)))))) (
 .fail)) (
 .ite (decide ((u3_4.n + 1) * 8 ≤ 140737488355328 ∧ (u3_4.n + 1) ≤ 1099511627776)) (
 .leaf (.next (z0.2, (Sq.mk (u3_4.n + 1) (fun k1 => (cond (Nat.blt k1 u3_4.n) (u3_4.f k1) (u3_2.f (Int.toNat u3_5))))), (wr (u3_5 + (1 : Int)))))) (
 .fail))) (
 .fail)) (
 .leaf (.l (u3_1, u3_4)))
def qC : LpM := ⟨(Sq Int) × (Sq Int) × (Sq Int), Int × (Sq Int) × Int, Int × (Sq Int), Unit, fun p => ⟨[(0, .ptr 0 0), (5, .ptr 65 0), (6, .ptr 129 0), (7, .ptr 193 0), (8, .int .i64 p.2.2.2)], [(0, .var [sqA 1 (eI .u8) p.1.1, .int .i64 p.2.1]), (65, .var [sqA 1 (eI .i64) p.1.2.1, sqA 1 (eI .i64) p.1.2.2]), (129, .var [.own 130 0, .own 131 0]), (130, .nilrow 0), (131, .nilrow 0), (193, .var [.own 194 0, .own 195 0]), (194, rowA 0 1 3 (eI .i64) p.2.2.1), (195, .nilrow 0)], 321⟩, fun f v => qy f.1 f.2.1 f.2.2 v.1 v.2.1 v.2.2, true, (.exit 0), (fun x a => ⟨[(0, .ptr 0 0), (5, .ptr 65 0), (6, .ptr 129 0), (7, .ptr 193 0)], [(0, .var [cellS x 0 0, .int .i64 a.1]), (65, blkS x 65), (129, .var [.own 130 0, .own 131 0]), (130, .nilrow 0), (131, .nilrow 0), (193, .var [.own 194 0, .own 195 0]), (194, rowA 0 1 3 (eI .i64) a.2), (195, .nilrow 0)], 321⟩), .ret, (fun _ _ => ⟨[], [], 0⟩), c1, c1k⟩
def Lr (u3_0 u3_2 u3_3 : Sq Int) (u3_1 : Int) (u3_4 : Sq Int) (u3_5 : Int) : Option ((Int × (Sq Int)) ⊕ (Unit)) := qC.val ((u3_0, u3_2, u3_3), (u3_1, u3_4, u3_5))
theorem Rz (u3_0 u3_2 u3_3 : Sq Int) (u3_1 : Int) (u3_4 : Sq Int) (u3_5 : Int) : Lr u3_0 u3_2 u3_3 u3_1 u3_4 u3_5 = fixO (fun v : Int × (Sq Int) × Int => qy u3_0 u3_2 u3_3 v.1 v.2.1 v.2.2) (u3_1, u3_4, u3_5) := qC.val_eq (fun x => ((sqD dI (cellS x 0 0), sqD dI (cellS x 65 0), sqD dI (cellS x 65 1)), (intA (cellS x 0 1), sqB dI (blkS x 194), intA (aget x.tm 8)))) (fun p => by kernel_rfl) ((u3_0, u3_2, u3_3), (u3_1, u3_4, u3_5))
def oG (u10_0 _u10_2 u10_3 _u10_4 : Sq Int) (u10_1 : Int) (u10_5 : Sq Int) (u10_6 : Int) : DT (LR (Int × (Sq Int) × Int) (Int × (Sq Int)) (Unit)) :=
 .ite (decide (u10_6 < ((u10_3.n : Nat) : Int))) (
 .ite (decide ((0 : Int) ≤ u10_6 ∧ u10_6 < ((u10_3.n : Nat) : Int))) (
 .bind (zA (aJ.mk u10_0 u10_1) (5 : Int)) fun z1 =>
 .ite z1.1 (
 .ite (decide ((u10_5.n + 1) * 8 ≤ 140737488355328 ∧ (u10_5.n + 1) ≤ 1099511627776)) (
 .leaf (.next (z1.2, (Sq.mk (u10_5.n + 1) (fun k2 => (cond (Nat.blt k2 u10_5.n) (u10_5.f k2) (-1 : Int)))), (wr (u10_6 + (1 : Int)))))) (
 .fail)) (
 .ite (decide ((u10_5.n + 1) * 8 ≤ 140737488355328 ∧ (u10_5.n + 1) ≤ 1099511627776)) (
 .leaf (.next (z1.2, (Sq.mk (u10_5.n + 1) (fun k3 => (cond (Nat.blt k3 u10_5.n) (u10_5.f k3) (u10_3.f (Int.toNat u10_6))))), (wr (u10_6 + (1 : Int)))))) (
 .fail))) (
 .fail)) (
 .leaf (.l (u10_1, u10_5)))
def oF : LpM := ⟨(Sq Int) × (Sq Int) × (Sq Int) × (Sq Int), Int × (Sq Int) × Int, Int × (Sq Int), Unit, fun p => ⟨[(0, .ptr 0 0), (5, .ptr 65 0), (6, .ptr 129 0), (7, .ptr 193 0), (10, .int .i64 p.2.2.2)], [(0, .var [sqA 1 (eI .u8) p.1.1, .int .i64 p.2.1]), (65, .var [sqA 1 (eI .i64) p.1.2.1, sqA 1 (eI .i64) p.1.2.2.1]), (129, .var [.own 130 0, .own 131 0]), (130, .nilrow 0), (131, .nilrow 0), (193, .var [.own 194 0, .own 195 0]), (194, rowA 0 1 3 (eI .i64) p.1.2.2.2), (195, rowA 0 1 3 (eI .i64) p.2.2.1)], 385⟩, fun f v => oG f.1 f.2.1 f.2.2.1 f.2.2.2 v.1 v.2.1 v.2.2, true, (.exit 2), (fun x a => ⟨[(6, .ptr 129 0), (7, .ptr 193 0)], [(0, .var [cellS x 0 0, .int .i64 a.1]), (65, blkS x 65), (129, .var [.own 130 0, .own 131 0]), (130, .nilrow 0), (131, .nilrow 0), (193, .var [.own 194 0, .own 195 0]), (194, blkS x 194), (195, rowA 0 1 3 (eI .i64) a.2)], 385⟩), .ret, (fun _ _ => ⟨[], [], 0⟩), c1, c1k⟩
def Kt (u10_0 u10_2 u10_3 u10_4 : Sq Int) (u10_1 : Int) (u10_5 : Sq Int) (u10_6 : Int) : Option ((Int × (Sq Int)) ⊕ (Unit)) := oF.val ((u10_0, u10_2, u10_3, u10_4), (u10_1, u10_5, u10_6))
theorem Qj (u10_0 u10_2 u10_3 u10_4 : Sq Int) (u10_1 : Int) (u10_5 : Sq Int) (u10_6 : Int) : Kt u10_0 u10_2 u10_3 u10_4 u10_1 u10_5 u10_6 = fixO (fun v : Int × (Sq Int) × Int => oG u10_0 u10_2 u10_3 u10_4 v.1 v.2.1 v.2.2) (u10_1, u10_5, u10_6) := oF.val_eq (fun x => ((sqD dI (cellS x 0 0), sqD dI (cellS x 65 0), sqD dI (cellS x 65 1), sqB dI (blkS x 194)), (intA (cellS x 0 1), sqB dI (blkS x 195), intA (aget x.tm 10)))) (fun p => by kernel_rfl) ((u10_0, u10_2, u10_3, u10_4), (u10_1, u10_5, u10_6))
def FL (c : aJ) (s : au) : DT (au × Int) :=
 .sum (Lr c.l_ s.Fans s.Doors c.at_ (Sq.mk 0 (fun _ => (0 : Int))) (0 : Int)) (fun y0 =>
 .sum (Kt c.l_ s.Fans s.Doors y0.2 y0.1 (Sq.mk 0 (fun _ => (0 : Int))) (0 : Int)) (fun y1 =>
 .leaf ((au.mk y0.2 y1.2), y1.1)) (fun _ => .fail)) (fun _ => .fail)
def pW : FnM := nfM (aJ × au) (au × Int) (fun p => ([.ptr 0 0, .agg [.any1, .any1, .any1, .any1], .agg (au.enc p.2)], [.var (aJ.enc p.1)])) (fun p => FL p.1 p.2) (fun _ => .agg [.own 1 0, .own 2 0]) (fun ins r => [.var [R8 ins 0 0, .int .i64 r.2], rowA 0 1 3 (eI .i64) r.1.Fans, rowA 0 1 3 (eI .i64) r.1.Doors])
def Kr : Env := envM [(27, rV.c)] [(3, [0, 5, 6, 7, 8], [0, 5, 6, 7]), (10, [0, 5, 6, 7, 10], [6, 7])] [(3, qC.c), (10, oF.c)] [(1000003, [.asrow 194 3 1 (fun _ => (eI .i64) (0 : Int))]), (1000010, [.asrow 195 3 1 (fun _ => (eI .i64) (0 : Int))])] [(3, [0, 65, 129, 130, 131, 193, 194, 195]), (10, [0, 65, 129, 130, 131, 193, 194, 195])] 1
def Pw : Env := { Kr with nt := 53 }
theorem Ls : aG Pw (aH 3 Tryz.f33) qC.c := qC.tells 321 (fun _ => by kernel_rfl) (fun _ _ _ _ => by kernel_rfl) (fun _ _ _ _ => by kernel_rfl) fun R f v N K => by kernel_rfl
theorem KU : aG Pw (aH 10 Tryz.f33) oF.c := oF.tells 385 (fun _ => by kernel_rfl) (fun _ _ _ _ => by kernel_rfl) (fun _ _ _ _ => by kernel_rfl) fun R f v N K => by kernel_rfl
theorem RA : aN Tryz.prog 33 pW.c := pW.tells Tryz.func33 (show ∀ p, arun Kr Tryz.f33 (pW.enc p).1 (pW.enc p).2 = _ from fun p => by kernel_rfl) (bf [aH 3 Tryz.f33, aH 10 Tryz.f33] (by kernel_rfl) ⟨lpT (by kernel_rfl) Ls, ⟨lpT (by kernel_rfl) KU, trivial⟩⟩) (.cons Db .nil)
def oD (c : aJ) (s : au) : Option (au × Int) := pW.val (c, s)
theorem XY (c : aJ) (s : au) : oD c s = (FL c s).get := pW.val_eq (fun x => (aJ.dec (varL (dB x.2 0)), au.dec (aggL (gd x.1 2)))) (fun p => by kernel_rfl) (c, s)
def uU (u6_1 : Sq Int) (_u6_4 u6_0 u6_2 : Int) (u6_3 : Sq ay) : DT (LR (Int × Int × (Sq ay)) (Int × (Sq ay)) (Unit)) :=
 .ite (decide (u6_0 > (0 : Int))) (
 .bind (bq (aJ.mk u6_1 u6_2) (100 : Int)) fun z0 =>
 .ite (decide ((u6_3.n + 1) * 16 ≤ 140737488355328 ∧ (u6_3.n + 1) ≤ 1099511627776)) (
 .leaf (.next ((wr (u6_0 - (1 : Int))), z0.2, (Sq.mk (u6_3.n + 1) (fun k0 => (ay.mk (cond (Nat.blt k0 u6_3.n) (u6_3.f k0).Height (wr (0 - z0.1))) (cond (Nat.blt k0 u6_3.n) (u6_3.f k0).Surface false))))))) (
 .fail)) (
 .leaf (.l (u6_2, u6_3)))
def vJ : LpM := ⟨(Sq Int) × Int, Int × Int × (Sq ay), Int × (Sq ay), Unit, fun p => ⟨[(0, .ptr 0 0), (2, .ptr 1 0), (3, .ptr 65 0), (4, .ptr 129 0), (5, .ptr 449 0), (6, .int .i64 p.1.2), (7, .int .i64 p.2.1)], [(0, .var [sqA 1 (eI .u8) p.1.1, .int .i64 p.2.2.1]), (1, .var [.own 2 0, .own 3 0, .own 4 0, .own 5 0]), (2, .nilrow 0), (3, .nilrow 0), (4, .nilrow 0), (5, .nilrow 0), (65, .var [.own 66 0, .own 67 0]), (66, .nilrow 0), (67, .nilrow 0), (129, .var [.own 130 0, .own 131 0]), (130, .nilrow 0), (131, .nilrow 0), (257, rowA 0 2 61 ay.enc p.2.2.2), (322, .nilrow 0), (387, .nilrow 0), (388, .nilrow 0), (449, .var [.own 257 0, .own 322 0, .own 387 0, .own 388 0])], 1793⟩, fun f v => uU f.1 f.2 v.1 v.2.1 v.2.2, true, (.exit 0), (fun x a => ⟨[(0, .ptr 0 0), (2, .ptr 1 0), (3, .ptr 65 0), (4, .ptr 129 0), (5, .ptr 449 0), (6, aget x.tm 6)], [(0, .var [cellS x 0 0, .int .i64 a.1]), (1, .var [.own 2 0, .own 3 0, .own 4 0, .own 5 0]), (2, .nilrow 0), (3, .nilrow 0), (4, .nilrow 0), (5, .nilrow 0), (65, .var [.own 66 0, .own 67 0]), (66, .nilrow 0), (67, .nilrow 0), (129, .var [.own 130 0, .own 131 0]), (130, .nilrow 0), (131, .nilrow 0), (257, rowA 0 2 61 ay.enc a.2), (322, .nilrow 0), (387, .nilrow 0), (388, .nilrow 0), (449, .var [.own 257 0, .own 322 0, .own 387 0, .own 388 0])], 1793⟩), .ret, (fun _ _ => ⟨[], [], 0⟩), c1, c1k⟩
def Cv (u6_1 : Sq Int) (u6_4 u6_0 u6_2 : Int) (u6_3 : Sq ay) : Option ((Int × (Sq ay)) ⊕ (Unit)) := vJ.val ((u6_1, u6_4), (u6_0, u6_2, u6_3))
theorem Wm (u6_1 : Sq Int) (u6_4 u6_0 u6_2 : Int) (u6_3 : Sq ay) : Cv u6_1 u6_4 u6_0 u6_2 u6_3 = fixO (fun v : Int × Int × (Sq ay) => uU u6_1 u6_4 v.1 v.2.1 v.2.2) (u6_0, u6_2, u6_3) := vJ.val_eq (fun x => ((sqD dI (cellS x 0 0), intA (aget x.tm 6)), (intA (aget x.tm 7), intA (cellS x 0 1), sqB ay.dec (blkS x 257)))) (fun p => by kernel_rfl) ((u6_1, u6_4), (u6_0, u6_2, u6_3))
def rR (u12_1 : Sq Int) (u12_3 : Sq ay) (_u12_6 u12_2 : Int) (u12_4 : Sq Int) (u12_5 : Int) : DT (LR (Int × (Sq Int) × Int) (Int × (Sq Int)) (Unit)) :=
 .ite (decide (u12_5 < ((u12_3.n : Nat) : Int))) (
 .bind (iw (aJ.mk u12_1 u12_2) (-4000 : Int) (4000 : Int)) fun z1 =>
 .ite (decide ((0 : Int) ≤ u12_5 ∧ u12_5 < ((u12_4.n : Nat) : Int))) (
 .leaf (.next (z1.2, (Sq.mk u12_4.n (fun k1 => (cond (Nat.beq k1 (Int.toNat u12_5)) z1.1 (u12_4.f k1)))), (wr (u12_5 + (1 : Int)))))) (
 .fail)) (
 .leaf (.l (u12_2, u12_4)))
def tO : LpM := ⟨(Sq Int) × (Sq ay) × Int, Int × (Sq Int) × Int, Int × (Sq Int), Unit, fun p => ⟨[(0, .ptr 0 0), (2, .ptr 1 0), (3, .ptr 65 0), (4, .ptr 129 0), (5, .ptr 449 0), (6, .int .i64 p.1.2.2), (8, .int .i64 ((p.1.2.1.n : Nat) : Int)), (9, .ptr 2305 0), (10, .int .i64 p.2.2.2)], [(0, .var [sqA 1 (eI .u8) p.1.1, .int .i64 p.2.1]), (1, .var [.own 2 0, .own 3 0, .own 4 0, .own 5 0]), (2, .nilrow 0), (3, .nilrow 0), (4, .nilrow 0), (5, .nilrow 0), (65, .var [.own 66 0, .own 67 0]), (66, .nilrow 0), (67, .nilrow 0), (129, .var [.own 130 0, .own 131 0]), (130, .nilrow 0), (131, .nilrow 0), (257, rowA 0 2 61 ay.enc p.1.2.1), (322, .nilrow 0), (387, .nilrow 0), (388, .nilrow 0), (449, .var [.own 257 0, .own 322 0, .own 387 0, .own 388 0]), (2177, rowA 0 1 3 (eI .i64) p.2.2.1), (2242, .nilrow 0), (2305, .var [.own 2177 0, .own 2242 0])], 2561⟩, fun f v => rR f.1 f.2.1 f.2.2 v.1 v.2.1 v.2.2, true, (.exit 2), (fun x a => ⟨[(0, .ptr 0 0), (2, .ptr 1 0), (3, .ptr 65 0), (4, .ptr 129 0), (5, .ptr 449 0), (6, aget x.tm 6), (8, aget x.tm 8), (9, .ptr 2305 0)], [(0, .var [cellS x 0 0, .int .i64 a.1]), (1, .var [.own 2 0, .own 3 0, .own 4 0, .own 5 0]), (2, .nilrow 0), (3, .nilrow 0), (4, .nilrow 0), (5, .nilrow 0), (65, .var [.own 66 0, .own 67 0]), (66, .nilrow 0), (67, .nilrow 0), (129, .var [.own 130 0, .own 131 0]), (130, .nilrow 0), (131, .nilrow 0), (257, blkS x 257), (322, .nilrow 0), (387, .nilrow 0), (388, .nilrow 0), (449, .var [.own 257 0, .own 322 0, .own 387 0, .own 388 0]), (2177, rowA 0 1 3 (eI .i64) a.2), (2242, .nilrow 0), (2305, .var [.own 2177 0, .own 2242 0])], 2561⟩), .ret, (fun _ _ => ⟨[], [], 0⟩), c1, c1k⟩
def x9 (u12_1 : Sq Int) (u12_3 : Sq ay) (u12_6 u12_2 : Int) (u12_4 : Sq Int) (u12_5 : Int) : Option ((Int × (Sq Int)) ⊕ (Unit)) := tO.val ((u12_1, u12_3, u12_6), (u12_2, u12_4, u12_5))
theorem Ud (u12_1 : Sq Int) (u12_3 : Sq ay) (u12_6 u12_2 : Int) (u12_4 : Sq Int) (u12_5 : Int) : x9 u12_1 u12_3 u12_6 u12_2 u12_4 u12_5 = fixO (fun v : Int × (Sq Int) × Int => rR u12_1 u12_3 u12_6 v.1 v.2.1 v.2.2) (u12_2, u12_4, u12_5) := tO.val_eq (fun x => ((sqD dI (cellS x 0 0), sqB ay.dec (blkS x 257), intA (aget x.tm 6)), (intA (cellS x 0 1), sqB dI (blkS x 2177), intA (aget x.tm 10)))) (fun p => by kernel_rfl) ((u12_1, u12_3, u12_6), (u12_2, u12_4, u12_5))
def rT (u18_2 : Sq Int) (u18_4 : Sq ay) (_u18_6 : Sq Int) (_u18_9 u18_1 u18_3 : Int) (u18_5 : Sq aB) (u18_7 u18_8 : Sq Int) : DT (LR (Int × Int × (Sq aB) × (Sq Int) × (Sq Int)) (Int × (Sq aB) × (Sq Int) × (Sq Int)) (Unit)) :=
 .ite (decide (u18_1 > (0 : Int))) (
 .bind (bq (aJ.mk u18_2 u18_3) ((u18_4.n : Nat) : Int)) fun z2 =>
 .bind (bq (aJ.mk u18_2 z2.2) (wr (((u18_4.n : Nat) : Int) - (1 : Int)))) fun z3 =>
 .ite (((u18_4.n : Nat) : Int) != 0) (
 .bind (NS (aJ.mk u18_2 z3.2) z2.1 (Int.tmod (wr ((wr (z2.1 + (1 : Int))) + z3.1)) ((u18_4.n : Nat) : Int))) fun z4 =>
 .bind (zA (aJ.mk u18_2 z4.2) (7 : Int)) fun z5 =>
 .bind (iw (aJ.mk u18_2 z5.2) (-60 : Int) (60 : Int)) fun z6 =>
 .ite z5.1 (
 .ite (decide ((u18_5.n + 1) * 72 ≤ 140737488355328 ∧ (u18_5.n + 1) ≤ 1099511627776)) (
 .ite (decide ((u18_7.n + 1) * 8 ≤ 140737488355328 ∧ (u18_7.n + 1) ≤ 1099511627776)) (
 .ite (decide ((0 : Int) ≤ z4.1.From ∧ z4.1.From < ((u18_8.n : Nat) : Int))) (
 .ite (decide ((0 : Int) ≤ z4.1.From ∧ z4.1.From < ((u18_8.n : Nat) : Int))) (
 .ite (decide ((0 : Int) ≤ z4.1.To ∧ z4.1.To < ((u18_8.n : Nat) : Int))) (
 .ite (decide ((0 : Int) ≤ z4.1.To ∧ z4.1.To < ((u18_8.n : Nat) : Int))) (
 .leaf (.next ((wr (u18_1 - (1 : Int))), z6.2, (Sq.mk (u18_5.n + 1) (fun k2 => (aB.mk (cond (Nat.blt k2 u18_5.n) (u18_5.f k2).From z4.1.From) (cond (Nat.blt k2 u18_5.n) (u18_5.f k2).To z4.1.To) (cond (Nat.blt k2 u18_5.n) (u18_5.f k2).Length z4.1.Length) (cond (Nat.blt k2 u18_5.n) (u18_5.f k2).Area z4.1.Area) (cond (Nat.blt k2 u18_5.n) (u18_5.f k2).Walk z4.1.Walk) (cond (Nat.blt k2 u18_5.n) (u18_5.f k2).Closed z5.1) (aK.mk (cond (Nat.blt k2 u18_5.n) (u18_5.f k2).Rest.Low z4.1.Rest.Low) (cond (Nat.blt k2 u18_5.n) (u18_5.f k2).Rest.High z4.1.Rest.High)) (aK.mk (cond (Nat.blt k2 u18_5.n) (u18_5.f k2).Lift.Low z4.1.Lift.Low) (cond (Nat.blt k2 u18_5.n) (u18_5.f k2).Lift.High z4.1.Lift.High))))), (Sq.mk (u18_7.n + 1) (fun k3 => (cond (Nat.blt k3 u18_7.n) (u18_7.f k3) (0 : Int)))), (Sq.mk u18_8.n (fun k4 => (cond (Nat.beq k4 (Int.toNat z4.1.To)) (wr ((cond (Nat.beq (Int.toNat z4.1.To) (Int.toNat z4.1.From)) (wr ((u18_8.f (Int.toNat z4.1.From)) + (0 : Int))) (u18_8.f (Int.toNat z4.1.To))) - (0 : Int))) (cond (Nat.beq k4 (Int.toNat z4.1.From)) (wr ((u18_8.f (Int.toNat z4.1.From)) + (0 : Int))) (u18_8.f k4)))))))) (
 .fail)) (
 .fail)) (
 .fail)) (
 .fail)) (
 .fail)) (
 .fail)) (
 .ite (decide ((u18_5.n + 1) * 72 ≤ 140737488355328 ∧ (u18_5.n + 1) ≤ 1099511627776)) (
 .ite (decide ((u18_7.n + 1) * 8 ≤ 140737488355328 ∧ (u18_7.n + 1) ≤ 1099511627776)) (
 .ite (decide ((0 : Int) ≤ z4.1.From ∧ z4.1.From < ((u18_8.n : Nat) : Int))) (
 .ite (decide ((0 : Int) ≤ z4.1.From ∧ z4.1.From < ((u18_8.n : Nat) : Int))) (
 .ite (decide ((0 : Int) ≤ z4.1.To ∧ z4.1.To < ((u18_8.n : Nat) : Int))) (
 .ite (decide ((0 : Int) ≤ z4.1.To ∧ z4.1.To < ((u18_8.n : Nat) : Int))) (
 .leaf (.next ((wr (u18_1 - (1 : Int))), z6.2, (Sq.mk (u18_5.n + 1) (fun k5 => (aB.mk (cond (Nat.blt k5 u18_5.n) (u18_5.f k5).From z4.1.From) (cond (Nat.blt k5 u18_5.n) (u18_5.f k5).To z4.1.To) (cond (Nat.blt k5 u18_5.n) (u18_5.f k5).Length z4.1.Length) (cond (Nat.blt k5 u18_5.n) (u18_5.f k5).Area z4.1.Area) (cond (Nat.blt k5 u18_5.n) (u18_5.f k5).Walk z4.1.Walk) (cond (Nat.blt k5 u18_5.n) (u18_5.f k5).Closed z5.1) (aK.mk (cond (Nat.blt k5 u18_5.n) (u18_5.f k5).Rest.Low z4.1.Rest.Low) (cond (Nat.blt k5 u18_5.n) (u18_5.f k5).Rest.High z4.1.Rest.High)) (aK.mk (cond (Nat.blt k5 u18_5.n) (u18_5.f k5).Lift.Low z4.1.Lift.Low) (cond (Nat.blt k5 u18_5.n) (u18_5.f k5).Lift.High z4.1.Lift.High))))), (Sq.mk (u18_7.n + 1) (fun k6 => (cond (Nat.blt k6 u18_7.n) (u18_7.f k6) z6.1))), (Sq.mk u18_8.n (fun k7 => (cond (Nat.beq k7 (Int.toNat z4.1.To)) (wr ((cond (Nat.beq (Int.toNat z4.1.To) (Int.toNat z4.1.From)) (wr ((u18_8.f (Int.toNat z4.1.From)) + z6.1)) (u18_8.f (Int.toNat z4.1.To))) - z6.1)) (cond (Nat.beq k7 (Int.toNat z4.1.From)) (wr ((u18_8.f (Int.toNat z4.1.From)) + z6.1)) (u18_8.f k7)))))))) (
 .fail)) (
 .fail)) (
 .fail)) (
 .fail)) (
 .fail)) (
 .fail))) (
 .fail)) (
 .leaf (.l (u18_3, u18_5, u18_7, u18_8)))
def tQ : LpM := ⟨(Sq Int) × (Sq ay) × (Sq Int) × Int, Int × Int × (Sq aB) × (Sq Int) × (Sq Int), Int × (Sq aB) × (Sq Int) × (Sq Int), Unit, fun p => ⟨[(0, .ptr 0 0), (2, .ptr 1 0), (3, .ptr 65 0), (4, .ptr 129 0), (5, .ptr 449 0), (6, .int .i64 p.1.2.2.2), (8, .int .i64 ((p.1.2.1.n : Nat) : Int)), (9, .ptr 2305 0), (11, .own 2625 0), (12, .int .i64 p.2.1)], [(0, .var [sqA 1 (eI .u8) p.1.1, .int .i64 p.2.2.1]), (1, .var [.own 2 0, .own 3 0, .own 4 0, .own 5 0]), (2, .nilrow 0), (3, .nilrow 0), (4, .nilrow 0), (5, .nilrow 0), (65, .var [.own 66 0, .own 67 0]), (66, .nilrow 0), (67, .nilrow 0), (129, .var [.own 130 0, .own 131 0]), (130, .nilrow 0), (131, .nilrow 0), (257, rowA 0 2 61 ay.enc p.1.2.1), (322, rowA 0 10 70 aB.enc p.2.2.2.1), (387, .nilrow 0), (388, .nilrow 0), (449, .var [.own 257 0, .own 322 0, .own 387 0, .own 388 0]), (2177, rowA 0 1 3 (eI .i64) p.1.2.2.1), (2242, rowA 0 1 3 (eI .i64) p.2.2.2.2.1), (2305, .var [.own 2177 0, .own 2242 0]), (2625, rowA 0 1 3 (eI .i64) p.2.2.2.2.2)], 3073⟩, fun f v => rT f.1 f.2.1 f.2.2.1 f.2.2.2 v.1 v.2.1 v.2.2.1 v.2.2.2.1 v.2.2.2.2, true, (.exit 4), (fun x a => ⟨[(0, .ptr 0 0), (2, .ptr 1 0), (3, .ptr 65 0), (4, .ptr 129 0), (5, .ptr 449 0), (6, aget x.tm 6), (8, aget x.tm 8), (9, .ptr 2305 0), (11, .own 2625 0)], [(0, .var [cellS x 0 0, .int .i64 a.1]), (1, .var [.own 2 0, .own 3 0, .own 4 0, .own 5 0]), (2, .nilrow 0), (3, .nilrow 0), (4, .nilrow 0), (5, .nilrow 0), (65, .var [.own 66 0, .own 67 0]), (66, .nilrow 0), (67, .nilrow 0), (129, .var [.own 130 0, .own 131 0]), (130, .nilrow 0), (131, .nilrow 0), (257, blkS x 257), (322, rowA 0 10 70 aB.enc a.2.1), (387, .nilrow 0), (388, .nilrow 0), (449, .var [.own 257 0, .own 322 0, .own 387 0, .own 388 0]), (2177, blkS x 2177), (2242, rowA 0 1 3 (eI .i64) a.2.2.1), (2305, .var [.own 2177 0, .own 2242 0]), (2625, rowA 0 1 3 (eI .i64) a.2.2.2)], 3073⟩), .ret, (fun _ _ => ⟨[], [], 0⟩), c1, c1k⟩
def yc (u18_2 : Sq Int) (u18_4 : Sq ay) (u18_6 : Sq Int) (u18_9 u18_1 u18_3 : Int) (u18_5 : Sq aB) (u18_7 u18_8 : Sq Int) : Option ((Int × (Sq aB) × (Sq Int) × (Sq Int)) ⊕ (Unit)) := tQ.val ((u18_2, u18_4, u18_6, u18_9), (u18_1, u18_3, u18_5, u18_7, u18_8))
theorem Ue (u18_2 : Sq Int) (u18_4 : Sq ay) (u18_6 : Sq Int) (u18_9 u18_1 u18_3 : Int) (u18_5 : Sq aB) (u18_7 u18_8 : Sq Int) : yc u18_2 u18_4 u18_6 u18_9 u18_1 u18_3 u18_5 u18_7 u18_8 = fixO (fun v : Int × Int × (Sq aB) × (Sq Int) × (Sq Int) => rT u18_2 u18_4 u18_6 u18_9 v.1 v.2.1 v.2.2.1 v.2.2.2.1 v.2.2.2.2) (u18_1, u18_3, u18_5, u18_7, u18_8) := tQ.val_eq (fun x => ((sqD dI (cellS x 0 0), sqB ay.dec (blkS x 257), sqB dI (blkS x 2177), intA (aget x.tm 6)), (intA (aget x.tm 12), intA (cellS x 0 1), sqB aB.dec (blkS x 322), sqB dI (blkS x 2242), sqB dI (blkS x 2625)))) (fun p => by kernel_rfl) ((u18_2, u18_4, u18_6, u18_9), (u18_1, u18_3, u18_5, u18_7, u18_8))
def rU (u30_1 : Sq Int) (u30_3 : Sq ay) (_u30_5 u30_7 : Sq Int) (u30_9 u30_2 : Int) (u30_4 : Sq aB) (u30_6 : Sq Int) (u30_8 : Int) : DT (LR (Int × (Sq aB) × (Sq Int) × Int) (Int × (Sq aB) × (Sq Int)) (Unit)) :=
 .ite (decide (u30_8 < ((u30_3.n : Nat) : Int))) (
 .bind (bq (aJ.mk u30_1 u30_2) u30_9) fun z7 =>
 .bind (NS (aJ.mk u30_1 z7.2) u30_8 z7.1) fun z8 =>
 .ite (decide ((0 : Int) ≤ u30_8 ∧ u30_8 < ((u30_7.n : Nat) : Int))) (
 .bind (zA (aJ.mk u30_1 z8.2) (2 : Int)) fun z9 =>
 .ite z9.1 (
 .ite (decide ((u30_4.n + 1) * 72 ≤ 140737488355328 ∧ (u30_4.n + 1) ≤ 1099511627776)) (
 .ite (decide ((u30_6.n + 1) * 8 ≤ 140737488355328 ∧ (u30_6.n + 1) ≤ 1099511627776)) (
 .leaf (.next (z9.2, (Sq.mk (u30_4.n + 1) (fun k8 => (aB.mk (cond (Nat.blt k8 u30_4.n) (u30_4.f k8).From z8.1.To) (cond (Nat.blt k8 u30_4.n) (u30_4.f k8).To z8.1.From) (cond (Nat.blt k8 u30_4.n) (u30_4.f k8).Length z8.1.Length) (cond (Nat.blt k8 u30_4.n) (u30_4.f k8).Area z8.1.Area) (cond (Nat.blt k8 u30_4.n) (u30_4.f k8).Walk z8.1.Walk) (cond (Nat.blt k8 u30_4.n) (u30_4.f k8).Closed z8.1.Closed) (aK.mk (cond (Nat.blt k8 u30_4.n) (u30_4.f k8).Rest.Low z8.1.Rest.Low) (cond (Nat.blt k8 u30_4.n) (u30_4.f k8).Rest.High z8.1.Rest.High)) (aK.mk (cond (Nat.blt k8 u30_4.n) (u30_4.f k8).Lift.Low z8.1.Lift.Low) (cond (Nat.blt k8 u30_4.n) (u30_4.f k8).Lift.High z8.1.Lift.High))))), (Sq.mk (u30_6.n + 1) (fun k9 => (cond (Nat.blt k9 u30_6.n) (u30_6.f k9) (wr (0 - (wr (0 - (u30_7.f (Int.toNat u30_8))))))))), (wr (u30_8 + (1 : Int)))))) (
 .fail)) (
 .fail)) (
 .ite (decide ((u30_4.n + 1) * 72 ≤ 140737488355328 ∧ (u30_4.n + 1) ≤ 1099511627776)) (
 .ite (decide ((u30_6.n + 1) * 8 ≤ 140737488355328 ∧ (u30_6.n + 1) ≤ 1099511627776)) (
 .leaf (.next (z9.2, (Sq.mk (u30_4.n + 1) (fun k10 => (aB.mk (cond (Nat.blt k10 u30_4.n) (u30_4.f k10).From z8.1.From) (cond (Nat.blt k10 u30_4.n) (u30_4.f k10).To z8.1.To) (cond (Nat.blt k10 u30_4.n) (u30_4.f k10).Length z8.1.Length) (cond (Nat.blt k10 u30_4.n) (u30_4.f k10).Area z8.1.Area) (cond (Nat.blt k10 u30_4.n) (u30_4.f k10).Walk z8.1.Walk) (cond (Nat.blt k10 u30_4.n) (u30_4.f k10).Closed z8.1.Closed) (aK.mk (cond (Nat.blt k10 u30_4.n) (u30_4.f k10).Rest.Low z8.1.Rest.Low) (cond (Nat.blt k10 u30_4.n) (u30_4.f k10).Rest.High z8.1.Rest.High)) (aK.mk (cond (Nat.blt k10 u30_4.n) (u30_4.f k10).Lift.Low z8.1.Lift.Low) (cond (Nat.blt k10 u30_4.n) (u30_4.f k10).Lift.High z8.1.Lift.High))))), (Sq.mk (u30_6.n + 1) (fun k11 => (cond (Nat.blt k11 u30_6.n) (u30_6.f k11) (wr (0 - (u30_7.f (Int.toNat u30_8))))))), (wr (u30_8 + (1 : Int)))))) (
 .fail)) (
 .fail))) (
 .fail)) (
 .leaf (.l (u30_2, u30_4, u30_6)))
def tT : LpM := ⟨(Sq Int) × (Sq ay) × (Sq Int) × (Sq Int) × Int, Int × (Sq aB) × (Sq Int) × Int, Int × (Sq aB) × (Sq Int), Unit, fun p => ⟨[(0, .ptr 0 0), (2, .ptr 1 0), (3, .ptr 65 0), (4, .ptr 129 0), (5, .ptr 449 0), (6, .int .i64 p.1.2.2.2.2), (8, .int .i64 ((p.1.2.1.n : Nat) : Int)), (9, .ptr 2305 0), (11, .own 2625 0), (16, .int .i64 p.2.2.2.2)], [(0, .var [sqA 1 (eI .u8) p.1.1, .int .i64 p.2.1]), (1, .var [.own 2 0, .own 3 0, .own 4 0, .own 5 0]), (2, .nilrow 0), (3, .nilrow 0), (4, .nilrow 0), (5, .nilrow 0), (65, .var [.own 66 0, .own 67 0]), (66, .nilrow 0), (67, .nilrow 0), (129, .var [.own 130 0, .own 131 0]), (130, .nilrow 0), (131, .nilrow 0), (257, rowA 0 2 61 ay.enc p.1.2.1), (322, rowA 0 10 70 aB.enc p.2.2.1), (387, .nilrow 0), (388, .nilrow 0), (449, .var [.own 257 0, .own 322 0, .own 387 0, .own 388 0]), (2177, rowA 0 1 3 (eI .i64) p.1.2.2.1), (2242, rowA 0 1 3 (eI .i64) p.2.2.2.1), (2305, .var [.own 2177 0, .own 2242 0]), (2625, rowA 0 1 3 (eI .i64) p.1.2.2.2.1)], 3201⟩, fun f v => rU f.1 f.2.1 f.2.2.1 f.2.2.2.1 f.2.2.2.2 v.1 v.2.1 v.2.2.1 v.2.2.2, true, (.exit 6), (fun x a => ⟨[(0, .ptr 0 0), (2, .ptr 1 0), (3, .ptr 65 0), (4, .ptr 129 0), (5, .ptr 449 0), (9, .ptr 2305 0)], [(0, .var [cellS x 0 0, .int .i64 a.1]), (1, .var [.own 2 0, .own 3 0, .own 4 0, .own 5 0]), (2, .nilrow 0), (3, .nilrow 0), (4, .nilrow 0), (5, .nilrow 0), (65, .var [.own 66 0, .own 67 0]), (66, .nilrow 0), (67, .nilrow 0), (129, .var [.own 130 0, .own 131 0]), (130, .nilrow 0), (131, .nilrow 0), (257, blkS x 257), (322, rowA 0 10 70 aB.enc a.2.1), (387, .nilrow 0), (388, .nilrow 0), (449, .var [.own 257 0, .own 322 0, .own 387 0, .own 388 0]), (2177, blkS x 2177), (2242, rowA 0 1 3 (eI .i64) a.2.2), (2305, .var [.own 2177 0, .own 2242 0]), (2625, blkS x 2625)], 3201⟩), .ret, (fun _ _ => ⟨[], [], 0⟩), c1, c1k⟩
def mo (u30_1 : Sq Int) (u30_3 : Sq ay) (u30_5 u30_7 : Sq Int) (u30_9 u30_2 : Int) (u30_4 : Sq aB) (u30_6 : Sq Int) (u30_8 : Int) : Option ((Int × (Sq aB) × (Sq Int)) ⊕ (Unit)) := tT.val ((u30_1, u30_3, u30_5, u30_7, u30_9), (u30_2, u30_4, u30_6, u30_8))
theorem Uf (u30_1 : Sq Int) (u30_3 : Sq ay) (u30_5 u30_7 : Sq Int) (u30_9 u30_2 : Int) (u30_4 : Sq aB) (u30_6 : Sq Int) (u30_8 : Int) : mo u30_1 u30_3 u30_5 u30_7 u30_9 u30_2 u30_4 u30_6 u30_8 = fixO (fun v : Int × (Sq aB) × (Sq Int) × Int => rU u30_1 u30_3 u30_5 u30_7 u30_9 v.1 v.2.1 v.2.2.1 v.2.2.2) (u30_2, u30_4, u30_6, u30_8) := tT.val_eq (fun x => ((sqD dI (cellS x 0 0), sqB ay.dec (blkS x 257), sqB dI (blkS x 2177), sqB dI (blkS x 2625), intA (aget x.tm 6)), (intA (cellS x 0 1), sqB aB.dec (blkS x 322), sqB dI (blkS x 2242), intA (aget x.tm 16)))) (fun p => by kernel_rfl) ((u30_1, u30_3, u30_5, u30_7, u30_9), (u30_2, u30_4, u30_6, u30_8))
def Lj (c : aJ) : DT (SAir × au × dN × Int) :=
 .bind (zA c (3 : Int)) fun z10 =>
 .ite z10.1 (
 .bind (bq (aJ.mk c.l_ z10.2) (5 : Int)) fun z11 =>
 .sum (Cv c.l_ (2 : Int) z11.1 z11.2 (Sq.mk 2 (fun k12 => (ay.mk (cond (Nat.blt k12 1) (0 : Int) (10 : Int)) (cond (Nat.blt k12 1) true true))))) (fun y0 =>
 .ite (decide ((0 : Int) ≤ ((y0.2.n : Nat) : Int) ∧ ((y0.2.n : Nat) : Int) ≤ ((y0.2.n : Nat) : Int) ∧ ((y0.2.n : Nat) : Int) * ((8 : Nat) : Int) ≤ 140737488355328 ∧ ((y0.2.n : Nat) : Int) ≤ 1099511627776)) (
 .sum (x9 c.l_ y0.2 (2 : Int) y0.1 (Sq.mk (Int.toNat ((y0.2.n : Nat) : Int)) (fun _ => (0 : Int))) (2 : Int)) (fun y1 =>
 .ite (decide ((0 : Int) ≤ ((y0.2.n : Nat) : Int) ∧ ((y0.2.n : Nat) : Int) ≤ ((y0.2.n : Nat) : Int) ∧ ((y0.2.n : Nat) : Int) * ((8 : Nat) : Int) ≤ 140737488355328 ∧ ((y0.2.n : Nat) : Int) ≤ 1099511627776)) (
 .ite (decide (((y0.2.n : Nat) : Int) > (1 : Int))) (
 .bind (bq (aJ.mk c.l_ y1.1) (6 : Int)) fun z12 =>
 .sum (yc c.l_ y0.2 y1.2 (2 : Int) z12.1 z12.2 (Sq.mk 0 (fun _ => (aB.mk (0 : Int) (0 : Int) (0 : Int) (0 : Int) false false (aK.mk (0 : Int) (0 : Int)) (aK.mk (0 : Int) (0 : Int))))) (Sq.mk 0 (fun _ => (0 : Int))) (Sq.mk (Int.toNat ((y0.2.n : Nat) : Int)) (fun _ => (0 : Int)))) (fun y2 =>
 .sum (mo c.l_ y0.2 y1.2 y2.2.2.2 (2 : Int) y2.1 y2.2.1 y2.2.2.1 (2 : Int)) (fun y3 =>
 .bind (jW (aJ.mk c.l_ y3.1) (SAir.mk (aL.mk y0.2 y3.2.1) (Sq.mk 0 (fun _ => (SFan.mk (0 : Int) false false (Sq.mk 0 (fun _ => (aM.mk (0 : Int) (0 : Int))))))) (Sq.mk 0 (fun _ => (aC.mk (0 : Int) (0 : Int) (Sq.mk 0 (fun _ => (0 : Int)))))))) fun z13 =>
 .bind (zB (aJ.mk c.l_ z13.2.1) (SAir.mk (aL.mk y0.2 y3.2.1) z13.2.2.1 z13.2.2.2) z13.1 (dN.mk y1.2 y3.2.2)) fun z14 =>
 .bind (oD (aJ.mk c.l_ z14.1) z13.1) fun z15 =>
 .leaf ((SAir.mk (aL.mk y0.2 z14.2) z13.2.2.1 z13.2.2.2), z15.1, (dN.mk y1.2 y3.2.2), z15.2)) (fun _ => .fail)) (fun _ => .fail)) (
 .sum (mo c.l_ y0.2 y1.2 (Sq.mk (Int.toNat ((y0.2.n : Nat) : Int)) (fun _ => (0 : Int))) (2 : Int) y1.1 (Sq.mk 0 (fun _ => (aB.mk (0 : Int) (0 : Int) (0 : Int) (0 : Int) false false (aK.mk (0 : Int) (0 : Int)) (aK.mk (0 : Int) (0 : Int))))) (Sq.mk 0 (fun _ => (0 : Int))) (2 : Int)) (fun y4 =>
 .bind (jW (aJ.mk c.l_ y4.1) (SAir.mk (aL.mk y0.2 y4.2.1) (Sq.mk 0 (fun _ => (SFan.mk (0 : Int) false false (Sq.mk 0 (fun _ => (aM.mk (0 : Int) (0 : Int))))))) (Sq.mk 0 (fun _ => (aC.mk (0 : Int) (0 : Int) (Sq.mk 0 (fun _ => (0 : Int)))))))) fun z16 =>
 .bind (zB (aJ.mk c.l_ z16.2.1) (SAir.mk (aL.mk y0.2 y4.2.1) z16.2.2.1 z16.2.2.2) z16.1 (dN.mk y1.2 y4.2.2)) fun z17 =>
 .bind (oD (aJ.mk c.l_ z17.1) z16.1) fun z18 =>
 .leaf ((SAir.mk (aL.mk y0.2 z17.2) z16.2.2.1 z16.2.2.2), z18.1, (dN.mk y1.2 y4.2.2), z18.2)) (fun _ => .fail))) (
 .fail)) (fun _ => .fail)) (
 .fail)) (fun _ => .fail)) (
 .bind (bq (aJ.mk c.l_ z10.2) (5 : Int)) fun z19 =>
 .sum (Cv c.l_ (1 : Int) z19.1 z19.2 (Sq.mk 1 (fun _ => (ay.mk (0 : Int) true)))) (fun y5 =>
 .ite (decide ((0 : Int) ≤ ((y5.2.n : Nat) : Int) ∧ ((y5.2.n : Nat) : Int) ≤ ((y5.2.n : Nat) : Int) ∧ ((y5.2.n : Nat) : Int) * ((8 : Nat) : Int) ≤ 140737488355328 ∧ ((y5.2.n : Nat) : Int) ≤ 1099511627776)) (
 .sum (x9 c.l_ y5.2 (1 : Int) y5.1 (Sq.mk (Int.toNat ((y5.2.n : Nat) : Int)) (fun _ => (0 : Int))) (1 : Int)) (fun y6 =>
 .ite (decide ((0 : Int) ≤ ((y5.2.n : Nat) : Int) ∧ ((y5.2.n : Nat) : Int) ≤ ((y5.2.n : Nat) : Int) ∧ ((y5.2.n : Nat) : Int) * ((8 : Nat) : Int) ≤ 140737488355328 ∧ ((y5.2.n : Nat) : Int) ≤ 1099511627776)) (
 .ite (decide (((y5.2.n : Nat) : Int) > (1 : Int))) (
 .bind (bq (aJ.mk c.l_ y6.1) (6 : Int)) fun z20 =>
 .sum (yc c.l_ y5.2 y6.2 (1 : Int) z20.1 z20.2 (Sq.mk 0 (fun _ => (aB.mk (0 : Int) (0 : Int) (0 : Int) (0 : Int) false false (aK.mk (0 : Int) (0 : Int)) (aK.mk (0 : Int) (0 : Int))))) (Sq.mk 0 (fun _ => (0 : Int))) (Sq.mk (Int.toNat ((y5.2.n : Nat) : Int)) (fun _ => (0 : Int)))) (fun y7 =>
 .sum (mo c.l_ y5.2 y6.2 y7.2.2.2 (1 : Int) y7.1 y7.2.1 y7.2.2.1 (1 : Int)) (fun y8 =>
 .bind (jW (aJ.mk c.l_ y8.1) (SAir.mk (aL.mk y5.2 y8.2.1) (Sq.mk 0 (fun _ => (SFan.mk (0 : Int) false false (Sq.mk 0 (fun _ => (aM.mk (0 : Int) (0 : Int))))))) (Sq.mk 0 (fun _ => (aC.mk (0 : Int) (0 : Int) (Sq.mk 0 (fun _ => (0 : Int)))))))) fun z21 =>
 .bind (zB (aJ.mk c.l_ z21.2.1) (SAir.mk (aL.mk y5.2 y8.2.1) z21.2.2.1 z21.2.2.2) z21.1 (dN.mk y6.2 y8.2.2)) fun z22 =>
 .bind (oD (aJ.mk c.l_ z22.1) z21.1) fun z23 =>
 .leaf ((SAir.mk (aL.mk y5.2 z22.2) z21.2.2.1 z21.2.2.2), z23.1, (dN.mk y6.2 y8.2.2), z23.2)) (fun _ => .fail)) (fun _ => .fail)) (
 .sum (mo c.l_ y5.2 y6.2 (Sq.mk (Int.toNat ((y5.2.n : Nat) : Int)) (fun _ => (0 : Int))) (1 : Int) y6.1 (Sq.mk 0 (fun _ => (aB.mk (0 : Int) (0 : Int) (0 : Int) (0 : Int) false false (aK.mk (0 : Int) (0 : Int)) (aK.mk (0 : Int) (0 : Int))))) (Sq.mk 0 (fun _ => (0 : Int))) (1 : Int)) (fun y9 =>
 .bind (jW (aJ.mk c.l_ y9.1) (SAir.mk (aL.mk y5.2 y9.2.1) (Sq.mk 0 (fun _ => (SFan.mk (0 : Int) false false (Sq.mk 0 (fun _ => (aM.mk (0 : Int) (0 : Int))))))) (Sq.mk 0 (fun _ => (aC.mk (0 : Int) (0 : Int) (Sq.mk 0 (fun _ => (0 : Int)))))))) fun z24 =>
 .bind (zB (aJ.mk c.l_ z24.2.1) (SAir.mk (aL.mk y5.2 y9.2.1) z24.2.2.1 z24.2.2.2) z24.1 (dN.mk y6.2 y9.2.2)) fun z25 =>
 .bind (oD (aJ.mk c.l_ z25.1) z24.1) fun z26 =>
 .leaf ((SAir.mk (aL.mk y5.2 z25.2) z24.2.2.1 z24.2.2.2), z26.1, (dN.mk y6.2 y9.2.2), z26.2)) (fun _ => .fail))) (
 .fail)) (fun _ => .fail)) (
 .fail)) (fun _ => .fail))
def iF : FnM := nfM (aJ) (SAir × au × dN × Int) (fun p => ([.ptr 0 0], [.var (aJ.enc p)])) (fun p => Lj p) (fun r => .tup [.agg [.own 1 0, .own 2 0, .own 3 0, .own 4 0], .agg [.own 5 0, .own 6 0], .agg (dN.enc r.2.2.1)]) (fun ins r => [.var [R8 ins 0 0, .int .i64 r.2.2.2], rowA 0 2 61 ay.enc r.1.Mine.Places, rowA 0 10 70 aB.enc r.1.Mine.Roads, rowA 0 4 73 SFan.enc r.1.Fans, rowA 0 3 91 aC.enc r.1.Doors, rowA 0 1 3 (eI .i64) r.2.1.Fans, rowA 0 1 3 (eI .i64) r.2.1.Doors])
def Pv : Env := envM [(27, rV.c), (28, gu.c), (29, iT.c), (30, vL.c), (31, kR.c), (32, yL.c), (33, pW.c)] [(6, [0, 2, 3, 4, 5, 6, 7], [0, 2, 3, 4, 5, 6]), (12, [0, 2, 3, 4, 5, 6, 8, 9, 10], [0, 2, 3, 4, 5, 6, 8, 9]), (18, [0, 2, 3, 4, 5, 6, 8, 9, 11, 12], [0, 2, 3, 4, 5, 6, 8, 9, 11]), (30, [0, 2, 3, 4, 5, 6, 8, 9, 11, 16], [0, 2, 3, 4, 5, 9]), (3000033, [1], [])] [(6, vJ.c), (12, tO.c), (18, tQ.c), (30, tT.c)] [(1000018, [.asrow 2242 3 1 (fun _ => (eI .i64) (0 : Int)), .asrow 322 70 10 (fun _ => aB.enc (aB.mk (0 : Int) (0 : Int) (0 : Int) (0 : Int) false false (aK.mk (0 : Int) (0 : Int)) (aK.mk (0 : Int) (0 : Int))))]), (36, [.asrow 387 73 4 (fun _ => SFan.enc (SFan.mk (0 : Int) false false (Sq.mk 0 (fun _ => (aM.mk (0 : Int) (0 : Int)))))), .asrow 388 91 3 (fun _ => aC.enc (aC.mk (0 : Int) (0 : Int) (Sq.mk 0 (fun _ => (0 : Int)))))]), (37, [.freeze 3265, .freeze 3266, .freeze 2177, .freeze 2242]), (1000030, [.asrow 2242 3 1 (fun _ => (eI .i64) (0 : Int)), .asrow 322 70 10 (fun _ => aB.enc (aB.mk (0 : Int) (0 : Int) (0 : Int) (0 : Int) false false (aK.mk (0 : Int) (0 : Int)) (aK.mk (0 : Int) (0 : Int))))])] [(6, [0, 1, 2, 3, 4, 5, 65, 66, 67, 129, 130, 131, 257, 322, 387, 388, 449]), (12, [0, 1, 2, 3, 4, 5, 65, 66, 67, 129, 130, 131, 257, 322, 387, 388, 449, 2177, 2242, 2305]), (18, [0, 1, 2, 3, 4, 5, 65, 66, 67, 129, 130, 131, 257, 322, 387, 388, 449, 2177, 2242, 2305, 2625]), (30, [0, 1, 2, 3, 4, 5, 65, 66, 67, 129, 130, 131, 257, 322, 387, 388, 449, 2177, 2242, 2305, 2625])] 1
def EY : Env := { Pv with nt := 189 }
theorem Qe : aG EY (aH 6 Tryz.f11) vJ.c := vJ.tells 1793 (fun _ => by kernel_rfl) (fun _ _ _ _ => by kernel_rfl) (fun _ _ _ _ => by kernel_rfl) fun R f v N K => by kernel_rfl
theorem Oo : aG EY (aH 12 Tryz.f11) tO.c := tO.tells 2561 (fun _ => by kernel_rfl) (fun _ _ _ _ => by kernel_rfl) (fun _ _ _ _ => by kernel_rfl) fun R f v N K => by kernel_rfl
theorem Oq : aG EY (aH 18 Tryz.f11) tQ.c := tQ.tells 3073 (fun _ => by kernel_rfl) (fun _ _ _ _ => by kernel_rfl) (fun _ _ _ _ => by kernel_rfl) fun R f v N K => by kernel_rfl
theorem Ot : aG EY (aH 30 Tryz.f11) tT.c := tT.tells 3201 (fun _ => by kernel_rfl) (fun _ _ _ _ => by kernel_rfl) (fun _ _ _ _ => by kernel_rfl) fun R f v N K => by kernel_rfl
theorem kQ : aN Tryz.prog 11 iF.c := iF.tells Tryz.func11 (show ∀ p, arun Pv Tryz.f11 (iF.enc p).1 (iF.enc p).2 = _ from fun p => by kernel_rfl) (bf [aH 6 Tryz.f11, aH 12 Tryz.f11, aH 18 Tryz.f11, aH 30 Tryz.f11] (by kernel_rfl) ⟨lpT (by kernel_rfl) Qe, ⟨lpT (by kernel_rfl) Oo, ⟨lpT (by kernel_rfl) Oq, ⟨lpT (by kernel_rfl) Ot, trivial⟩⟩⟩⟩) (.cons Db (.cons jq (.cons qB (.cons Wn (.cons Ow (.cons X4 (.cons RA .nil)))))))
def wW (c : aJ) : Option (SAir × au × dN × Int) := iF.val c
theorem abd (c : aJ) : wW c = (Lj c).get := iF.val_eq (fun x => aJ.dec (varL (dB x.2 0))) (fun p => by kernel_rfl) c
def ou (u3_0 : Sq Int) (_u3_2 : Sq ay) (_u3_3 : Sq aB) (u3_4 : Sq SFan) (_u3_5 : Sq aC) (u3_1 : Int) (u3_6 : Sq Int) (u3_7 : Int) : DT (LR (Int × (Sq Int) × Int) (Int × (Sq Int)) (Unit)) :=
 .ite (decide (u3_7 < ((u3_4.n : Nat) : Int))) (
 .bind (bq (aJ.mk u3_0 u3_1) (4 : Int)) fun z0 =>
 .ite (decide ((u3_6.n + 1) * 8 ≤ 140737488355328 ∧ (u3_6.n + 1) ≤ 1099511627776)) (
 .leaf (.next (z0.2, (Sq.mk (u3_6.n + 1) (fun k0 => (cond (Nat.blt k0 u3_6.n) (u3_6.f k0) (wr (z0.1 - (1 : Int)))))), (wr (u3_7 + (1 : Int)))))) (
 .fail)) (
 .leaf (.l (u3_1, u3_6)))
def oq : LpM := ⟨(Sq Int) × (Sq ay) × (Sq aB) × (Sq SFan) × (Sq aC), Int × (Sq Int) × Int, Int × (Sq Int), Unit, fun p => ⟨[(0, .ptr 0 0), (3, .ptr 1 0), (4, .ptr 65 0), (5, .ptr 129 0), (6, .int .i64 p.2.2.2)], [(0, .var [sqA 1 (eI .u8) p.1.1, .int .i64 p.2.1]), (1, .var [sqA 2 ay.enc p.1.2.1, sqA 10 aB.enc p.1.2.2.1, sqA 4 SFan.enc p.1.2.2.2.1, sqA 3 aC.enc p.1.2.2.2.2]), (65, .var [.own 66 0, .own 67 0]), (66, .nilrow 0), (67, .nilrow 0), (129, .var [.own 130 0, .own 131 0]), (130, rowA 0 1 3 (eI .i64) p.2.2.1), (131, .nilrow 0)], 257⟩, fun f v => ou f.1 f.2.1 f.2.2.1 f.2.2.2.1 f.2.2.2.2 v.1 v.2.1 v.2.2, true, (.exit 0), (fun x a => ⟨[(0, .ptr 0 0), (3, .ptr 1 0), (4, .ptr 65 0), (5, .ptr 129 0)], [(0, .var [cellS x 0 0, .int .i64 a.1]), (1, blkS x 1), (65, .var [.own 66 0, .own 67 0]), (66, .nilrow 0), (67, .nilrow 0), (129, .var [.own 130 0, .own 131 0]), (130, rowA 0 1 3 (eI .i64) a.2), (131, .nilrow 0)], 257⟩), .ret, (fun _ _ => ⟨[], [], 0⟩), c1, c1k⟩
def Ko (u3_0 : Sq Int) (u3_2 : Sq ay) (u3_3 : Sq aB) (u3_4 : Sq SFan) (u3_5 : Sq aC) (u3_1 : Int) (u3_6 : Sq Int) (u3_7 : Int) : Option ((Int × (Sq Int)) ⊕ (Unit)) := oq.val ((u3_0, u3_2, u3_3, u3_4, u3_5), (u3_1, u3_6, u3_7))
theorem Qg (u3_0 : Sq Int) (u3_2 : Sq ay) (u3_3 : Sq aB) (u3_4 : Sq SFan) (u3_5 : Sq aC) (u3_1 : Int) (u3_6 : Sq Int) (u3_7 : Int) : Ko u3_0 u3_2 u3_3 u3_4 u3_5 u3_1 u3_6 u3_7 = fixO (fun v : Int × (Sq Int) × Int => ou u3_0 u3_2 u3_3 u3_4 u3_5 v.1 v.2.1 v.2.2) (u3_1, u3_6, u3_7) := oq.val_eq (fun x => ((sqD dI (cellS x 0 0), sqD ay.dec (cellS x 1 0), sqD aB.dec (cellS x 1 1), sqD SFan.dec (cellS x 1 2), sqD aC.dec (cellS x 1 3)), (intA (cellS x 0 1), sqB dI (blkS x 130), intA (aget x.tm 6)))) (fun p => by kernel_rfl) ((u3_0, u3_2, u3_3, u3_4, u3_5), (u3_1, u3_6, u3_7))
def oC (u7_0 : Sq Int) (_u7_2 : Sq ay) (_u7_3 : Sq aB) (_u7_4 : Sq SFan) (u7_5 : Sq aC) (_u7_6 : Sq Int) (u7_1 : Int) (u7_7 : Sq Int) (u7_8 : Int) : DT (LR (Int × (Sq Int) × Int) (Int × (Sq Int)) (Unit)) :=
 .ite (decide (u7_8 < ((u7_5.n : Nat) : Int))) (
 .ite (decide ((0 : Int) ≤ u7_8 ∧ u7_8 < ((u7_5.n : Nat) : Int))) (
 .bind (bq (aJ.mk u7_0 u7_1) (wr ((((u7_5.f (Int.toNat u7_8)).Rests.n : Nat) : Int) + (1 : Int)))) fun z1 =>
 .ite (decide ((u7_7.n + 1) * 8 ≤ 140737488355328 ∧ (u7_7.n + 1) ≤ 1099511627776)) (
 .leaf (.next (z1.2, (Sq.mk (u7_7.n + 1) (fun k1 => (cond (Nat.blt k1 u7_7.n) (u7_7.f k1) (wr (z1.1 - (1 : Int)))))), (wr (u7_8 + (1 : Int)))))) (
 .fail)) (
 .fail)) (
 .leaf (.l (u7_1, u7_7)))
def oz : LpM := ⟨(Sq Int) × (Sq ay) × (Sq aB) × (Sq SFan) × (Sq aC) × (Sq Int), Int × (Sq Int) × Int, Int × (Sq Int), Unit, fun p => ⟨[(0, .ptr 0 0), (3, .ptr 1 0), (4, .ptr 65 0), (5, .ptr 129 0), (7, .int .i64 p.2.2.2)], [(0, .var [sqA 1 (eI .u8) p.1.1, .int .i64 p.2.1]), (1, .var [sqA 2 ay.enc p.1.2.1, sqA 10 aB.enc p.1.2.2.1, sqA 4 SFan.enc p.1.2.2.2.1, sqA 3 aC.enc p.1.2.2.2.2.1]), (65, .var [.own 66 0, .own 67 0]), (66, .nilrow 0), (67, .nilrow 0), (129, .var [.own 130 0, .own 131 0]), (130, rowA 0 1 3 (eI .i64) p.1.2.2.2.2.2), (131, rowA 0 1 3 (eI .i64) p.2.2.1)], 321⟩, fun f v => oC f.1 f.2.1 f.2.2.1 f.2.2.2.1 f.2.2.2.2.1 f.2.2.2.2.2 v.1 v.2.1 v.2.2, true, (.exit 2), (fun x a => ⟨[(4, .ptr 65 0), (5, .ptr 129 0)], [(0, .var [cellS x 0 0, .int .i64 a.1]), (1, blkS x 1), (65, .var [.own 66 0, .own 67 0]), (66, .nilrow 0), (67, .nilrow 0), (129, .var [.own 130 0, .own 131 0]), (130, blkS x 130), (131, rowA 0 1 3 (eI .i64) a.2)], 321⟩), .ret, (fun _ _ => ⟨[], [], 0⟩), c1, c1k⟩
def Kq (u7_0 : Sq Int) (u7_2 : Sq ay) (u7_3 : Sq aB) (u7_4 : Sq SFan) (u7_5 : Sq aC) (u7_6 : Sq Int) (u7_1 : Int) (u7_7 : Sq Int) (u7_8 : Int) : Option ((Int × (Sq Int)) ⊕ (Unit)) := oz.val ((u7_0, u7_2, u7_3, u7_4, u7_5, u7_6), (u7_1, u7_7, u7_8))
theorem Qh (u7_0 : Sq Int) (u7_2 : Sq ay) (u7_3 : Sq aB) (u7_4 : Sq SFan) (u7_5 : Sq aC) (u7_6 : Sq Int) (u7_1 : Int) (u7_7 : Sq Int) (u7_8 : Int) : Kq u7_0 u7_2 u7_3 u7_4 u7_5 u7_6 u7_1 u7_7 u7_8 = fixO (fun v : Int × (Sq Int) × Int => oC u7_0 u7_2 u7_3 u7_4 u7_5 u7_6 v.1 v.2.1 v.2.2) (u7_1, u7_7, u7_8) := oz.val_eq (fun x => ((sqD dI (cellS x 0 0), sqD ay.dec (cellS x 1 0), sqD aB.dec (cellS x 1 1), sqD SFan.dec (cellS x 1 2), sqD aC.dec (cellS x 1 3), sqB dI (blkS x 130)), (intA (cellS x 0 1), sqB dI (blkS x 131), intA (aget x.tm 7)))) (fun p => by kernel_rfl) ((u7_0, u7_2, u7_3, u7_4, u7_5, u7_6), (u7_1, u7_7, u7_8))
def Dc (c : aJ) (a : SAir) : DT (au × Int) :=
 .sum (Ko c.l_ a.Mine.Places a.Mine.Roads a.Fans a.Doors c.at_ (Sq.mk 0 (fun _ => (0 : Int))) (0 : Int)) (fun y0 =>
 .sum (Kq c.l_ a.Mine.Places a.Mine.Roads a.Fans a.Doors y0.2 y0.1 (Sq.mk 0 (fun _ => (0 : Int))) (0 : Int)) (fun y1 =>
 .leaf ((au.mk y0.2 y1.2), y1.1)) (fun _ => .fail)) (fun _ => .fail)
def mJ : FnM := nfM (aJ × SAir) (au × Int) (fun p => ([.ptr 0 0, .agg (SAir.enc p.2)], [.var (aJ.enc p.1)])) (fun p => Dc p.1 p.2) (fun _ => .agg [.own 1 0, .own 2 0]) (fun ins r => [.var [R8 ins 0 0, .int .i64 r.2], rowA 0 1 3 (eI .i64) r.1.Fans, rowA 0 1 3 (eI .i64) r.1.Doors])
def GK : Env := envM [(28, gu.c)] [(3, [0, 3, 4, 5, 6], [0, 3, 4, 5]), (7, [0, 3, 4, 5, 7], [4, 5])] [(3, oq.c), (7, oz.c)] [(1000003, [.asrow 130 3 1 (fun _ => (eI .i64) (0 : Int))]), (1000007, [.asrow 131 3 1 (fun _ => (eI .i64) (0 : Int))])] [(3, [0, 1, 65, 66, 67, 129, 130, 131]), (7, [0, 1, 65, 66, 67, 129, 130, 131])] 1
def Lp : Env := { GK with nt := 47 }
theorem KS : aG Lp (aH 3 Tryz.f19) oq.c := oq.tells 257 (fun _ => by kernel_rfl) (fun _ _ _ _ => by kernel_rfl) (fun _ _ _ _ => by kernel_rfl) fun R f v N K => by kernel_rfl
theorem KT : aG Lp (aH 7 Tryz.f19) oz.c := oz.tells 321 (fun _ => by kernel_rfl) (fun _ _ _ _ => by kernel_rfl) (fun _ _ _ _ => by kernel_rfl) fun R f v N K => by kernel_rfl
theorem Qi : aN Tryz.prog 19 mJ.c := mJ.tells Tryz.func19 (show ∀ p, arun GK Tryz.f19 (mJ.enc p).1 (mJ.enc p).2 = _ from fun p => by kernel_rfl) (bf [aH 3 Tryz.f19, aH 7 Tryz.f19] (by kernel_rfl) ⟨lpT (by kernel_rfl) KS, ⟨lpT (by kernel_rfl) KT, trivial⟩⟩) (.cons jq .nil)
def Ip (c : aJ) (a : SAir) : Option (au × Int) := mJ.val (c, a)
theorem Wo (c : aJ) (a : SAir) : Ip c a = (Dc c a).get := mJ.val_eq (fun x => (aJ.dec (varL (dB x.2 0)), SAir.dec (aggL (gd x.1 1)))) (fun p => by kernel_rfl) (c, a)
def ajv (k n : Int) : DT (Int) :=
 .ite (decide (n < (1 : Int))) (
 .leaf (0 : Int)) (
 .ite (n != 0) (
 .ite (decide ((Int.tmod k n) < (0 : Int))) (.leaf (wr ((Int.tmod k n) + n))) (.leaf (Int.tmod k n))) (
 .fail))
def aeb : FnM := flM (Int × Int) (Int) (fun p => ([.int .i64 p.1, .int .i64 p.2], [])) (fun p => ajv p.1 p.2) (fun r => .int .i64 r) (fun _ => rfl)
def aju : Env := envM [] [] [] [] [] 0
theorem agF : aN Tryz.prog 25 aeb.c := aeb.tells Tryz.func25 (show ∀ p, arun aju Tryz.f25 (aeb.enc p).1 (aeb.enc p).2 = _ from fun p => by kernel_rfl) aP .nil
def Mod (k n : Int) : Option (Int) := aeb.val (k, n)
theorem akv (k n : Int) : Mod k n = (ajv k n).get := aeb.val_eq (fun x => (intA (gd x.1 0), intA (gd x.1 1))) (fun p => by kernel_rfl) (k, n)
def ajz (l : Sq Int) : DT (aJ) :=
 .ite (decide ((0 : Int) ≤ (if (300 : Int) < ((l.n : Nat) : Int) then (300 : Int) else ((l.n : Nat) : Int)) ∧ (if (300 : Int) < ((l.n : Nat) : Int) then (300 : Int) else ((l.n : Nat) : Int)) ≤ ((l.n : Nat) : Int))) (.leaf (aJ.mk (Sq.mk (Int.toNat (if (300 : Int) < ((l.n : Nat) : Int) then (300 : Int) else ((l.n : Nat) : Int))) l.f) (0 : Int))) (.fail)
def Uj : FnM := nfM ((Sq Int)) (aJ) (fun p => ([sqA 1 (eI .u8) p], [])) (fun p => ajz p) (fun _ => .ptr 0 0) (fun _ r => [.var (aJ.enc r)])
def ajy : Env := envM [] [] [] [] [] 0
theorem Df : aN Tryz.prog 10 Uj.c := Uj.tells Tryz.func10 (show ∀ p, arun ajy Tryz.f10 (Uj.enc p).1 (Uj.enc p).2 = _ from fun p => by kernel_rfl) aP .nil
def New (l : Sq Int) : Option (aJ) := Uj.val l
theorem akz (l : Sq Int) : New l = (ajz l).get := Uj.val_eq (fun x => sqD dI (gd x.1 0)) (fun p => by kernel_rfl) l
end
end Go.Proofs.YtmfiagdelnddkaaGreat.Ab
