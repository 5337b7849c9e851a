/- Mirrors of code, stage 11. -/
import Derived.Test.YtnoeblpanfbpjaaGreatZn
namespace Go.Proofs.YtnoeblpanfbpjaaGreat.Ab
open Go
attribute [local irreducible] arun

structure SCodes where
  l_ : (Sq Int)
  at_ : Int
def SCodes.enc (x : SCodes) : List AV := [sqA 1 (eI .u8) x.l_, .int .i64 x.at_]
def SCodes.dec (l : List AV) : SCodes := ⟨sqD dI (gd l 0), intA (gd l 1)⟩
structure SPlace where
  Height : Int
  Surface : Bool
def SPlace.enc (x : SPlace) : List AV := [.int .i64 x.Height, .bool x.Surface]
def SPlace.dec (l : List AV) : SPlace := ⟨intA (gd l 0), boolA (gd l 1)⟩
structure SSpan where
  Low : Int
  High : Int
def SSpan.enc (x : SSpan) : List AV := [.int .i64 x.Low, .int .i64 x.High]
def SSpan.dec (l : List AV) : SSpan := ⟨intA (gd l 0), intA (gd l 1)⟩
structure SRoad where
  From : Int
  To : Int
  Length : Int
  Area : Int
  Walk : Bool
  Closed : Bool
  Rest : SSpan
  Lift : SSpan
def SRoad.enc (x : SRoad) : List AV := [.int .i64 x.From, .int .i64 x.To, .int .i64 x.Length, .int .i64 x.Area, .bool x.Walk, .bool x.Closed, .int .i64 x.Rest.Low, .int .i64 x.Rest.High, .int .i64 x.Lift.Low, .int .i64 x.Lift.High]
def SRoad.dec (l : List AV) : SRoad := ⟨intA (gd l 0), intA (gd l 1), intA (gd l 2), intA (gd l 3), boolA (gd l 4), boolA (gd l 5), ⟨intA (gd l 6), intA (gd l 7)⟩, ⟨intA (gd l 8), intA (gd l 9)⟩⟩
structure SPoint where
  Flow : Int
  Pressure : Int
def SPoint.enc (x : SPoint) : List AV := [.int .i64 x.Flow, .int .i64 x.Pressure]
def SPoint.dec (l : List AV) : SPoint := ⟨intA (gd l 0), intA (gd l 1)⟩
structure SFan where
  Road : Int
  Back : Bool
  Auxiliary : Bool
  Curve : (Sq SPoint)
def SFan.enc (x : SFan) : List AV := [.int .i64 x.Road, .bool x.Back, .bool x.Auxiliary, sqA 2 SPoint.enc x.Curve]
def SFan.dec (l : List AV) : SFan := ⟨intA (gd l 0), boolA (gd l 1), boolA (gd l 2), sqD SPoint.dec (gd l 3)⟩
structure SDoor where
  Road : Int
  Other : Int
  Rests : (Sq Int)
def SDoor.enc (x : SDoor) : List AV := [.int .i64 x.Road, .int .i64 x.Other, sqA 1 (eI .i64) x.Rests]
def SDoor.dec (l : List AV) : SDoor := ⟨intA (gd l 0), intA (gd l 1), sqD dI (gd l 2)⟩
structure SMine where
  Places : (Sq SPlace)
  Roads : (Sq SRoad)
def SMine.enc (x : SMine) : List AV := [sqA 2 SPlace.enc x.Places, sqA 10 SRoad.enc x.Roads]
def SMine.dec (l : List AV) : SMine := ⟨sqD SPlace.dec (gd l 0), sqD SRoad.dec (gd l 1)⟩
structure SAir where
  Mine : SMine
  Fans : (Sq SFan)
  Doors : (Sq SDoor)
def SAir.enc (x : SAir) : List AV := [sqA 2 SPlace.enc x.Mine.Places, sqA 10 SRoad.enc x.Mine.Roads, sqA 4 SFan.enc x.Fans, sqA 3 SDoor.enc x.Doors]
def SAir.dec (l : List AV) : SAir := ⟨⟨sqD SPlace.dec (gd l 0), sqD SRoad.dec (gd l 1)⟩, sqD SFan.dec (gd l 2), sqD SDoor.dec (gd l 3)⟩
structure SSetting where
  Fans : (Sq Int)
  Doors : (Sq Int)
def SSetting.enc (x : SSetting) : List AV := [sqA 1 (eI .i64) x.Fans, sqA 1 (eI .i64) x.Doors]
def SSetting.dec (l : List AV) : SSetting := ⟨sqD dI (gd l 0), sqD dI (gd l 1)⟩
structure SState where
  Pressures : (Sq Int)
  Flows : (Sq Int)
def SState.enc (x : SState) : List AV := [sqA 1 (eI .i64) x.Pressures, sqA 1 (eI .i64) x.Flows]
def SState.dec (l : List AV) : SState := ⟨sqD dI (gd l 0), sqD dI (gd l 1)⟩
structure SBounds where
  Low : (Sq Int)
  High : (Sq Int)
def SBounds.enc (x : SBounds) : List AV := [sqA 1 (eI .i64) x.Low, sqA 1 (eI .i64) x.High]
def SBounds.dec (l : List AV) : SBounds := ⟨sqD dI (gd l 0), sqD dI (gd l 1)⟩
structure Sjunction where
  air_ : SAir
  setting_ : SSetting
  pressures_ : (Sq Int)
  place_ : Int
def Sjunction.enc (x : Sjunction) : List AV := [sqA 2 SPlace.enc x.air_.Mine.Places, sqA 10 SRoad.enc x.air_.Mine.Roads, sqA 4 SFan.enc x.air_.Fans, sqA 3 SDoor.enc x.air_.Doors, sqA 1 (eI .i64) x.setting_.Fans, sqA 1 (eI .i64) x.setting_.Doors, sqA 1 (eI .i64) x.pressures_, .int .i64 x.place_]
def Sjunction.dec (l : List AV) : Sjunction := ⟨⟨⟨sqD SPlace.dec (gd l 0), sqD SRoad.dec (gd l 1)⟩, sqD SFan.dec (gd l 2), sqD SDoor.dec (gd l 3)⟩, ⟨sqD dI (gd l 4), sqD dI (gd l 5)⟩, sqD dI (gd l 6), intA (gd l 7)⟩
structure Sblower where
  Fan : SFan
  state_ : Int
def Sblower.enc (x : Sblower) : List AV := [.int .i64 x.Fan.Road, .bool x.Fan.Back, .bool x.Fan.Auxiliary, sqA 2 SPoint.enc x.Fan.Curve, .int .i64 x.state_]
def Sblower.dec (l : List AV) : Sblower := ⟨⟨intA (gd l 0), boolA (gd l 1), boolA (gd l 2), sqD SPoint.dec (gd l 3)⟩, intA (gd l 4)⟩
structure Sairway where
  Road : SRoad
  blowers_ : (Sq Sblower)
def Sairway.enc (x : Sairway) : List AV := [.int .i64 x.Road.From, .int .i64 x.Road.To, .int .i64 x.Road.Length, .int .i64 x.Road.Area, .bool x.Road.Walk, .bool x.Road.Closed, .int .i64 x.Road.Rest.Low, .int .i64 x.Road.Rest.High, .int .i64 x.Road.Lift.Low, .int .i64 x.Road.Lift.High, sqA 5 Sblower.enc x.blowers_]
def Sairway.dec (l : List AV) : Sairway := ⟨⟨intA (gd l 0), intA (gd l 1), intA (gd l 2), intA (gd l 3), boolA (gd l 4), boolA (gd l 5), ⟨intA (gd l 6), intA (gd l 7)⟩, ⟨intA (gd l 8), intA (gd l 9)⟩⟩, sqD Sblower.dec (gd l 10)⟩

/-! (*minecontrol/minecontroldraw.Codes).Next -/
noncomputable def Codes_Next_t (c : SCodes) (n : Int) : DT (Int × Int) :=
 .ite (decide (n < (1 : Int))) (
 .leaf ((0 : Int), c.at_)) (
 .ite (decide (c.at_ ≥ ((c.l_.n : Nat) : Int))) (
 .leaf ((0 : Int), c.at_)) (
 .ite (decide ((0 : Int) ≤ (wr ((wr (c.at_ + (1 : Int))) - (1 : Int))) ∧ (wr ((wr (c.at_ + (1 : Int))) - (1 : Int))) < ((c.l_.n : Nat) : Int))) (
 .ite (decide (n > (256 : Int))) (
 .ite (decide ((wr (c.at_ + (1 : Int))) < ((c.l_.n : Nat) : Int))) (
 .ite (decide ((0 : Int) ≤ (wr (c.at_ + (1 : Int))) ∧ (wr (c.at_ + (1 : Int))) < ((c.l_.n : Nat) : Int))) (
 .ite (n != 0) (.leaf ((Int.tmod (wr ((wr ((wr (c.l_.f (Int.toNat (wr ((wr (c.at_ + (1 : Int))) - (1 : Int)))))) * (256 : Int))) + (wr (c.l_.f (Int.toNat (wr (c.at_ + (1 : Int)))))))) n), (wr ((wr (c.at_ + (1 : Int))) + (1 : Int))))) (.fail)) (
 .fail)) (
 .ite (n != 0) (.leaf ((Int.tmod (wr (c.l_.f (Int.toNat (wr ((wr (c.at_ + (1 : Int))) - (1 : Int)))))) n), (wr (c.at_ + (1 : Int))))) (.fail))) (
 .ite (n != 0) (.leaf ((Int.tmod (wr (c.l_.f (Int.toNat (wr ((wr (c.at_ + (1 : Int))) - (1 : Int)))))) n), (wr (c.at_ + (1 : Int))))) (.fail))) (
 .fail)))
noncomputable def Codes_Next_m : FnM := nfM (SCodes × Int) (Int × Int) (fun p => ([.ptr 0 0, .int .i64 p.2], [.var (SCodes.enc p.1)])) (fun p => Codes_Next_t p.1 p.2) (fun r => .int .i64 r.1) (fun ins r => [.var [cellB ins 0 0, .int .i64 r.2]])
noncomputable def Codes_Next_env : Env := envM [] [] [] [] [] 1
theorem Codes_Next_tells : Tells Tryz.prog 23 Codes_Next_m.c := Codes_Next_m.tells Tryz.func23 (show ∀ p, arun Codes_Next_env Tryz.f23 (Codes_Next_m.enc p).1 (Codes_Next_m.enc p).2 = _ from fun p => by kernel_rfl) noLoops .nil
noncomputable def Codes_Next (c : SCodes) (n : Int) : Option (Int × Int) := Codes_Next_m.val (c, n)
theorem Codes_Next_eq (c : SCodes) (n : Int) : Codes_Next c n = (Codes_Next_t c n).get := Codes_Next_m.val_eq (fun x => (SCodes.dec (varL (dB x.2 0)), intA (gd x.1 1))) (fun p => by kernel_rfl) (c, n)

/-! (*minecontrol/minecontroldraw.Codes).One -/
noncomputable def Codes_One_t (c : SCodes) (n : Int) : DT (Bool × Int) :=
 .bind (Codes_Next c n) fun z0 =>
 .leaf ((z0.1 == (wr (n - (1 : Int)))), z0.2)
noncomputable def Codes_One_m : FnM := nfM (SCodes × Int) (Bool × Int) (fun p => ([.ptr 0 0, .int .i64 p.2], [.var (SCodes.enc p.1)])) (fun p => Codes_One_t p.1 p.2) (fun r => .bool r.1) (fun ins r => [.var [cellB ins 0 0, .int .i64 r.2]])
noncomputable def Codes_One_env : Env := envM [(23, Codes_Next_m.c)] [] [] [] [] 1
theorem Codes_One_tells : Tells Tryz.prog 22 Codes_One_m.c := Codes_One_m.tells Tryz.func22 (show ∀ p, arun Codes_One_env Tryz.f22 (Codes_One_m.enc p).1 (Codes_One_m.enc p).2 = _ from fun p => by kernel_rfl) noLoops (.cons Codes_Next_tells .nil)
noncomputable def Codes_One (c : SCodes) (n : Int) : Option (Bool × Int) := Codes_One_m.val (c, n)
theorem Codes_One_eq (c : SCodes) (n : Int) : Codes_One c n = (Codes_One_t c n).get := Codes_One_m.val_eq (fun x => (SCodes.dec (varL (dB x.2 0)), intA (gd x.1 1))) (fun p => by kernel_rfl) (c, n)

/-! (*minecontrol/minecontroldraw.Codes).Range -/
noncomputable def Codes_Range_t (c : SCodes) (low high : Int) : DT (Int × Int) :=
 .bind (Codes_Next c (wr ((wr (high - low)) + (1 : Int)))) fun z0 =>
 .leaf ((wr (low + z0.1)), z0.2)
noncomputable def Codes_Range_m : FnM := nfM (SCodes × Int × Int) (Int × Int) (fun p => ([.ptr 0 0, .int .i64 p.2.1, .int .i64 p.2.2], [.var (SCodes.enc p.1)])) (fun p => Codes_Range_t p.1 p.2.1 p.2.2) (fun r => .int .i64 r.1) (fun ins r => [.var [cellB ins 0 0, .int .i64 r.2]])
noncomputable def Codes_Range_env : Env := envM [(23, Codes_Next_m.c)] [] [] [] [] 1
theorem Codes_Range_tells : Tells Tryz.prog 24 Codes_Range_m.c := Codes_Range_m.tells Tryz.func24 (show ∀ p, arun Codes_Range_env Tryz.f24 (Codes_Range_m.enc p).1 (Codes_Range_m.enc p).2 = _ from fun p => by kernel_rfl) noLoops (.cons Codes_Next_tells .nil)
noncomputable def Codes_Range (c : SCodes) (low high : Int) : Option (Int × Int) := Codes_Range_m.val (c, low, high)
theorem Codes_Range_eq (c : SCodes) (low high : Int) : Codes_Range c low high = (Codes_Range_t c low high).get := Codes_Range_m.val_eq (fun x => (SCodes.dec (varL (dB x.2 0)), intA (gd x.1 1), intA (gd x.1 2))) (fun p => by kernel_rfl) (c, low, high)

/-! (*minecontrol/minecontroldraw.Codes).Road -/
noncomputable def Codes_Road_t (c : SCodes) (from_ to_ : Int) : DT (SRoad × Int) :=
 .bind (Codes_Range c (1 : Int) (400 : Int)) fun z0 =>
 .bind (Codes_Range (SCodes.mk c.l_ z0.2) (4 : Int) (30 : Int)) fun z1 =>
 .bind (Codes_Next (SCodes.mk c.l_ z1.2) (4 : Int)) fun z2 =>
 .bind (Codes_Range (SCodes.mk c.l_ z2.2) (1 : Int) (20 : Int)) fun z3 =>
 .bind (Codes_Next (SCodes.mk c.l_ z3.2) (3 : Int)) fun z4 =>
 .bind (Codes_Range (SCodes.mk c.l_ z4.2) (-300 : Int) (300 : Int)) fun z5 =>
 .bind (Codes_Next (SCodes.mk c.l_ z5.2) (20 : Int)) fun z6 =>
 .leaf ((SRoad.mk from_ to_ z0.1 z1.1 (decide (z2.1 > (0 : Int))) false (SSpan.mk z3.1 (wr (z3.1 + z4.1))) (SSpan.mk z5.1 (wr (z5.1 + z6.1)))), z6.2)
noncomputable def Codes_Road_m : FnM := nfM (SCodes × Int × Int) (SRoad × Int) (fun p => ([.ptr 0 0, .int .i64 p.2.1, .int .i64 p.2.2], [.var (SCodes.enc p.1)])) (fun p => Codes_Road_t p.1 p.2.1 p.2.2) (fun r => .agg (SRoad.enc r.1)) (fun ins r => [.var [cellB ins 0 0, .int .i64 r.2]])
noncomputable def Codes_Road_env : Env := envM [(24, Codes_Range_m.c), (23, Codes_Next_m.c)] [] [] [] [] 1
theorem Codes_Road_tells : Tells Tryz.prog 25 Codes_Road_m.c := Codes_Road_m.tells Tryz.func25 (show ∀ p, arun Codes_Road_env Tryz.f25 (Codes_Road_m.enc p).1 (Codes_Road_m.enc p).2 = _ from fun p => by kernel_rfl) noLoops (.cons Codes_Range_tells (.cons Codes_Next_tells .nil))
noncomputable def Codes_Road (c : SCodes) (from_ to_ : Int) : Option (SRoad × Int) := Codes_Road_m.val (c, from_, to_)
theorem Codes_Road_eq (c : SCodes) (from_ to_ : Int) : Codes_Road c from_ to_ = (Codes_Road_t c from_ to_).get := Codes_Road_m.val_eq (fun x => (SCodes.dec (varL (dB x.2 0)), intA (gd x.1 1), intA (gd x.1 2))) (fun p => by kernel_rfl) (c, from_, to_)

/-! (*minecontrol/minecontroldraw.Codes).Curve -/
noncomputable def Codes_Curve_l3_step (u3_1 : Sq Int) (u3_0 u3_2 : Int) (u3_3 : Sq SPoint) : DT (LR (Int × Int × (Sq SPoint)) (Int × (Sq SPoint)) (Unit)) :=
 .ite (decide (u3_0 > (0 : Int))) (
 .ite (decide ((0 : Int) ≤ (wr (((u3_3.n : Nat) : Int) - (1 : Int))) ∧ (wr (((u3_3.n : Nat) : Int) - (1 : Int))) < ((u3_3.n : Nat) : Int))) (
 .bind (Codes_Range (SCodes.mk u3_1 u3_2) (1 : Int) (40 : Int)) fun z0 =>
 .bind (Codes_Next (SCodes.mk u3_1 z0.2) (900 : Int)) fun z1 =>
 .ite (decide ((u3_3.n + 1) * 16 ≤ 140737488355328 ∧ (u3_3.n + 1) ≤ 1099511627776)) (
 .leaf (.next ((wr (u3_0 - (1 : Int))), z1.2, (Sq.mk (u3_3.n + 1) (fun k0 => (SPoint.mk (cond (Nat.blt k0 u3_3.n) (u3_3.f k0).Flow (wr ((u3_3.f (Int.toNat (wr (((u3_3.n : Nat) : Int) - (1 : Int))))).Flow + z0.1))) (cond (Nat.blt k0 u3_3.n) (u3_3.f k0).Pressure (if (0 : Int) < (wr ((u3_3.f (Int.toNat (wr (((u3_3.n : Nat) : Int) - (1 : Int))))).Pressure - z1.1)) then (wr ((u3_3.f (Int.toNat (wr (((u3_3.n : Nat) : Int) - (1 : Int))))).Pressure - z1.1)) else (0 : Int))))))))) (
 .fail)) (
 .fail)) (
 .leaf (.l (u3_2, u3_3)))
noncomputable def Codes_Curve_l3_m : LpM := ⟨(Sq Int), Int × Int × (Sq SPoint), Int × (Sq SPoint), Unit, fun p => ⟨[(0, .ptr 0 0), (3, .own 385 0), (4, .int .i64 p.2.1)], [(0, .var [sqA 1 (eI .u8) p.1, .int .i64 p.2.2.1]), (385, rowA 0 2 125 SPoint.enc p.2.2.2)], 705⟩, fun f v => Codes_Curve_l3_step f v.1 v.2.1 v.2.2, true, (.exit 0), (fun x a => ⟨[(3, .own 385 0)], [(0, .var [cellS x 0 0, .int .i64 a.1]), (385, rowA 0 2 125 SPoint.enc a.2)], 705⟩), .ret, (fun _ _ => ⟨[], [], 0⟩), c1, c1k⟩
noncomputable def Codes_Curve_l3 (u3_1 : Sq Int) (u3_0 u3_2 : Int) (u3_3 : Sq SPoint) : Option ((Int × (Sq SPoint)) ⊕ (Unit)) := Codes_Curve_l3_m.val (u3_1, (u3_0, u3_2, u3_3))
theorem Codes_Curve_l3_eq (u3_1 : Sq Int) (u3_0 u3_2 : Int) (u3_3 : Sq SPoint) : Codes_Curve_l3 u3_1 u3_0 u3_2 u3_3 = fixO (fun v : Int × Int × (Sq SPoint) => Codes_Curve_l3_step u3_1 v.1 v.2.1 v.2.2) (u3_0, u3_2, u3_3) := Codes_Curve_l3_m.val_eq (fun x => (sqD dI (cellS x 0 0), (intA (aget x.tm 4), intA (cellS x 0 1), sqB SPoint.dec (blkS x 385)))) (fun p => by kernel_rfl) (u3_1, (u3_0, u3_2, u3_3))
noncomputable def Codes_Curve_t (c : SCodes) : DT ((Sq SPoint) × Int) :=
 .bind (Codes_Range c (-20 : Int) (10 : Int)) fun z2 =>
 .bind (Codes_Range (SCodes.mk c.l_ z2.2) (500 : Int) (3000 : Int)) fun z3 =>
 .bind (Codes_Next (SCodes.mk c.l_ z3.2) (4 : Int)) fun z4 =>
 .sum (Codes_Curve_l3 c.l_ z4.1 z4.2 (Sq.mk 1 (fun _ => (SPoint.mk z2.1 z3.1)))) (fun y0 =>
 .leaf (y0.2, y0.1)) (fun _ => .fail)
noncomputable def Codes_Curve_m : FnM := nfM (SCodes) ((Sq SPoint) × Int) (fun p => ([.ptr 0 0], [.var (SCodes.enc p)])) (fun p => Codes_Curve_t p) (fun _ => .own 1 0) (fun ins r => [.var [cellB ins 0 0, .int .i64 r.2], rowA 0 2 125 SPoint.enc r.1])
noncomputable def Codes_Curve_env : Env := envM [(24, Codes_Range_m.c), (23, Codes_Next_m.c)] [(3, [0, 3, 4], [3])] [(3, Codes_Curve_l3_m.c)] [] [(3, [0, 385])] 1
noncomputable def Codes_Curve_e : Env := { Codes_Curve_env with nt := 40 }
theorem Codes_Curve_l3_tells : LoopTells Codes_Curve_e (loopOf 3 Tryz.f56) Codes_Curve_l3_m.c := Codes_Curve_l3_m.tells 705 (fun _ => by kernel_rfl) (fun _ _ _ _ => by kernel_rfl) (fun _ _ _ _ => by kernel_rfl) fun R f v N K => by kernel_rfl
theorem Codes_Curve_tells : Tells Tryz.prog 56 Codes_Curve_m.c := Codes_Curve_m.tells Tryz.func56 (show ∀ p, arun Codes_Curve_env Tryz.f56 (Codes_Curve_m.enc p).1 (Codes_Curve_m.enc p).2 = _ from fun p => by kernel_rfl) (loopsL [loopOf 3 Tryz.f56] (by kernel_rfl) ⟨lpT (by kernel_rfl) Codes_Curve_l3_tells, trivial⟩) (.cons Codes_Range_tells (.cons Codes_Next_tells .nil))
noncomputable def Codes_Curve (c : SCodes) : Option ((Sq SPoint) × Int) := Codes_Curve_m.val c
theorem Codes_Curve_eq (c : SCodes) : Codes_Curve c = (Codes_Curve_t c).get := Codes_Curve_m.val_eq (fun x => SCodes.dec (varL (dB x.2 0))) (fun p => by kernel_rfl) c

/-! (*minecontrol/minecontroldraw.Codes).Door -/
noncomputable def Codes_Door_l3_step (u3_1 : Sq Int) (_u3_4 u3_0 u3_2 : Int) (u3_3 : Sq Int) : DT (LR (Int × Int × (Sq Int)) (Int × (Sq Int)) (Unit)) :=
 .ite (decide (u3_0 > (0 : Int))) (
 .ite (decide ((0 : Int) ≤ (wr (((u3_3.n : Nat) : Int) - (1 : Int))) ∧ (wr (((u3_3.n : Nat) : Int) - (1 : Int))) < ((u3_3.n : Nat) : Int))) (
 .bind (Codes_Range (SCodes.mk u3_1 u3_2) (1 : Int) (60 : Int)) fun z0 =>
 .ite (decide ((u3_3.n + 1) * 8 ≤ 140737488355328 ∧ (u3_3.n + 1) ≤ 1099511627776)) (
 .leaf (.next ((wr (u3_0 - (1 : Int))), z0.2, (Sq.mk (u3_3.n + 1) (fun k0 => (cond (Nat.blt k0 u3_3.n) (u3_3.f k0) (if (0 : Int) < (wr ((u3_3.f (Int.toNat (wr (((u3_3.n : Nat) : Int) - (1 : Int))))) - z0.1)) then (wr ((u3_3.f (Int.toNat (wr (((u3_3.n : Nat) : Int) - (1 : Int))))) - z0.1)) else (0 : Int)))))))) (
 .fail)) (
 .fail)) (
 .leaf (.l (u3_2, u3_3)))
noncomputable def Codes_Door_l3_m : LpM := ⟨(Sq Int) × Int, Int × Int × (Sq Int), Int × (Sq Int), Unit, fun p => ⟨[(0, .ptr 0 0), (4, .ptr 1 0), (5, .ptr 385 0), (6, .int .i64 p.2.1)], [(0, .var [sqA 1 (eI .u8) p.1.1, .int .i64 p.2.2.1]), (1, .var [.int .i64 (0 : Int), .int .i64 (0 : Int), .own 2 0]), (2, .nilrow 0), (257, rowA 0 1 3 (eI .i64) p.2.2.2), (385, .var [.int .i64 p.1.2, .int .i64 (-1 : Int), .own 257 0])], 705⟩, fun f v => Codes_Door_l3_step f.1 f.2 v.1 v.2.1 v.2.2, true, (.exit 0), (fun x a => ⟨[(4, .ptr 1 0), (5, .ptr 385 0)], [(0, .var [cellS x 0 0, .int .i64 a.1]), (1, .var [.int .i64 (0 : Int), .int .i64 (0 : Int), .own 2 0]), (2, .nilrow 0), (257, rowA 0 1 3 (eI .i64) a.2), (385, blkS x 385)], 705⟩), .ret, (fun _ _ => ⟨[], [], 0⟩), c1, c1k⟩
noncomputable def Codes_Door_l3 (u3_1 : Sq Int) (u3_4 u3_0 u3_2 : Int) (u3_3 : Sq Int) : Option ((Int × (Sq Int)) ⊕ (Unit)) := Codes_Door_l3_m.val ((u3_1, u3_4), (u3_0, u3_2, u3_3))
theorem Codes_Door_l3_eq (u3_1 : Sq Int) (u3_4 u3_0 u3_2 : Int) (u3_3 : Sq Int) : Codes_Door_l3 u3_1 u3_4 u3_0 u3_2 u3_3 = fixO (fun v : Int × Int × (Sq Int) => Codes_Door_l3_step u3_1 u3_4 v.1 v.2.1 v.2.2) (u3_0, u3_2, u3_3) := Codes_Door_l3_m.val_eq (fun x => ((sqD dI (cellS x 0 0), intA (cellS x 385 0)), (intA (aget x.tm 6), intA (cellS x 0 1), sqB dI (blkS x 257)))) (fun p => by kernel_rfl) ((u3_1, u3_4), (u3_0, u3_2, u3_3))
noncomputable def Codes_Door_t (c : SCodes) (road : Int) : DT (SDoor × Int) :=
 .bind (Codes_Range c (200 : Int) (900 : Int)) fun z1 =>
 .bind (Codes_Range (SCodes.mk c.l_ z1.2) (1 : Int) (3 : Int)) fun z2 =>
 .sum (Codes_Door_l3 c.l_ road z2.1 z2.2 (Sq.mk 1 (fun _ => z1.1))) (fun y0 =>
 .leaf ((SDoor.mk road (-1 : Int) y0.2), y0.1)) (fun _ => .fail)
noncomputable def Codes_Door_m : FnM := nfM (SCodes × Int) (SDoor × Int) (fun p => ([.ptr 0 0, .int .i64 p.2], [.var (SCodes.enc p.1)])) (fun p => Codes_Door_t p.1 p.2) (fun r => .agg [.int .i64 r.1.Road, .int .i64 r.1.Other, .own 1 0]) (fun ins r => [.var [cellB ins 0 0, .int .i64 r.2], rowA 0 1 3 (eI .i64) r.1.Rests])
noncomputable def Codes_Door_env : Env := envM [(24, Codes_Range_m.c)] [(3, [0, 4, 5, 6], [4, 5])] [(3, Codes_Door_l3_m.c)] [] [(3, [0, 1, 2, 257, 385])] 1
noncomputable def Codes_Door_e : Env := { Codes_Door_env with nt := 36 }
theorem Codes_Door_l3_tells : LoopTells Codes_Door_e (loopOf 3 Tryz.f57) Codes_Door_l3_m.c := Codes_Door_l3_m.tells 705 (fun _ => by kernel_rfl) (fun _ _ _ _ => by kernel_rfl) (fun _ _ _ _ => by kernel_rfl) fun R f v N K => by kernel_rfl
theorem Codes_Door_tells : Tells Tryz.prog 57 Codes_Door_m.c := Codes_Door_m.tells Tryz.func57 (show ∀ p, arun Codes_Door_env Tryz.f57 (Codes_Door_m.enc p).1 (Codes_Door_m.enc p).2 = _ from fun p => by kernel_rfl) (loopsL [loopOf 3 Tryz.f57] (by kernel_rfl) ⟨lpT (by kernel_rfl) Codes_Door_l3_tells, trivial⟩) (.cons Codes_Range_tells .nil)
noncomputable def Codes_Door (c : SCodes) (road : Int) : Option (SDoor × Int) := Codes_Door_m.val (c, road)
theorem Codes_Door_eq (c : SCodes) (road : Int) : Codes_Door c road = (Codes_Door_t c road).get := Codes_Door_m.val_eq (fun x => (SCodes.dec (varL (dB x.2 0)), intA (gd x.1 1))) (fun p => by kernel_rfl) (c, road)

/-! (*minecontrol/minecontroldraw.Codes).equipped -/
noncomputable def Codes_equipped_l4_step (u4_2 : Sq Int) (_u4_4 : Sq SPlace) (u4_5 : Sq SRoad) (_u4_7 : Sq SDoor) (u4_1 u4_3 : Int) (u4_6 : Sq SFan) (u4_8 : Sq Int) : DT (LR (Int × Int × (Sq SFan) × (Sq Int)) (Int × (Sq SFan) × (Sq Int)) (Unit)) :=
 .ite (decide (u4_1 > (0 : Int))) (
 .ite (decide (((u4_5.n : Nat) : Int) > (0 : Int))) (
 .bind (Codes_Next (SCodes.mk u4_2 u4_3) ((u4_5.n : Nat) : Int)) fun z0 =>
 .bind (Codes_One (SCodes.mk u4_2 z0.2) (3 : Int)) fun z1 =>
 .bind (Codes_One (SCodes.mk u4_2 z1.2) (3 : Int)) fun z2 =>
 .bind (Codes_Curve (SCodes.mk u4_2 z2.2)) fun z3 =>
 .ite (decide ((u4_6.n + 1) * 40 ≤ 140737488355328 ∧ (u4_6.n + 1) ≤ 1099511627776)) (
 .bind (Codes_Next (SCodes.mk u4_2 z3.2) (3 : Int)) fun z4 =>
 .ite (decide ((u4_8.n + 1) * 8 ≤ 140737488355328 ∧ (u4_8.n + 1) ≤ 1099511627776)) (
 .leaf (.next ((wr (u4_1 - (1 : Int))), z4.2, (Sq.mk (u4_6.n + 1) (fun k0 => (SFan.mk (cond (Nat.blt k0 u4_6.n) (u4_6.f k0).Road z0.1) (cond (Nat.blt k0 u4_6.n) (u4_6.f k0).Back z1.1) (cond (Nat.blt k0 u4_6.n) (u4_6.f k0).Auxiliary z2.1) (Sq.mk (cond (Nat.blt k0 u4_6.n) (u4_6.f k0).Curve.n z3.1.n) (fun k1 => (SPoint.mk (cond (Nat.blt k0 u4_6.n) ((u4_6.f k0).Curve.f k1).Flow (z3.1.f k1).Flow) (cond (Nat.blt k0 u4_6.n) ((u4_6.f k0).Curve.f k1).Pressure (z3.1.f k1).Pressure))))))), (Sq.mk (u4_8.n + 1) (fun k2 => (cond (Nat.blt k2 u4_8.n) (u4_8.f k2) z4.1)))))) (
 .fail)) (
 .fail)) (
 .leaf (.l (u4_3, u4_6, u4_8)))) (
 .leaf (.l (u4_3, u4_6, u4_8)))
noncomputable def Codes_equipped_l4_m : LpM := ⟨(Sq Int) × (Sq SPlace) × (Sq SRoad) × (Sq SDoor), Int × Int × (Sq SFan) × (Sq Int), Int × (Sq SFan) × (Sq Int), Unit, fun p => ⟨[(0, .ptr 0 0), (1, .ptr 1 0), (4, .ptr 6 0), (5, .ptr 70 0), (6, .int .i64 ((p.1.2.2.1.n : Nat) : Int)), (7, .int .i64 p.2.1)], [(0, .var [sqA 1 (eI .u8) p.1.1, .int .i64 p.2.2.1]), (1, .var [.own 2 0, .own 3 0, .own 4 1, .own 5 0]), (2, rowA 0 2 64 SPlace.enc p.1.2.1), (3, rowA 0 10 71 SRoad.enc p.1.2.2.1), (4, rowA 1 4 99 SFan.enc p.2.2.2.1), (5, rowA 0 3 61 SDoor.enc p.1.2.2.2), (6, .var [.own 7 0, .own 8 0]), (7, .nilrow 0), (8, .nilrow 0), (70, .var [.own 71 0, .own 72 0]), (71, rowA 0 1 3 (eI .i64) p.2.2.2.2), (72, .nilrow 0)], 774⟩, fun f v => Codes_equipped_l4_step f.1 f.2.1 f.2.2.1 f.2.2.2 v.1 v.2.1 v.2.2.1 v.2.2.2, true, (.exit 0), (fun x a => ⟨[(0, .ptr 0 0), (1, .ptr 1 0), (4, .ptr 6 0), (5, .ptr 70 0), (6, aget x.tm 6)], [(0, .var [cellS x 0 0, .int .i64 a.1]), (1, .var [.own 2 0, .own 3 0, .own 4 1, .own 5 0]), (2, blkS x 2), (3, blkS x 3), (4, rowA 1 4 99 SFan.enc a.2.1), (5, blkS x 5), (6, .var [.own 7 0, .own 8 0]), (7, .nilrow 0), (8, .nilrow 0), (70, .var [.own 71 0, .own 72 0]), (71, rowA 0 1 3 (eI .i64) a.2.2), (72, .nilrow 0)], 774⟩), .ret, (fun _ _ => ⟨[], [], 0⟩), c1, c1k⟩
noncomputable def Codes_equipped_l4 (u4_2 : Sq Int) (u4_4 : Sq SPlace) (u4_5 : Sq SRoad) (u4_7 : Sq SDoor) (u4_1 u4_3 : Int) (u4_6 : Sq SFan) (u4_8 : Sq Int) : Option ((Int × (Sq SFan) × (Sq Int)) ⊕ (Unit)) := Codes_equipped_l4_m.val ((u4_2, u4_4, u4_5, u4_7), (u4_1, u4_3, u4_6, u4_8))
theorem Codes_equipped_l4_eq (u4_2 : Sq Int) (u4_4 : Sq SPlace) (u4_5 : Sq SRoad) (u4_7 : Sq SDoor) (u4_1 u4_3 : Int) (u4_6 : Sq SFan) (u4_8 : Sq Int) : Codes_equipped_l4 u4_2 u4_4 u4_5 u4_7 u4_1 u4_3 u4_6 u4_8 = fixO (fun v : Int × Int × (Sq SFan) × (Sq Int) => Codes_equipped_l4_step u4_2 u4_4 u4_5 u4_7 v.1 v.2.1 v.2.2.1 v.2.2.2) (u4_1, u4_3, u4_6, u4_8) := Codes_equipped_l4_m.val_eq (fun x => ((sqD dI (cellS x 0 0), sqB SPlace.dec (blkS x 2), sqB SRoad.dec (blkS x 3), sqB SDoor.dec (blkS x 5)), (intA (aget x.tm 7), intA (cellS x 0 1), sqB SFan.dec (blkS x 4), sqB dI (blkS x 71)))) (fun p => by kernel_rfl) ((u4_2, u4_4, u4_5, u4_7), (u4_1, u4_3, u4_6, u4_8))
noncomputable def Codes_equipped_l9_step (u9_2 : Sq Int) (_u9_4 : Sq SPlace) (u9_5 : Sq SRoad) (_u9_6 : Sq SFan) (_u9_8 : Sq Int) (u9_1 u9_3 : Int) (u9_7 : Sq SDoor) (u9_9 : Sq Int) : DT (LR (Int × Int × (Sq SDoor) × (Sq Int)) (Int × (Sq SDoor) × (Sq Int)) (Unit)) :=
 .ite (decide (u9_1 > (0 : Int))) (
 .ite (decide (((u9_5.n : Nat) : Int) > (0 : Int))) (
 .bind (Codes_Next (SCodes.mk u9_2 u9_3) ((u9_5.n : Nat) : Int)) fun z5 =>
 .bind (Codes_Door (SCodes.mk u9_2 z5.2) z5.1) fun z6 =>
 .ite (decide ((u9_7.n + 1) * 40 ≤ 140737488355328 ∧ (u9_7.n + 1) ≤ 1099511627776)) (
 .bind (Codes_Next (SCodes.mk u9_2 z6.2) ((z6.1.Rests.n : Nat) : Int)) fun z7 =>
 .ite (decide ((u9_9.n + 1) * 8 ≤ 140737488355328 ∧ (u9_9.n + 1) ≤ 1099511627776)) (
 .leaf (.next ((wr (u9_1 - (1 : Int))), z7.2, (Sq.mk (u9_7.n + 1) (fun k3 => (SDoor.mk (cond (Nat.blt k3 u9_7.n) (u9_7.f k3).Road z6.1.Road) (cond (Nat.blt k3 u9_7.n) (u9_7.f k3).Other z6.1.Other) (Sq.mk (cond (Nat.blt k3 u9_7.n) (u9_7.f k3).Rests.n z6.1.Rests.n) (fun k4 => (cond (Nat.blt k3 u9_7.n) ((u9_7.f k3).Rests.f k4) (z6.1.Rests.f k4))))))), (Sq.mk (u9_9.n + 1) (fun k5 => (cond (Nat.blt k5 u9_9.n) (u9_9.f k5) z7.1)))))) (
 .fail)) (
 .fail)) (
 .leaf (.l (u9_3, u9_7, u9_9)))) (
 .leaf (.l (u9_3, u9_7, u9_9)))
noncomputable def Codes_equipped_l9_m : LpM := ⟨(Sq Int) × (Sq SPlace) × (Sq SRoad) × (Sq SFan) × (Sq Int), Int × Int × (Sq SDoor) × (Sq Int), Int × (Sq SDoor) × (Sq Int), Unit, fun p => ⟨[(0, .ptr 0 0), (1, .ptr 1 0), (4, .ptr 6 0), (5, .ptr 70 0), (6, .int .i64 ((p.1.2.2.1.n : Nat) : Int)), (8, .int .i64 p.2.1)], [(0, .var [sqA 1 (eI .u8) p.1.1, .int .i64 p.2.2.1]), (1, .var [.own 2 0, .own 3 0, .own 4 1, .own 5 1]), (2, rowA 0 2 64 SPlace.enc p.1.2.1), (3, rowA 0 10 71 SRoad.enc p.1.2.2.1), (4, rowA 1 4 99 SFan.enc p.1.2.2.2.1), (5, rowA 1 3 61 SDoor.enc p.2.2.2.1), (6, .var [.own 7 0, .own 8 0]), (7, .nilrow 0), (8, .nilrow 0), (70, .var [.own 71 0, .own 72 0]), (71, rowA 0 1 3 (eI .i64) p.1.2.2.2.2), (72, rowA 0 1 3 (eI .i64) p.2.2.2.2)], 966⟩, fun f v => Codes_equipped_l9_step f.1 f.2.1 f.2.2.1 f.2.2.2.1 f.2.2.2.2 v.1 v.2.1 v.2.2.1 v.2.2.2, true, (.exit 2), (fun x a => ⟨[(4, .ptr 6 0), (5, .ptr 70 0)], [(0, .var [cellS x 0 0, .int .i64 a.1]), (1, .var [.own 2 0, .own 3 0, .own 4 1, .own 5 1]), (2, blkS x 2), (3, blkS x 3), (4, blkS x 4), (5, rowA 1 3 61 SDoor.enc a.2.1), (6, .var [.own 7 0, .own 8 0]), (7, .nilrow 0), (8, .nilrow 0), (70, .var [.own 71 0, .own 72 0]), (71, blkS x 71), (72, rowA 0 1 3 (eI .i64) a.2.2)], 966⟩), .ret, (fun _ _ => ⟨[], [], 0⟩), c1, c1k⟩
noncomputable def Codes_equipped_l9 (u9_2 : Sq Int) (u9_4 : Sq SPlace) (u9_5 : Sq SRoad) (u9_6 : Sq SFan) (u9_8 : Sq Int) (u9_1 u9_3 : Int) (u9_7 : Sq SDoor) (u9_9 : Sq Int) : Option ((Int × (Sq SDoor) × (Sq Int)) ⊕ (Unit)) := Codes_equipped_l9_m.val ((u9_2, u9_4, u9_5, u9_6, u9_8), (u9_1, u9_3, u9_7, u9_9))
theorem Codes_equipped_l9_eq (u9_2 : Sq Int) (u9_4 : Sq SPlace) (u9_5 : Sq SRoad) (u9_6 : Sq SFan) (u9_8 : Sq Int) (u9_1 u9_3 : Int) (u9_7 : Sq SDoor) (u9_9 : Sq Int) : Codes_equipped_l9 u9_2 u9_4 u9_5 u9_6 u9_8 u9_1 u9_3 u9_7 u9_9 = fixO (fun v : Int × Int × (Sq SDoor) × (Sq Int) => Codes_equipped_l9_step u9_2 u9_4 u9_5 u9_6 u9_8 v.1 v.2.1 v.2.2.1 v.2.2.2) (u9_1, u9_3, u9_7, u9_9) := Codes_equipped_l9_m.val_eq (fun x => ((sqD dI (cellS x 0 0), sqB SPlace.dec (blkS x 2), sqB SRoad.dec (blkS x 3), sqB SFan.dec (blkS x 4), sqB dI (blkS x 71)), (intA (aget x.tm 8), intA (cellS x 0 1), sqB SDoor.dec (blkS x 5), sqB dI (blkS x 72)))) (fun p => by kernel_rfl) ((u9_2, u9_4, u9_5, u9_6, u9_8), (u9_1, u9_3, u9_7, u9_9))
noncomputable def Codes_equipped_t (c : SCodes) (a : SAir) : DT (SSetting × Int × (Sq SFan) × (Sq SDoor)) :=
 .bind (Codes_Next c (3 : Int)) fun z8 =>
 .sum (Codes_equipped_l4 c.l_ a.Mine.Places a.Mine.Roads a.Doors z8.1 z8.2 a.Fans (Sq.mk 0 (fun _ => (0 : Int)))) (fun y0 =>
 .bind (Codes_Next (SCodes.mk c.l_ y0.1) (3 : Int)) fun z9 =>
 .sum (Codes_equipped_l9 c.l_ a.Mine.Places a.Mine.Roads y0.2.1 y0.2.2 z9.1 z9.2 a.Doors (Sq.mk 0 (fun _ => (0 : Int)))) (fun y1 =>
 .leaf ((SSetting.mk y0.2.2 y1.2.2), y1.1, y0.2.1, y1.2.1)) (fun _ => .fail)) (fun _ => .fail)
noncomputable def Codes_equipped_m : FnM := nfM (SCodes × SAir) (SSetting × Int × (Sq SFan) × (Sq SDoor)) (fun p => ([.ptr 0 0, .ptr 1 0], [.var (SCodes.enc p.1), .var [.own 2 0, .own 3 0, .own 4 0, .own 5 0], rowA 0 2 64 SPlace.enc p.2.Mine.Places, rowA 0 10 71 SRoad.enc p.2.Mine.Roads, rowA 0 4 99 SFan.enc p.2.Fans, rowA 0 3 61 SDoor.enc p.2.Doors])) (fun p => Codes_equipped_t p.1 p.2) (fun _ => .agg [.own 6 0, .own 7 0]) (fun ins r => [.var [cellB ins 0 0, .int .i64 r.2.1], .var [cellB ins 1 0, cellB ins 1 1, .own 4 1, .own 5 1], dB ins 2, dB ins 3, rowA 1 4 99 SFan.enc r.2.2.1, rowA 1 3 61 SDoor.enc r.2.2.2, rowA 0 1 3 (eI .i64) r.1.Fans, rowA 0 1 3 (eI .i64) r.1.Doors])
noncomputable def Codes_equipped_env : Env := envM [(23, Codes_Next_m.c), (22, Codes_One_m.c), (56, Codes_Curve_m.c), (57, Codes_Door_m.c)] [(4, [0, 1, 4, 5, 6, 7], [0, 1, 4, 5, 6]), (9, [0, 1, 4, 5, 6, 8], [4, 5])] [(4, Codes_equipped_l4_m.c), (9, Codes_equipped_l9_m.c)] [(1000004, [.asrow 71 3 1 (fun _ => (eI .i64) (0 : Int))]), (12, [.freeze 1606]), (1000009, [.asrow 72 3 1 (fun _ => (eI .i64) (0 : Int))])] [(4, [0, 1, 2, 3, 4, 5, 6, 7, 8, 70, 71, 72]), (9, [0, 1, 2, 3, 4, 5, 6, 7, 8, 70, 71, 72]), (4000004, [4]), (4000009, [5])] 6
noncomputable def Codes_equipped_e : Env := { Codes_equipped_env with nt := 88 }
theorem Codes_equipped_l4_tells : LoopTells Codes_equipped_e (loopOf 4 Tryz.f26) Codes_equipped_l4_m.c := Codes_equipped_l4_m.tells 774 (fun _ => by kernel_rfl) (fun _ _ _ _ => by kernel_rfl) (fun _ _ _ _ => by kernel_rfl) fun R f v N K => by kernel_rfl
theorem Codes_equipped_l9_tells : LoopTells Codes_equipped_e (loopOf 9 Tryz.f26) Codes_equipped_l9_m.c := Codes_equipped_l9_m.tells 966 (fun _ => by kernel_rfl) (fun _ _ _ _ => by kernel_rfl) (fun _ _ _ _ => by kernel_rfl) fun R f v N K => by kernel_rfl
theorem Codes_equipped_tells : Tells Tryz.prog 26 Codes_equipped_m.c := Codes_equipped_m.tells Tryz.func26 (show ∀ p, arun Codes_equipped_env Tryz.f26 (Codes_equipped_m.enc p).1 (Codes_equipped_m.enc p).2 = _ from fun p => by kernel_rfl) (loopsL [loopOf 4 Tryz.f26, loopOf 9 Tryz.f26] (by kernel_rfl) ⟨lpT (by kernel_rfl) Codes_equipped_l4_tells, ⟨lpT (by kernel_rfl) Codes_equipped_l9_tells, trivial⟩⟩) (.cons Codes_Next_tells (.cons Codes_One_tells (.cons Codes_Curve_tells (.cons Codes_Door_tells .nil))))
noncomputable def Codes_equipped (c : SCodes) (a : SAir) : Option (SSetting × Int × (Sq SFan) × (Sq SDoor)) := Codes_equipped_m.val (c, a)
theorem Codes_equipped_eq (c : SCodes) (a : SAir) : Codes_equipped c a = (Codes_equipped_t c a).get := Codes_equipped_m.val_eq (fun x => (SCodes.dec (varL (dB x.2 0)), ⟨⟨sqB SPlace.dec (dB x.2 2), sqB SRoad.dec (dB x.2 3)⟩, sqB SFan.dec (dB x.2 4), sqB SDoor.dec (dB x.2 5)⟩)) (fun p => by kernel_rfl) (c, a)

/-! minecontrol/minecontrolref08.Rest -/
noncomputable def ref08_Rest_l7_step (_u7_0 _u7_1 : Int) (u7_2 : Sq Int) (u7_3 u7_4 u7_5 : Int) : DT (LR (Int × Int × Int) (Int × Int) (Unit)) :=
 .ite (decide (u7_4 < ((u7_2.n : Nat) : Int))) (
 .ite (decide ((0 : Int) ≤ u7_4 ∧ u7_4 < ((u7_2.n : Nat) : Int))) (
 .ite (decide ((0 : Int) ≤ u7_4 ∧ u7_4 < ((u7_2.n : Nat) : Int))) (
 .leaf (.next ((if (u7_2.f (Int.toNat u7_4)) < u7_3 then (u7_2.f (Int.toNat u7_4)) else u7_3), (wr (u7_4 + (1 : Int))), (if u7_5 < (u7_2.f (Int.toNat u7_4)) then (u7_2.f (Int.toNat u7_4)) else u7_5)))) (
 .fail)) (
 .fail)) (
 .leaf (.l (u7_3, u7_5)))
noncomputable def ref08_Rest_l7_m : LpM := ⟨Int × Int × (Sq Int), Int × Int × Int, Int × Int, Unit, fun p => ⟨[(2, .ptr 0 0), (4, .ptr 64 0), (5, .ptr 2688 0), (6, .int .i64 p.2.2.1)], [(0, .var [.int .i64 p.1.1, .int .i64 p.1.2.1, sqA 1 (eI .i64) p.1.2.2]), (64, .var [.int .i64 (0 : Int), .int .i64 (0 : Int)]), (2688, .var [.int .i64 p.2.1, .int .i64 p.2.2.2])], 2880⟩, fun f v => ref08_Rest_l7_step f.1 f.2.1 f.2.2 v.1 v.2.1 v.2.2, true, (.exit 0), (fun x a => ⟨[(4, .ptr 64 0), (5, .ptr 2688 0)], [(0, blkS x 0), (64, .var [.int .i64 (0 : Int), .int .i64 (0 : Int)]), (2688, .var [.int .i64 a.1, .int .i64 a.2])], 2880⟩), .ret, (fun _ _ => ⟨[], [], 0⟩), c1, c1k⟩
noncomputable def ref08_Rest_l7 (u7_0 u7_1 : Int) (u7_2 : Sq Int) (u7_3 u7_4 u7_5 : Int) : Option ((Int × Int) ⊕ (Unit)) := ref08_Rest_l7_m.val ((u7_0, u7_1, u7_2), (u7_3, u7_4, u7_5))
theorem ref08_Rest_l7_eq (u7_0 u7_1 : Int) (u7_2 : Sq Int) (u7_3 u7_4 u7_5 : Int) : ref08_Rest_l7 u7_0 u7_1 u7_2 u7_3 u7_4 u7_5 = fixO (fun v : Int × Int × Int => ref08_Rest_l7_step u7_0 u7_1 u7_2 v.1 v.2.1 v.2.2) (u7_3, u7_4, u7_5) := ref08_Rest_l7_m.val_eq (fun x => ((intA (cellS x 0 0), intA (cellS x 0 1), sqD dI (cellS x 0 2)), (intA (cellS x 2688 0), intA (aget x.tm 6), intA (cellS x 2688 1)))) (fun p => by kernel_rfl) ((u7_0, u7_1, u7_2), (u7_3, u7_4, u7_5))
noncomputable def ref08_Rest_t (d : SDoor) (state : Int) : DT (SSpan) :=
 .ite (((d.Rests.n : Nat) : Int) == (0 : Int)) (
 .leaf (SSpan.mk (0 : Int) (0 : Int))) (
 .ite (decide (state < (-1 : Int))) (
 .leaf (SSpan.mk (0 : Int) (0 : Int))) (
 .ite (decide (state ≥ ((d.Rests.n : Nat) : Int))) (
 .leaf (SSpan.mk (0 : Int) (0 : Int))) (
 .ite (decide (state ≥ (0 : Int))) (
 .ite (decide ((0 : Int) ≤ state ∧ state < ((d.Rests.n : Nat) : Int))) (
 .ite (decide ((0 : Int) ≤ state ∧ state < ((d.Rests.n : Nat) : Int))) (.leaf (SSpan.mk (d.Rests.f (Int.toNat state)) (d.Rests.f (Int.toNat state)))) (.fail)) (
 .fail)) (
 .ite (decide ((0 : Int) ≤ (0 : Int) ∧ (0 : Int) < ((d.Rests.n : Nat) : Int))) (
 .ite (decide ((0 : Int) ≤ (0 : Int) ∧ (0 : Int) < ((d.Rests.n : Nat) : Int))) (
 .sum (ref08_Rest_l7 d.Road d.Other d.Rests (d.Rests.f 0) (0 : Int) (d.Rests.f 0)) (fun y0 =>
 .leaf (SSpan.mk y0.1 y0.2)) (fun _ => .fail)) (
 .fail)) (
 .fail)))))
noncomputable def ref08_Rest_m : FnM := flM (SDoor × Int) (SSpan) (fun p => ([.agg (SDoor.enc p.1), .int .i64 p.2], [])) (fun p => ref08_Rest_t p.1 p.2) (fun r => .agg (SSpan.enc r)) (fun _ => rfl)
noncomputable def ref08_Rest_env : Env := envM [] [(7, [2, 4, 5, 6], [4, 5])] [(7, ref08_Rest_l7_m.c)] [] [(7, [0, 64, 2688])] 0
noncomputable def ref08_Rest_e : Env := { ref08_Rest_env with nt := 71 }
theorem ref08_Rest_l7_tells : LoopTells ref08_Rest_e (loopOf 7 Tryz.f58) ref08_Rest_l7_m.c := ref08_Rest_l7_m.tells 2880 (fun _ => by kernel_rfl) (fun _ _ _ _ => by kernel_rfl) (fun _ _ _ _ => by kernel_rfl) fun R f v N K => by kernel_rfl
theorem ref08_Rest_tells : Tells Tryz.prog 58 ref08_Rest_m.c := ref08_Rest_m.tells Tryz.func58 (show ∀ p, arun ref08_Rest_env Tryz.f58 (ref08_Rest_m.enc p).1 (ref08_Rest_m.enc p).2 = _ from fun p => by kernel_rfl) (loopsL [loopOf 7 Tryz.f58] (by kernel_rfl) ⟨lpT (by kernel_rfl) ref08_Rest_l7_tells, trivial⟩) .nil
noncomputable def ref08_Rest (d : SDoor) (state : Int) : Option (SSpan) := ref08_Rest_m.val (d, state)
theorem ref08_Rest_eq (d : SDoor) (state : Int) : ref08_Rest d state = (ref08_Rest_t d state).get := ref08_Rest_m.val_eq (fun x => (SDoor.dec (aggL (gd x.1 0)), intA (gd x.1 1))) (fun p => by kernel_rfl) (d, state)

/-! minecontrol/minecontrolref05.Floor -/
noncomputable def ref05_Floor_t (a b : Int) : DT (Int) :=
 .ite (b != 0) (
 .ite (b != 0) (
 .ite (decide ((Int.tmod a b) < (0 : Int))) (.leaf (wr ((wr (Int.tdiv a b)) - (1 : Int)))) (.leaf (wr (Int.tdiv a b)))) (
 .fail)) (
 .fail)
noncomputable def ref05_Floor_m : FnM := flM (Int × Int) (Int) (fun p => ([.int .i64 p.1, .int .i64 p.2], [])) (fun p => ref05_Floor_t p.1 p.2) (fun r => .int .i64 r) (fun _ => rfl)
noncomputable def ref05_Floor_env : Env := envM [] [] [] [] [] 0
theorem ref05_Floor_tells : Tells Tryz.prog 127 ref05_Floor_m.c := ref05_Floor_m.tells Tryz.func127 (show ∀ p, arun ref05_Floor_env Tryz.f127 (ref05_Floor_m.enc p).1 (ref05_Floor_m.enc p).2 = _ from fun p => by kernel_rfl) noLoops .nil
noncomputable def ref05_Floor (a b : Int) : Option (Int) := ref05_Floor_m.val (a, b)
theorem ref05_Floor_eq (a b : Int) : ref05_Floor a b = (ref05_Floor_t a b).get := ref05_Floor_m.val_eq (fun x => (intA (gd x.1 0), intA (gd x.1 1))) (fun p => by kernel_rfl) (a, b)

/-! minecontrol/minecontrolref05.Ceil -/
noncomputable def ref05_Ceil_t (a b : Int) : DT (Int) :=
 .bind (ref05_Floor (wr (0 - a)) b) fun z0 =>
 .leaf (wr (0 - z0))
noncomputable def ref05_Ceil_m : FnM := flM (Int × Int) (Int) (fun p => ([.int .i64 p.1, .int .i64 p.2], [])) (fun p => ref05_Ceil_t p.1 p.2) (fun r => .int .i64 r) (fun _ => rfl)
noncomputable def ref05_Ceil_env : Env := envM [(127, ref05_Floor_m.c)] [] [] [] [] 0
theorem ref05_Ceil_tells : Tells Tryz.prog 128 ref05_Ceil_m.c := ref05_Ceil_m.tells Tryz.func128 (show ∀ p, arun ref05_Ceil_env Tryz.f128 (ref05_Ceil_m.enc p).1 (ref05_Ceil_m.enc p).2 = _ from fun p => by kernel_rfl) noLoops (.cons ref05_Floor_tells .nil)
noncomputable def ref05_Ceil (a b : Int) : Option (Int) := ref05_Ceil_m.val (a, b)
theorem ref05_Ceil_eq (a b : Int) : ref05_Ceil a b = (ref05_Ceil_t a b).get := ref05_Ceil_m.val_eq (fun x => (intA (gd x.1 0), intA (gd x.1 1))) (fun p => by kernel_rfl) (a, b)

/-! minecontrol/minecontrolref07.Inner -/
noncomputable def ref07_Inner_l7_step (u7_0 _u7_1 : Int) (_u7_2 _u7_3 : Bool) (u7_4 : Sq SPoint) (u7_5 : Int) : DT (LR (Int) (Int) (Unit)) :=
 .ite (decide ((0 : Int) ≤ (wr (u7_5 + (1 : Int))) ∧ (wr (u7_5 + (1 : Int))) < ((u7_4.n : Nat) : Int))) (
 .ite (decide ((u7_4.f (Int.toNat (wr (u7_5 + (1 : Int))))).Flow ≤ u7_0)) (
 .leaf (.next (wr (u7_5 + (1 : Int))))) (
 .leaf (.l u7_5))) (
 .fail)
noncomputable def ref07_Inner_l7_m : LpM := ⟨Int × Int × Bool × Bool × (Sq SPoint), Int, Int, Unit, fun p => ⟨[(1, .int .i64 p.1.1), (2, .ptr 0 0), (4, .ptr 64 0), (6, .int .i64 p.2)], [(0, .var [.int .i64 p.1.2.1, .bool p.1.2.2.1, .bool p.1.2.2.2.1, sqA 2 SPoint.enc p.1.2.2.2.2]), (64, .var [.int .i64 (0 : Int), .int .i64 (0 : Int)])], 3264⟩, fun f v => ref07_Inner_l7_step f.1 f.2.1 f.2.2.1 f.2.2.2.1 f.2.2.2.2 v, true, (.exit 0), (fun x a => ⟨[(1, aget x.tm 1), (2, .ptr 0 0), (4, .ptr 64 0), (6, .int .i64 a)], [(0, blkS x 0), (64, .var [.int .i64 (0 : Int), .int .i64 (0 : Int)])], 3264⟩), .ret, (fun _ _ => ⟨[], [], 0⟩), c1, c1k⟩
noncomputable def ref07_Inner_l7 (u7_0 u7_1 : Int) (u7_2 u7_3 : Bool) (u7_4 : Sq SPoint) (u7_5 : Int) : Option ((Int) ⊕ (Unit)) := ref07_Inner_l7_m.val ((u7_0, u7_1, u7_2, u7_3, u7_4), u7_5)
theorem ref07_Inner_l7_eq (u7_0 u7_1 : Int) (u7_2 u7_3 : Bool) (u7_4 : Sq SPoint) (u7_5 : Int) : ref07_Inner_l7 u7_0 u7_1 u7_2 u7_3 u7_4 u7_5 = fixO (fun v : Int => ref07_Inner_l7_step u7_0 u7_1 u7_2 u7_3 u7_4 v) u7_5 := ref07_Inner_l7_m.val_eq (fun x => ((intA (aget x.tm 1), intA (cellS x 0 0), boolA (cellS x 0 1), boolA (cellS x 0 2), sqD SPoint.dec (cellS x 0 3)), intA (aget x.tm 6))) (fun p => by kernel_rfl) ((u7_0, u7_1, u7_2, u7_3, u7_4), u7_5)
noncomputable def ref07_Inner_t (f : SFan) (flow : Int) : DT (SSpan) :=
 .ite (decide ((0 : Int) ≤ (0 : Int) ∧ (0 : Int) < ((f.Curve.n : Nat) : Int))) (
 .ite (decide (flow ≤ (f.Curve.f 0).Flow)) (
 .ite (decide ((0 : Int) ≤ (0 : Int) ∧ (0 : Int) < ((f.Curve.n : Nat) : Int))) (
 .ite (decide ((0 : Int) ≤ (0 : Int) ∧ (0 : Int) < ((f.Curve.n : Nat) : Int))) (.leaf (SSpan.mk (f.Curve.f 0).Pressure (f.Curve.f 0).Pressure)) (.fail)) (
 .fail)) (
 .ite (decide ((0 : Int) ≤ (wr (((f.Curve.n : Nat) : Int) - (1 : Int))) ∧ (wr (((f.Curve.n : Nat) : Int) - (1 : Int))) < ((f.Curve.n : Nat) : Int))) (
 .ite (decide (flow ≥ (f.Curve.f (Int.toNat (wr (((f.Curve.n : Nat) : Int) - (1 : Int))))).Flow)) (
 .ite (decide ((0 : Int) ≤ (wr (((f.Curve.n : Nat) : Int) - (1 : Int))) ∧ (wr (((f.Curve.n : Nat) : Int) - (1 : Int))) < ((f.Curve.n : Nat) : Int))) (
 .ite (decide ((0 : Int) ≤ (wr (((f.Curve.n : Nat) : Int) - (1 : Int))) ∧ (wr (((f.Curve.n : Nat) : Int) - (1 : Int))) < ((f.Curve.n : Nat) : Int))) (.leaf (SSpan.mk (f.Curve.f (Int.toNat (wr (((f.Curve.n : Nat) : Int) - (1 : Int))))).Pressure (f.Curve.f (Int.toNat (wr (((f.Curve.n : Nat) : Int) - (1 : Int))))).Pressure)) (.fail)) (
 .fail)) (
 .sum (ref07_Inner_l7 flow f.Road f.Back f.Auxiliary f.Curve (0 : Int)) (fun y0 =>
 .ite (decide ((0 : Int) ≤ y0 ∧ y0 < ((f.Curve.n : Nat) : Int))) (
 .ite (decide ((0 : Int) ≤ (wr (y0 + (1 : Int))) ∧ (wr (y0 + (1 : Int))) < ((f.Curve.n : Nat) : Int))) (
 .bind (ref05_Floor (wr ((wr ((f.Curve.f (Int.toNat (wr (y0 + (1 : Int))))).Pressure - (f.Curve.f (Int.toNat y0)).Pressure)) * (wr (flow - (f.Curve.f (Int.toNat y0)).Flow)))) (wr ((f.Curve.f (Int.toNat (wr (y0 + (1 : Int))))).Flow - (f.Curve.f (Int.toNat y0)).Flow))) fun z0 =>
 .bind (ref05_Ceil (wr ((wr ((f.Curve.f (Int.toNat (wr (y0 + (1 : Int))))).Pressure - (f.Curve.f (Int.toNat y0)).Pressure)) * (wr (flow - (f.Curve.f (Int.toNat y0)).Flow)))) (wr ((f.Curve.f (Int.toNat (wr (y0 + (1 : Int))))).Flow - (f.Curve.f (Int.toNat y0)).Flow))) fun z1 =>
 .leaf (SSpan.mk (wr ((f.Curve.f (Int.toNat y0)).Pressure + z0)) (wr ((f.Curve.f (Int.toNat y0)).Pressure + z1)))) (
 .fail)) (
 .fail)) (fun _ => .fail))) (
 .fail))) (
 .fail)
noncomputable def ref07_Inner_m : FnM := flM (SFan × Int) (SSpan) (fun p => ([.agg (SFan.enc p.1), .int .i64 p.2], [])) (fun p => ref07_Inner_t p.1 p.2) (fun r => .agg (SSpan.enc r)) (fun _ => rfl)
noncomputable def ref07_Inner_env : Env := envM [(127, ref05_Floor_m.c), (128, ref05_Ceil_m.c)] [(7, [1, 2, 4, 6], [1, 2, 4, 6])] [(7, ref07_Inner_l7_m.c)] [] [(7, [0, 64])] 0
noncomputable def ref07_Inner_e : Env := { ref07_Inner_env with nt := 106 }
theorem ref07_Inner_l7_tells : LoopTells ref07_Inner_e (loopOf 7 Tryz.f103) ref07_Inner_l7_m.c := ref07_Inner_l7_m.tells 3264 (fun _ => by kernel_rfl) (fun _ _ _ _ => by kernel_rfl) (fun _ _ _ _ => by kernel_rfl) fun R f v N K => by kernel_rfl
theorem ref07_Inner_tells : Tells Tryz.prog 103 ref07_Inner_m.c := ref07_Inner_m.tells Tryz.func103 (show ∀ p, arun ref07_Inner_env Tryz.f103 (ref07_Inner_m.enc p).1 (ref07_Inner_m.enc p).2 = _ from fun p => by kernel_rfl) (loopsL [loopOf 7 Tryz.f103] (by kernel_rfl) ⟨lpT (by kernel_rfl) ref07_Inner_l7_tells, trivial⟩) (.cons ref05_Floor_tells (.cons ref05_Ceil_tells .nil))
noncomputable def ref07_Inner (f : SFan) (flow : Int) : Option (SSpan) := ref07_Inner_m.val (f, flow)
theorem ref07_Inner_eq (f : SFan) (flow : Int) : ref07_Inner f flow = (ref07_Inner_t f flow).get := ref07_Inner_m.val_eq (fun x => (SFan.dec (aggL (gd x.1 0)), intA (gd x.1 1))) (fun p => by kernel_rfl) (f, flow)

/-! minecontrol/minecontrolref07.Along -/
noncomputable def ref07_Along_t (f : SFan) (back : Bool) (flow : Int) : DT (SSpan) :=
 .ite back (
 .bind (ref07_Inner f (wr (0 - flow))) fun z0 =>
 .leaf (SSpan.mk (wr (0 - z0.High)) (wr (0 - z0.Low)))) (
 .bind (ref07_Inner f flow) fun z1 =>
 .leaf z1)
noncomputable def ref07_Along_m : FnM := flM (SFan × Bool × Int) (SSpan) (fun p => ([.agg (SFan.enc p.1), .bool p.2.1, .int .i64 p.2.2], [])) (fun p => ref07_Along_t p.1 p.2.1 p.2.2) (fun r => .agg (SSpan.enc r)) (fun _ => rfl)
noncomputable def ref07_Along_env : Env := envM [(103, ref07_Inner_m.c)] [] [] [] [] 0
theorem ref07_Along_tells : Tells Tryz.prog 80 ref07_Along_m.c := ref07_Along_m.tells Tryz.func80 (show ∀ p, arun ref07_Along_env Tryz.f80 (ref07_Along_m.enc p).1 (ref07_Along_m.enc p).2 = _ from fun p => by kernel_rfl) noLoops (.cons ref07_Inner_tells .nil)
noncomputable def ref07_Along (f : SFan) (back : Bool) (flow : Int) : Option (SSpan) := ref07_Along_m.val (f, back, flow)
theorem ref07_Along_eq (f : SFan) (back : Bool) (flow : Int) : ref07_Along f back flow = (ref07_Along_t f back flow).get := ref07_Along_m.val_eq (fun x => (SFan.dec (aggL (gd x.1 0)), boolA (gd x.1 1), intA (gd x.1 2))) (fun p => by kernel_rfl) (f, back, flow)

/-! minecontrol/minecontrolref07.State -/
noncomputable def ref07_State_t (f : SFan) (state flow : Int) : DT (SSpan) :=
 .ite (state == (0 : Int)) (
 .leaf (SSpan.mk (0 : Int) (0 : Int))) (
 .ite (state == (1 : Int)) (
 .bind (ref07_Along f f.Back flow) fun z0 =>
 .leaf z0) (
 .ite (state == (2 : Int)) (
 .bind (ref07_Along f (!f.Back) flow) fun z1 =>
 .leaf z1) (
 .bind (ref07_Along f false flow) fun z2 =>
 .bind (ref07_Along f true flow) fun z3 =>
 .leaf (SSpan.mk (if (0 : Int) < (if z3.Low < z2.Low then z3.Low else z2.Low) then (0 : Int) else (if z3.Low < z2.Low then z3.Low else z2.Low)) (if (if z2.High < z3.High then z3.High else z2.High) < (0 : Int) then (0 : Int) else (if z2.High < z3.High then z3.High else z2.High))))))
noncomputable def ref07_State_m : FnM := flM (SFan × Int × Int) (SSpan) (fun p => ([.agg (SFan.enc p.1), .int .i64 p.2.1, .int .i64 p.2.2], [])) (fun p => ref07_State_t p.1 p.2.1 p.2.2) (fun r => .agg (SSpan.enc r)) (fun _ => rfl)
noncomputable def ref07_State_env : Env := envM [(80, ref07_Along_m.c)] [] [] [] [] 0
theorem ref07_State_tells : Tells Tryz.prog 59 ref07_State_m.c := ref07_State_m.tells Tryz.func59 (show ∀ p, arun ref07_State_env Tryz.f59 (ref07_State_m.enc p).1 (ref07_State_m.enc p).2 = _ from fun p => by kernel_rfl) noLoops (.cons ref07_Along_tells .nil)
noncomputable def ref07_State (f : SFan) (state flow : Int) : Option (SSpan) := ref07_State_m.val (f, state, flow)
theorem ref07_State_eq (f : SFan) (state flow : Int) : ref07_State f state flow = (ref07_State_t f state flow).get := ref07_State_m.val_eq (fun x => (SFan.dec (aggL (gd x.1 0)), intA (gd x.1 1), intA (gd x.1 2))) (fun p => by kernel_rfl) (f, state, flow)

/-! (*minecontrol/minecontroldraw.Codes).fit -/
noncomputable def Codes_fit_l8_step (_u8_0 : Int) (_u8_2 : Sq Int) (_u8_3 : Int) (_u8_4 : Sq SPlace) (_u8_5 : Sq SRoad) (_u8_6 : Sq SFan) (u8_7 : Sq SDoor) (_u8_8 u8_9 _u8_10 _u8_11 : Sq Int) (u8_13 : Int) (_u8_14 : Nat) (u8_1 u8_12 : Int) : DT (LR (Int × Int) (Int) (Unit)) :=
 .ite (decide (u8_12 < ((u8_7.n : Nat) : Int))) (
 .ite (decide ((0 : Int) ≤ u8_12 ∧ u8_12 < ((u8_7.n : Nat) : Int))) (
 .ite ((u8_7.f (Int.toNat u8_12)).Road == u8_13) (
 .ite (decide ((0 : Int) ≤ u8_12 ∧ u8_12 < ((u8_7.n : Nat) : Int))) (
 .ite (decide ((0 : Int) ≤ u8_12 ∧ u8_12 < ((u8_9.n : Nat) : Int))) (
 .bind (ref08_Rest (u8_7.f (Int.toNat u8_12)) (u8_9.f (Int.toNat u8_12))) fun z0 =>
 .leaf (.next ((wr (u8_1 + z0.Low)), (wr (u8_12 + (1 : Int)))))) (
 .fail)) (
 .fail)) (
 .leaf (.next (u8_1, (wr (u8_12 + (1 : Int))))))) (
 .fail)) (
 .leaf (.l u8_1))
noncomputable def Codes_fit_l8_m : LpM := ⟨Int × (Sq Int) × Int × (Sq SPlace) × (Sq SRoad) × (Sq SFan) × (Sq SDoor) × (Sq Int) × (Sq Int) × (Sq Int) × (Sq Int) × Int × Nat, Int × Int, Int, Unit, fun p => ⟨[(0, .ptr 0 0), (1, .ptr 1 0), (6, .ptr 6 0), (7, .ptr 70 0), (8, .int .i64 p.1.2.2.2.2.2.2.2.2.2.2.2.1), (9, .rptr 3 0 10 p.1.2.2.2.2.2.2.2.2.2.2.2.2 0), (10, .int .i64 p.1.1), (11, .int .i64 p.2.1), (12, .int .i64 p.2.2)], [(0, .var [sqA 1 (eI .u8) p.1.2.1, .int .i64 p.1.2.2.1]), (1, .var [.own 2 0, .own 3 0, .own 4 0, .own 5 0]), (2, rowA 0 2 64 SPlace.enc p.1.2.2.2.1), (3, rowA 0 10 71 SRoad.enc p.1.2.2.2.2.1), (4, rowA 0 4 99 SFan.enc p.1.2.2.2.2.2.1), (5, rowA 0 3 61 SDoor.enc p.1.2.2.2.2.2.2.1), (6, .var [sqA 1 (eI .i64) p.1.2.2.2.2.2.2.2.1, sqA 1 (eI .i64) p.1.2.2.2.2.2.2.2.2.1]), (70, .var [sqA 1 (eI .i64) p.1.2.2.2.2.2.2.2.2.2.1, sqA 1 (eI .i64) p.1.2.2.2.2.2.2.2.2.2.2.1])], 3014⟩, fun f v => Codes_fit_l8_step f.1 f.2.1 f.2.2.1 f.2.2.2.1 f.2.2.2.2.1 f.2.2.2.2.2.1 f.2.2.2.2.2.2.1 f.2.2.2.2.2.2.2.1 f.2.2.2.2.2.2.2.2.1 f.2.2.2.2.2.2.2.2.2.1 f.2.2.2.2.2.2.2.2.2.2.1 f.2.2.2.2.2.2.2.2.2.2.2.1 f.2.2.2.2.2.2.2.2.2.2.2.2 v.1 v.2, true, (.exit 2), (fun x a => ⟨[(0, .ptr 0 0), (1, .ptr 1 0), (6, .ptr 6 0), (7, .ptr 70 0), (8, aget x.tm 8), (9, aget x.tm 9), (10, aget x.tm 10), (11, .int .i64 a)], [(0, blkS x 0), (1, .var [.own 2 0, .own 3 0, .own 4 0, .own 5 0]), (2, blkS x 2), (3, blkS x 3), (4, blkS x 4), (5, blkS x 5), (6, blkS x 6), (70, blkS x 70)], 3014⟩), .ret, (fun _ _ => ⟨[], [], 0⟩), c1, c1k⟩
noncomputable def Codes_fit_l8 (u8_0 : Int) (u8_2 : Sq Int) (u8_3 : Int) (u8_4 : Sq SPlace) (u8_5 : Sq SRoad) (u8_6 : Sq SFan) (u8_7 : Sq SDoor) (u8_8 u8_9 u8_10 u8_11 : Sq Int) (u8_13 : Int) (u8_14 : Nat) (u8_1 u8_12 : Int) : Option ((Int) ⊕ (Unit)) := Codes_fit_l8_m.val ((u8_0, u8_2, u8_3, u8_4, u8_5, u8_6, u8_7, u8_8, u8_9, u8_10, u8_11, u8_13, u8_14), (u8_1, u8_12))
theorem Codes_fit_l8_eq (u8_0 : Int) (u8_2 : Sq Int) (u8_3 : Int) (u8_4 : Sq SPlace) (u8_5 : Sq SRoad) (u8_6 : Sq SFan) (u8_7 : Sq SDoor) (u8_8 u8_9 u8_10 u8_11 : Sq Int) (u8_13 : Int) (u8_14 : Nat) (u8_1 u8_12 : Int) : Codes_fit_l8 u8_0 u8_2 u8_3 u8_4 u8_5 u8_6 u8_7 u8_8 u8_9 u8_10 u8_11 u8_13 u8_14 u8_1 u8_12 = fixO (fun v : Int × Int => Codes_fit_l8_step u8_0 u8_2 u8_3 u8_4 u8_5 u8_6 u8_7 u8_8 u8_9 u8_10 u8_11 u8_13 u8_14 v.1 v.2) (u8_1, u8_12) := Codes_fit_l8_m.val_eq (fun x => ((intA (aget x.tm 10), sqD dI (cellS x 0 0), intA (cellS x 0 1), sqB SPlace.dec (blkS x 2), sqB SRoad.dec (blkS x 3), sqB SFan.dec (blkS x 4), sqB SDoor.dec (blkS x 5), sqD dI (cellS x 6 0), sqD dI (cellS x 6 1), sqD dI (cellS x 70 0), sqD dI (cellS x 70 1), intA (aget x.tm 8), rptrK (aget x.tm 9)), (intA (aget x.tm 11), intA (aget x.tm 12)))) (fun p => by kernel_rfl) ((u8_0, u8_2, u8_3, u8_4, u8_5, u8_6, u8_7, u8_8, u8_9, u8_10, u8_11, u8_13, u8_14), (u8_1, u8_12))
noncomputable def Codes_fit_l14_step (u14_0 : Int) (_u14_2 : Sq Int) (_u14_3 : Int) (_u14_4 : Sq SPlace) (_u14_5 : Sq SRoad) (u14_6 : Sq SFan) (_u14_7 : Sq SDoor) (u14_8 _u14_9 _u14_10 _u14_11 : Sq Int) (u14_13 : Int) (_u14_14 : Nat) (u14_1 u14_12 : Int) : DT (LR (Int × Int) (Int) (Unit)) :=
 .ite (decide (u14_12 < ((u14_6.n : Nat) : Int))) (
 .ite (decide ((0 : Int) ≤ u14_12 ∧ u14_12 < ((u14_6.n : Nat) : Int))) (
 .ite ((u14_6.f (Int.toNat u14_12)).Road == u14_13) (
 .ite (decide ((0 : Int) ≤ u14_12 ∧ u14_12 < ((u14_6.n : Nat) : Int))) (
 .ite (decide ((0 : Int) ≤ u14_12 ∧ u14_12 < ((u14_8.n : Nat) : Int))) (
 .bind (ref07_State (u14_6.f (Int.toNat u14_12)) (u14_8.f (Int.toNat u14_12)) u14_0) fun z1 =>
 .leaf (.next ((wr (u14_1 - z1.Low)), (wr (u14_12 + (1 : Int)))))) (
 .fail)) (
 .fail)) (
 .leaf (.next (u14_1, (wr (u14_12 + (1 : Int))))))) (
 .fail)) (
 .leaf (.l u14_1))
noncomputable def Codes_fit_l14_m : LpM := ⟨Int × (Sq Int) × Int × (Sq SPlace) × (Sq SRoad) × (Sq SFan) × (Sq SDoor) × (Sq Int) × (Sq Int) × (Sq Int) × (Sq Int) × Int × Nat, Int × Int, Int, Unit, fun p => ⟨[(0, .ptr 0 0), (1, .ptr 1 0), (6, .ptr 6 0), (7, .ptr 70 0), (8, .int .i64 p.1.2.2.2.2.2.2.2.2.2.2.2.1), (9, .rptr 3 0 10 p.1.2.2.2.2.2.2.2.2.2.2.2.2 0), (10, .int .i64 p.1.1), (13, .int .i64 p.2.1), (14, .int .i64 p.2.2)], [(0, .var [sqA 1 (eI .u8) p.1.2.1, .int .i64 p.1.2.2.1]), (1, .var [.own 2 0, .own 3 0, .own 4 0, .own 5 0]), (2, rowA 0 2 64 SPlace.enc p.1.2.2.2.1), (3, rowA 0 10 71 SRoad.enc p.1.2.2.2.2.1), (4, rowA 0 4 99 SFan.enc p.1.2.2.2.2.2.1), (5, rowA 0 3 61 SDoor.enc p.1.2.2.2.2.2.2.1), (6, .var [sqA 1 (eI .i64) p.1.2.2.2.2.2.2.2.1, sqA 1 (eI .i64) p.1.2.2.2.2.2.2.2.2.1]), (70, .var [sqA 1 (eI .i64) p.1.2.2.2.2.2.2.2.2.2.1, sqA 1 (eI .i64) p.1.2.2.2.2.2.2.2.2.2.2.1])], 4806⟩, fun f v => Codes_fit_l14_step f.1 f.2.1 f.2.2.1 f.2.2.2.1 f.2.2.2.2.1 f.2.2.2.2.2.1 f.2.2.2.2.2.2.1 f.2.2.2.2.2.2.2.1 f.2.2.2.2.2.2.2.2.1 f.2.2.2.2.2.2.2.2.2.1 f.2.2.2.2.2.2.2.2.2.2.1 f.2.2.2.2.2.2.2.2.2.2.2.1 f.2.2.2.2.2.2.2.2.2.2.2.2 v.1 v.2, true, (.exit 4), (fun x a => ⟨[(0, .ptr 0 0), (1, .ptr 1 0), (6, .ptr 6 0), (7, .ptr 70 0), (8, aget x.tm 8), (9, aget x.tm 9), (13, .int .i64 a)], [(0, blkS x 0), (1, .var [.own 2 0, .own 3 0, .own 4 0, .own 5 0]), (2, blkS x 2), (3, blkS x 3), (4, blkS x 4), (5, blkS x 5), (6, blkS x 6), (70, blkS x 70)], 4806⟩), .ret, (fun _ _ => ⟨[], [], 0⟩), c1, c1k⟩
noncomputable def Codes_fit_l14 (u14_0 : Int) (u14_2 : Sq Int) (u14_3 : Int) (u14_4 : Sq SPlace) (u14_5 : Sq SRoad) (u14_6 : Sq SFan) (u14_7 : Sq SDoor) (u14_8 u14_9 u14_10 u14_11 : Sq Int) (u14_13 : Int) (u14_14 : Nat) (u14_1 u14_12 : Int) : Option ((Int) ⊕ (Unit)) := Codes_fit_l14_m.val ((u14_0, u14_2, u14_3, u14_4, u14_5, u14_6, u14_7, u14_8, u14_9, u14_10, u14_11, u14_13, u14_14), (u14_1, u14_12))
theorem Codes_fit_l14_eq (u14_0 : Int) (u14_2 : Sq Int) (u14_3 : Int) (u14_4 : Sq SPlace) (u14_5 : Sq SRoad) (u14_6 : Sq SFan) (u14_7 : Sq SDoor) (u14_8 u14_9 u14_10 u14_11 : Sq Int) (u14_13 : Int) (u14_14 : Nat) (u14_1 u14_12 : Int) : Codes_fit_l14 u14_0 u14_2 u14_3 u14_4 u14_5 u14_6 u14_7 u14_8 u14_9 u14_10 u14_11 u14_13 u14_14 u14_1 u14_12 = fixO (fun v : Int × Int => Codes_fit_l14_step u14_0 u14_2 u14_3 u14_4 u14_5 u14_6 u14_7 u14_8 u14_9 u14_10 u14_11 u14_13 u14_14 v.1 v.2) (u14_1, u14_12) := Codes_fit_l14_m.val_eq (fun x => ((intA (aget x.tm 10), sqD dI (cellS x 0 0), intA (cellS x 0 1), sqB SPlace.dec (blkS x 2), sqB SRoad.dec (blkS x 3), sqB SFan.dec (blkS x 4), sqB SDoor.dec (blkS x 5), sqD dI (cellS x 6 0), sqD dI (cellS x 6 1), sqD dI (cellS x 70 0), sqD dI (cellS x 70 1), intA (aget x.tm 8), rptrK (aget x.tm 9)), (intA (aget x.tm 13), intA (aget x.tm 14)))) (fun p => by kernel_rfl) ((u14_0, u14_2, u14_3, u14_4, u14_5, u14_6, u14_7, u14_8, u14_9, u14_10, u14_11, u14_13, u14_14), (u14_1, u14_12))
noncomputable def Codes_fit_l2_step (u2_0 : Sq Int) (u2_2 : Sq SPlace) (u2_4 : Sq SFan) (u2_5 : Sq SDoor) (u2_6 u2_7 u2_8 u2_9 : Sq Int) (u2_1 : Int) (u2_3 : Sq SRoad) (u2_10 : Int) : DT (LR (Int × (Sq SRoad) × Int) (Int × (Sq SRoad)) (Unit)) :=
 .ite (decide (u2_10 < ((u2_3.n : Nat) : Int))) (
 .ite (decide ((0 : Int) ≤ u2_10 ∧ u2_10 < ((u2_3.n : Nat) : Int))) (
 .ite (decide ((0 : Int) ≤ u2_10 ∧ u2_10 < ((u2_9.n : Nat) : Int))) (
 .bind (Codes_Next (SCodes.mk u2_0 u2_1) (wr ((wr ((u2_3.f (Int.toNat u2_10)).Rest.High - (u2_3.f (Int.toNat u2_10)).Rest.Low)) + (1 : Int)))) fun z2 =>
 .sum (Codes_fit_l8 (u2_9.f (Int.toNat u2_10)) u2_0 z2.2 u2_2 u2_3 u2_4 u2_5 u2_6 u2_7 u2_8 u2_9 u2_10 (Int.toNat u2_10) (wr ((u2_3.f (Int.toNat u2_10)).Rest.Low + z2.1)) (0 : Int)) (fun y0 =>
 .ite (decide ((0 : Int) ≤ (u2_3.f (Int.toNat u2_10)).From ∧ (u2_3.f (Int.toNat u2_10)).From < ((u2_8.n : Nat) : Int))) (
 .ite (decide ((0 : Int) ≤ (u2_3.f (Int.toNat u2_10)).To ∧ (u2_3.f (Int.toNat u2_10)).To < ((u2_8.n : Nat) : Int))) (
 .sum (Codes_fit_l14 (u2_9.f (Int.toNat u2_10)) u2_0 z2.2 u2_2 u2_3 u2_4 u2_5 u2_6 u2_7 u2_8 u2_9 u2_10 (Int.toNat u2_10) (wr ((wr ((wr (y0 * (if (u2_9.f (Int.toNat u2_10)) < (wr (0 - (u2_9.f (Int.toNat u2_10)))) then (wr (0 - (u2_9.f (Int.toNat u2_10)))) else (u2_9.f (Int.toNat u2_10))))) * (u2_9.f (Int.toNat u2_10)))) - (wr ((u2_8.f (Int.toNat (u2_3.f (Int.toNat u2_10)).From)) - (u2_8.f (Int.toNat (u2_3.f (Int.toNat u2_10)).To)))))) (0 : Int)) (fun y1 =>
 .bind (Codes_Next (SCodes.mk u2_0 z2.2) (30 : Int)) fun z3 =>
 .bind (Codes_Next (SCodes.mk u2_0 z3.2) (30 : Int)) fun z4 =>
 .leaf (.next (z4.2, (Sq.mk u2_3.n (fun k0 => (SRoad.mk (cond (Nat.beq k0 (Int.toNat u2_10)) (u2_3.f (Int.toNat u2_10)).From (u2_3.f k0).From) (cond (Nat.beq k0 (Int.toNat u2_10)) (u2_3.f (Int.toNat u2_10)).To (u2_3.f k0).To) (cond (Nat.beq k0 (Int.toNat u2_10)) (u2_3.f (Int.toNat u2_10)).Length (u2_3.f k0).Length) (cond (Nat.beq k0 (Int.toNat u2_10)) (u2_3.f (Int.toNat u2_10)).Area (u2_3.f k0).Area) (cond (Nat.beq k0 (Int.toNat u2_10)) (u2_3.f (Int.toNat u2_10)).Walk (u2_3.f k0).Walk) (cond (Nat.beq k0 (Int.toNat u2_10)) (u2_3.f (Int.toNat u2_10)).Closed (u2_3.f k0).Closed) (SSpan.mk (cond (Nat.beq k0 (Int.toNat u2_10)) (u2_3.f (Int.toNat u2_10)).Rest.Low (u2_3.f k0).Rest.Low) (cond (Nat.beq k0 (Int.toNat u2_10)) (u2_3.f (Int.toNat u2_10)).Rest.High (u2_3.f k0).Rest.High)) (SSpan.mk (cond (Nat.beq k0 (Int.toNat u2_10)) (wr (y1 - z3.1)) (u2_3.f k0).Lift.Low) (cond (Nat.beq k0 (Int.toNat u2_10)) (wr (y1 + z4.1)) (u2_3.f k0).Lift.High))))), (wr (u2_10 + (1 : Int)))))) (fun _ => .fail)) (
 .fail)) (
 .fail)) (fun _ => .fail)) (
 .fail)) (
 .fail)) (
 .leaf (.l (u2_1, u2_3)))
noncomputable def Codes_fit_l2_m : LpM := ⟨(Sq Int) × (Sq SPlace) × (Sq SFan) × (Sq SDoor) × (Sq Int) × (Sq Int) × (Sq Int) × (Sq Int), Int × (Sq SRoad) × Int, Int × (Sq SRoad), Unit, fun p => ⟨[(0, .ptr 0 0), (1, .ptr 1 0), (6, .ptr 6 0), (7, .ptr 70 0), (8, .int .i64 p.2.2.2)], [(0, .var [sqA 1 (eI .u8) p.1.1, .int .i64 p.2.1]), (1, .var [.own 2 0, .own 3 0, .own 4 0, .own 5 0]), (2, rowA 0 2 64 SPlace.enc p.1.2.1), (3, rowA 0 10 71 SRoad.enc p.2.2.1), (4, rowA 0 4 99 SFan.enc p.1.2.2.1), (5, rowA 0 3 61 SDoor.enc p.1.2.2.2.1), (6, .var [sqA 1 (eI .i64) p.1.2.2.2.2.1, sqA 1 (eI .i64) p.1.2.2.2.2.2.1]), (70, .var [sqA 1 (eI .i64) p.1.2.2.2.2.2.2.1, sqA 1 (eI .i64) p.1.2.2.2.2.2.2.2])], 198⟩, fun f v => Codes_fit_l2_step f.1 f.2.1 f.2.2.1 f.2.2.2.1 f.2.2.2.2.1 f.2.2.2.2.2.1 f.2.2.2.2.2.2.1 f.2.2.2.2.2.2.2 v.1 v.2.1 v.2.2, true, (.exit 0), (fun x a => ⟨[], [(0, .var [cellS x 0 0, .int .i64 a.1]), (1, .var [.own 2 0, .own 3 0, .own 4 0, .own 5 0]), (2, blkS x 2), (3, rowA 0 10 71 SRoad.enc a.2), (4, blkS x 4), (5, blkS x 5), (6, blkS x 6), (70, blkS x 70)], 198⟩), .ret, (fun _ _ => ⟨[], [], 0⟩), c1, c1k⟩
noncomputable def Codes_fit_l2 (u2_0 : Sq Int) (u2_2 : Sq SPlace) (u2_4 : Sq SFan) (u2_5 : Sq SDoor) (u2_6 u2_7 u2_8 u2_9 : Sq Int) (u2_1 : Int) (u2_3 : Sq SRoad) (u2_10 : Int) : Option ((Int × (Sq SRoad)) ⊕ (Unit)) := Codes_fit_l2_m.val ((u2_0, u2_2, u2_4, u2_5, u2_6, u2_7, u2_8, u2_9), (u2_1, u2_3, u2_10))
theorem Codes_fit_l2_eq (u2_0 : Sq Int) (u2_2 : Sq SPlace) (u2_4 : Sq SFan) (u2_5 : Sq SDoor) (u2_6 u2_7 u2_8 u2_9 : Sq Int) (u2_1 : Int) (u2_3 : Sq SRoad) (u2_10 : Int) : Codes_fit_l2 u2_0 u2_2 u2_4 u2_5 u2_6 u2_7 u2_8 u2_9 u2_1 u2_3 u2_10 = fixO (fun v : Int × (Sq SRoad) × Int => Codes_fit_l2_step u2_0 u2_2 u2_4 u2_5 u2_6 u2_7 u2_8 u2_9 v.1 v.2.1 v.2.2) (u2_1, u2_3, u2_10) := Codes_fit_l2_m.val_eq (fun x => ((sqD dI (cellS x 0 0), sqB SPlace.dec (blkS x 2), sqB SFan.dec (blkS x 4), sqB SDoor.dec (blkS x 5), sqD dI (cellS x 6 0), sqD dI (cellS x 6 1), sqD dI (cellS x 70 0), sqD dI (cellS x 70 1)), (intA (cellS x 0 1), sqB SRoad.dec (blkS x 3), intA (aget x.tm 8)))) (fun p => by kernel_rfl) ((u2_0, u2_2, u2_4, u2_5, u2_6, u2_7, u2_8, u2_9), (u2_1, u2_3, u2_10))
noncomputable def Codes_fit_t (c : SCodes) (a : SAir) (s : SSetting) (x : SState) : DT (Int × (Sq SRoad)) :=
 .sum (Codes_fit_l2 c.l_ a.Mine.Places a.Fans a.Doors s.Fans s.Doors x.Pressures x.Flows c.at_ a.Mine.Roads (0 : Int)) (fun y2 =>
 .leaf (y2.1, y2.2)) (fun _ => .fail)
noncomputable def Codes_fit_m : FnM := nfM (SCodes × SAir × SSetting × SState) (Int × (Sq SRoad)) (fun p => ([.ptr 0 0, .ptr 1 0, .agg (SSetting.enc p.2.2.1), .agg (SState.enc p.2.2.2)], [.var (SCodes.enc p.1), .var [.own 2 0, .own 3 0, .own 4 0, .own 5 0], rowA 0 2 64 SPlace.enc p.2.1.Mine.Places, rowA 0 10 71 SRoad.enc p.2.1.Mine.Roads, rowA 0 4 99 SFan.enc p.2.1.Fans, rowA 0 3 61 SDoor.enc p.2.1.Doors])) (fun p => Codes_fit_t p.1 p.2.1 p.2.2.1 p.2.2.2) (fun _ => .tup []) (fun ins r => [.var [cellB ins 0 0, .int .i64 r.1], dB ins 1, dB ins 2, rowA 0 10 71 SRoad.enc r.2, dB ins 4, dB ins 5])
noncomputable def Codes_fit_env : Env := envM [(23, Codes_Next_m.c), (58, ref08_Rest_m.c), (59, ref07_State_m.c)] [(8, [0, 1, 6, 7, 8, 9, 10, 11, 12], [0, 1, 6, 7, 8, 9, 10, 11]), (14, [0, 1, 6, 7, 8, 9, 10, 13, 14], [0, 1, 6, 7, 8, 9, 13]), (2, [0, 1, 6, 7, 8], [])] [(8, Codes_fit_l8_m.c), (14, Codes_fit_l14_m.c), (2, Codes_fit_l2_m.c)] [] [(8, [0, 1, 2, 3, 4, 5, 6, 70]), (14, [0, 1, 2, 3, 4, 5, 6, 70]), (2, [0, 1, 2, 3, 4, 5, 6, 70])] 6
noncomputable def Codes_fit_e : Env := { Codes_fit_env with nt := 166 }
theorem Codes_fit_l8_tells : LoopTells Codes_fit_e (loopOf 8 Tryz.f27) Codes_fit_l8_m.c := Codes_fit_l8_m.tells 3014 (fun _ => by kernel_rfl) (fun _ _ _ _ => by kernel_rfl) (fun _ _ _ _ => by kernel_rfl) fun R f v N K => by kernel_rfl
theorem Codes_fit_l14_tells : LoopTells Codes_fit_e (loopOf 14 Tryz.f27) Codes_fit_l14_m.c := Codes_fit_l14_m.tells 4806 (fun _ => by kernel_rfl) (fun _ _ _ _ => by kernel_rfl) (fun _ _ _ _ => by kernel_rfl) fun R f v N K => by kernel_rfl
theorem Codes_fit_l2_tells : LoopTells Codes_fit_e (loopOf 2 Tryz.f27) Codes_fit_l2_m.c := Codes_fit_l2_m.tells 198 (fun _ => by kernel_rfl) (fun _ _ _ _ => by kernel_rfl) (fun _ _ _ _ => by kernel_rfl) fun R f v N K => by kernel_rfl
theorem Codes_fit_tells : Tells Tryz.prog 27 Codes_fit_m.c := Codes_fit_m.tells Tryz.func27 (show ∀ p, arun Codes_fit_env Tryz.f27 (Codes_fit_m.enc p).1 (Codes_fit_m.enc p).2 = _ from fun p => by kernel_rfl) (loopsL [loopOf 2 Tryz.f27, loopOf 8 Tryz.f27, loopOf 14 Tryz.f27] (by kernel_rfl) ⟨lpT (by kernel_rfl) Codes_fit_l2_tells, ⟨lpT (by kernel_rfl) Codes_fit_l8_tells, ⟨lpT (by kernel_rfl) Codes_fit_l14_tells, trivial⟩⟩⟩) (.cons Codes_Next_tells (.cons ref08_Rest_tells (.cons ref07_State_tells .nil)))
noncomputable def Codes_fit (c : SCodes) (a : SAir) (s : SSetting) (x : SState) : Option (Int × (Sq SRoad)) := Codes_fit_m.val (c, a, s, x)
theorem Codes_fit_eq (c : SCodes) (a : SAir) (s : SSetting) (x : SState) : Codes_fit c a s x = (Codes_fit_t c a s x).get := Codes_fit_m.val_eq (fun x => (SCodes.dec (varL (dB x.2 0)), ⟨⟨sqB SPlace.dec (dB x.2 2), sqB SRoad.dec (dB x.2 3)⟩, sqB SFan.dec (dB x.2 4), sqB SDoor.dec (dB x.2 5)⟩, SSetting.dec (aggL (gd x.1 2)), SState.dec (aggL (gd x.1 3)))) (fun p => by kernel_rfl) (c, a, s, x)

/-! (*minecontrol/minecontroldraw.Codes).doubts -/
noncomputable def Codes_doubts_l3_step (u3_0 u3_2 _u3_3 : Sq Int) (u3_1 : Int) (u3_4 : Sq Int) (u3_5 : Int) : DT (LR (Int × (Sq Int) × Int) (Int × (Sq Int)) (Unit)) :=
 .ite (decide (u3_5 < ((u3_2.n : Nat) : Int))) (
 .ite (decide ((0 : Int) ≤ u3_5 ∧ u3_5 < ((u3_2.n : Nat) : Int))) (
 .bind (Codes_One (SCodes.mk u3_0 u3_1) (5 : Int)) fun z0 =>
 .ite z0.1 (
 .ite (decide ((u3_4.n + 1) * 8 ≤ 140737488355328 ∧ (u3_4.n + 1) ≤ 1099511627776)) (
 .leaf (.next (z0.2, (Sq.mk (u3_4.n + 1) (fun k0 => (cond (Nat.blt k0 u3_4.n) (u3_4.f k0) (-1 : Int)))), (wr (u3_5 + (1 : Int)))))) (
 .fail)) (
 .ite (decide ((u3_4.n + 1) * 8 ≤ 140737488355328 ∧ (u3_4.n + 1) ≤ 1099511627776)) (
 .leaf (.next (z0.2, (Sq.mk (u3_4.n + 1) (fun k1 => (cond (Nat.blt k1 u3_4.n) (u3_4.f k1) (u3_2.f (Int.toNat u3_5))))), (wr (u3_5 + (1 : Int)))))) (
 .fail))) (
 .fail)) (
 .leaf (.l (u3_1, u3_4)))
noncomputable def Codes_doubts_l3_m : LpM := ⟨(Sq Int) × (Sq Int) × (Sq Int), Int × (Sq Int) × Int, Int × (Sq Int), Unit, fun p => ⟨[(0, .ptr 0 0), (5, .ptr 65 0), (6, .ptr 129 0), (7, .ptr 193 0), (8, .int .i64 p.2.2.2)], [(0, .var [sqA 1 (eI .u8) p.1.1, .int .i64 p.2.1]), (65, .var [sqA 1 (eI .i64) p.1.2.1, sqA 1 (eI .i64) p.1.2.2]), (129, .var [.own 130 0, .own 131 0]), (130, .nilrow 0), (131, .nilrow 0), (193, .var [.own 194 0, .own 195 0]), (194, rowA 0 1 3 (eI .i64) p.2.2.1), (195, .nilrow 0)], 321⟩, fun f v => Codes_doubts_l3_step f.1 f.2.1 f.2.2 v.1 v.2.1 v.2.2, true, (.exit 0), (fun x a => ⟨[(0, .ptr 0 0), (5, .ptr 65 0), (6, .ptr 129 0), (7, .ptr 193 0)], [(0, .var [cellS x 0 0, .int .i64 a.1]), (65, blkS x 65), (129, .var [.own 130 0, .own 131 0]), (130, .nilrow 0), (131, .nilrow 0), (193, .var [.own 194 0, .own 195 0]), (194, rowA 0 1 3 (eI .i64) a.2), (195, .nilrow 0)], 321⟩), .ret, (fun _ _ => ⟨[], [], 0⟩), c1, c1k⟩
noncomputable def Codes_doubts_l3 (u3_0 u3_2 u3_3 : Sq Int) (u3_1 : Int) (u3_4 : Sq Int) (u3_5 : Int) : Option ((Int × (Sq Int)) ⊕ (Unit)) := Codes_doubts_l3_m.val ((u3_0, u3_2, u3_3), (u3_1, u3_4, u3_5))
theorem Codes_doubts_l3_eq (u3_0 u3_2 u3_3 : Sq Int) (u3_1 : Int) (u3_4 : Sq Int) (u3_5 : Int) : Codes_doubts_l3 u3_0 u3_2 u3_3 u3_1 u3_4 u3_5 = fixO (fun v : Int × (Sq Int) × Int => Codes_doubts_l3_step u3_0 u3_2 u3_3 v.1 v.2.1 v.2.2) (u3_1, u3_4, u3_5) := Codes_doubts_l3_m.val_eq (fun x => ((sqD dI (cellS x 0 0), sqD dI (cellS x 65 0), sqD dI (cellS x 65 1)), (intA (cellS x 0 1), sqB dI (blkS x 194), intA (aget x.tm 8)))) (fun p => by kernel_rfl) ((u3_0, u3_2, u3_3), (u3_1, u3_4, u3_5))
noncomputable def Codes_doubts_l10_step (u10_0 _u10_2 u10_3 _u10_4 : Sq Int) (u10_1 : Int) (u10_5 : Sq Int) (u10_6 : Int) : DT (LR (Int × (Sq Int) × Int) (Int × (Sq Int)) (Unit)) :=
 .ite (decide (u10_6 < ((u10_3.n : Nat) : Int))) (
 .ite (decide ((0 : Int) ≤ u10_6 ∧ u10_6 < ((u10_3.n : Nat) : Int))) (
 .bind (Codes_One (SCodes.mk u10_0 u10_1) (5 : Int)) fun z1 =>
 .ite z1.1 (
 .ite (decide ((u10_5.n + 1) * 8 ≤ 140737488355328 ∧ (u10_5.n + 1) ≤ 1099511627776)) (
 .leaf (.next (z1.2, (Sq.mk (u10_5.n + 1) (fun k2 => (cond (Nat.blt k2 u10_5.n) (u10_5.f k2) (-1 : Int)))), (wr (u10_6 + (1 : Int)))))) (
 .fail)) (
 .ite (decide ((u10_5.n + 1) * 8 ≤ 140737488355328 ∧ (u10_5.n + 1) ≤ 1099511627776)) (
 .leaf (.next (z1.2, (Sq.mk (u10_5.n + 1) (fun k3 => (cond (Nat.blt k3 u10_5.n) (u10_5.f k3) (u10_3.f (Int.toNat u10_6))))), (wr (u10_6 + (1 : Int)))))) (
 .fail))) (
 .fail)) (
 .leaf (.l (u10_1, u10_5)))
noncomputable def Codes_doubts_l10_m : LpM := ⟨(Sq Int) × (Sq Int) × (Sq Int) × (Sq Int), Int × (Sq Int) × Int, Int × (Sq Int), Unit, fun p => ⟨[(0, .ptr 0 0), (5, .ptr 65 0), (6, .ptr 129 0), (7, .ptr 193 0), (10, .int .i64 p.2.2.2)], [(0, .var [sqA 1 (eI .u8) p.1.1, .int .i64 p.2.1]), (65, .var [sqA 1 (eI .i64) p.1.2.1, sqA 1 (eI .i64) p.1.2.2.1]), (129, .var [.own 130 0, .own 131 0]), (130, .nilrow 0), (131, .nilrow 0), (193, .var [.own 194 0, .own 195 0]), (194, rowA 0 1 3 (eI .i64) p.1.2.2.2), (195, rowA 0 1 3 (eI .i64) p.2.2.1)], 385⟩, fun f v => Codes_doubts_l10_step f.1 f.2.1 f.2.2.1 f.2.2.2 v.1 v.2.1 v.2.2, true, (.exit 2), (fun x a => ⟨[(6, .ptr 129 0), (7, .ptr 193 0)], [(0, .var [cellS x 0 0, .int .i64 a.1]), (65, blkS x 65), (129, .var [.own 130 0, .own 131 0]), (130, .nilrow 0), (131, .nilrow 0), (193, .var [.own 194 0, .own 195 0]), (194, blkS x 194), (195, rowA 0 1 3 (eI .i64) a.2)], 385⟩), .ret, (fun _ _ => ⟨[], [], 0⟩), c1, c1k⟩
noncomputable def Codes_doubts_l10 (u10_0 u10_2 u10_3 u10_4 : Sq Int) (u10_1 : Int) (u10_5 : Sq Int) (u10_6 : Int) : Option ((Int × (Sq Int)) ⊕ (Unit)) := Codes_doubts_l10_m.val ((u10_0, u10_2, u10_3, u10_4), (u10_1, u10_5, u10_6))
theorem Codes_doubts_l10_eq (u10_0 u10_2 u10_3 u10_4 : Sq Int) (u10_1 : Int) (u10_5 : Sq Int) (u10_6 : Int) : Codes_doubts_l10 u10_0 u10_2 u10_3 u10_4 u10_1 u10_5 u10_6 = fixO (fun v : Int × (Sq Int) × Int => Codes_doubts_l10_step u10_0 u10_2 u10_3 u10_4 v.1 v.2.1 v.2.2) (u10_1, u10_5, u10_6) := Codes_doubts_l10_m.val_eq (fun x => ((sqD dI (cellS x 0 0), sqD dI (cellS x 65 0), sqD dI (cellS x 65 1), sqB dI (blkS x 194)), (intA (cellS x 0 1), sqB dI (blkS x 195), intA (aget x.tm 10)))) (fun p => by kernel_rfl) ((u10_0, u10_2, u10_3, u10_4), (u10_1, u10_5, u10_6))
noncomputable def Codes_doubts_t (c : SCodes) (s : SSetting) : DT (SSetting × Int) :=
 .sum (Codes_doubts_l3 c.l_ s.Fans s.Doors c.at_ (Sq.mk 0 (fun _ => (0 : Int))) (0 : Int)) (fun y0 =>
 .sum (Codes_doubts_l10 c.l_ s.Fans s.Doors y0.2 y0.1 (Sq.mk 0 (fun _ => (0 : Int))) (0 : Int)) (fun y1 =>
 .leaf ((SSetting.mk y0.2 y1.2), y1.1)) (fun _ => .fail)) (fun _ => .fail)
noncomputable def Codes_doubts_m : FnM := nfM (SCodes × SSetting) (SSetting × Int) (fun p => ([.ptr 0 0, .agg [.any1, .any1, .any1, .any1], .agg (SSetting.enc p.2)], [.var (SCodes.enc p.1)])) (fun p => Codes_doubts_t p.1 p.2) (fun _ => .agg [.own 1 0, .own 2 0]) (fun ins r => [.var [cellB ins 0 0, .int .i64 r.2], rowA 0 1 3 (eI .i64) r.1.Fans, rowA 0 1 3 (eI .i64) r.1.Doors])
noncomputable def Codes_doubts_env : Env := envM [(22, Codes_One_m.c)] [(3, [0, 5, 6, 7, 8], [0, 5, 6, 7]), (10, [0, 5, 6, 7, 10], [6, 7])] [(3, Codes_doubts_l3_m.c), (10, Codes_doubts_l10_m.c)] [(1000003, [.asrow 194 3 1 (fun _ => (eI .i64) (0 : Int))]), (1000010, [.asrow 195 3 1 (fun _ => (eI .i64) (0 : Int))])] [(3, [0, 65, 129, 130, 131, 193, 194, 195]), (10, [0, 65, 129, 130, 131, 193, 194, 195])] 1
noncomputable def Codes_doubts_e : Env := { Codes_doubts_env with nt := 53 }
theorem Codes_doubts_l3_tells : LoopTells Codes_doubts_e (loopOf 3 Tryz.f28) Codes_doubts_l3_m.c := Codes_doubts_l3_m.tells 321 (fun _ => by kernel_rfl) (fun _ _ _ _ => by kernel_rfl) (fun _ _ _ _ => by kernel_rfl) fun R f v N K => by kernel_rfl
theorem Codes_doubts_l10_tells : LoopTells Codes_doubts_e (loopOf 10 Tryz.f28) Codes_doubts_l10_m.c := Codes_doubts_l10_m.tells 385 (fun _ => by kernel_rfl) (fun _ _ _ _ => by kernel_rfl) (fun _ _ _ _ => by kernel_rfl) fun R f v N K => by kernel_rfl
theorem Codes_doubts_tells : Tells Tryz.prog 28 Codes_doubts_m.c := Codes_doubts_m.tells Tryz.func28 (show ∀ p, arun Codes_doubts_env Tryz.f28 (Codes_doubts_m.enc p).1 (Codes_doubts_m.enc p).2 = _ from fun p => by kernel_rfl) (loopsL [loopOf 3 Tryz.f28, loopOf 10 Tryz.f28] (by kernel_rfl) ⟨lpT (by kernel_rfl) Codes_doubts_l3_tells, ⟨lpT (by kernel_rfl) Codes_doubts_l10_tells, trivial⟩⟩) (.cons Codes_One_tells .nil)
noncomputable def Codes_doubts (c : SCodes) (s : SSetting) : Option (SSetting × Int) := Codes_doubts_m.val (c, s)
theorem Codes_doubts_eq (c : SCodes) (s : SSetting) : Codes_doubts c s = (Codes_doubts_t c s).get := Codes_doubts_m.val_eq (fun x => (SCodes.dec (varL (dB x.2 0)), SSetting.dec (aggL (gd x.1 2)))) (fun p => by kernel_rfl) (c, s)

/-! (*minecontrol/minecontroldraw.Codes).Made -/
noncomputable def Codes_Made_l6_step (u6_1 : Sq Int) (_u6_4 u6_0 u6_2 : Int) (u6_3 : Sq SPlace) : DT (LR (Int × Int × (Sq SPlace)) (Int × (Sq SPlace)) (Unit)) :=
 .ite (decide (u6_0 > (0 : Int))) (
 .bind (Codes_Next (SCodes.mk u6_1 u6_2) (100 : Int)) fun z0 =>
 .ite (decide ((u6_3.n + 1) * 16 ≤ 140737488355328 ∧ (u6_3.n + 1) ≤ 1099511627776)) (
 .leaf (.next ((wr (u6_0 - (1 : Int))), z0.2, (Sq.mk (u6_3.n + 1) (fun k0 => (SPlace.mk (cond (Nat.blt k0 u6_3.n) (u6_3.f k0).Height (wr (0 - z0.1))) (cond (Nat.blt k0 u6_3.n) (u6_3.f k0).Surface false))))))) (
 .fail)) (
 .leaf (.l (u6_2, u6_3)))
noncomputable def Codes_Made_l6_m : LpM := ⟨(Sq Int) × Int, Int × Int × (Sq SPlace), Int × (Sq SPlace), Unit, fun p => ⟨[(0, .ptr 0 0), (2, .ptr 1 0), (3, .ptr 65 0), (4, .ptr 129 0), (5, .ptr 449 0), (6, .int .i64 p.1.2), (7, .int .i64 p.2.1)], [(0, .var [sqA 1 (eI .u8) p.1.1, .int .i64 p.2.2.1]), (1, .var [.own 2 0, .own 3 0, .own 4 0, .own 5 0]), (2, .nilrow 0), (3, .nilrow 0), (4, .nilrow 0), (5, .nilrow 0), (65, .var [.own 66 0, .own 67 0]), (66, .nilrow 0), (67, .nilrow 0), (129, .var [.own 130 0, .own 131 0]), (130, .nilrow 0), (131, .nilrow 0), (257, rowA 0 2 64 SPlace.enc p.2.2.2), (322, .nilrow 0), (387, .nilrow 0), (388, .nilrow 0), (449, .var [.own 257 0, .own 322 0, .own 387 0, .own 388 0])], 1793⟩, fun f v => Codes_Made_l6_step f.1 f.2 v.1 v.2.1 v.2.2, true, (.exit 0), (fun x a => ⟨[(0, .ptr 0 0), (2, .ptr 1 0), (3, .ptr 65 0), (4, .ptr 129 0), (5, .ptr 449 0), (6, aget x.tm 6)], [(0, .var [cellS x 0 0, .int .i64 a.1]), (1, .var [.own 2 0, .own 3 0, .own 4 0, .own 5 0]), (2, .nilrow 0), (3, .nilrow 0), (4, .nilrow 0), (5, .nilrow 0), (65, .var [.own 66 0, .own 67 0]), (66, .nilrow 0), (67, .nilrow 0), (129, .var [.own 130 0, .own 131 0]), (130, .nilrow 0), (131, .nilrow 0), (257, rowA 0 2 64 SPlace.enc a.2), (322, .nilrow 0), (387, .nilrow 0), (388, .nilrow 0), (449, .var [.own 257 0, .own 322 0, .own 387 0, .own 388 0])], 1793⟩), .ret, (fun _ _ => ⟨[], [], 0⟩), c1, c1k⟩
noncomputable def Codes_Made_l6 (u6_1 : Sq Int) (u6_4 u6_0 u6_2 : Int) (u6_3 : Sq SPlace) : Option ((Int × (Sq SPlace)) ⊕ (Unit)) := Codes_Made_l6_m.val ((u6_1, u6_4), (u6_0, u6_2, u6_3))
theorem Codes_Made_l6_eq (u6_1 : Sq Int) (u6_4 u6_0 u6_2 : Int) (u6_3 : Sq SPlace) : Codes_Made_l6 u6_1 u6_4 u6_0 u6_2 u6_3 = fixO (fun v : Int × Int × (Sq SPlace) => Codes_Made_l6_step u6_1 u6_4 v.1 v.2.1 v.2.2) (u6_0, u6_2, u6_3) := Codes_Made_l6_m.val_eq (fun x => ((sqD dI (cellS x 0 0), intA (aget x.tm 6)), (intA (aget x.tm 7), intA (cellS x 0 1), sqB SPlace.dec (blkS x 257)))) (fun p => by kernel_rfl) ((u6_1, u6_4), (u6_0, u6_2, u6_3))
noncomputable def Codes_Made_l12_step (u12_1 : Sq Int) (u12_3 : Sq SPlace) (_u12_6 u12_2 : Int) (u12_4 : Sq Int) (u12_5 : Int) : DT (LR (Int × (Sq Int) × Int) (Int × (Sq Int)) (Unit)) :=
 .ite (decide (u12_5 < ((u12_3.n : Nat) : Int))) (
 .bind (Codes_Range (SCodes.mk u12_1 u12_2) (-4000 : Int) (4000 : Int)) fun z1 =>
 .ite (decide ((0 : Int) ≤ u12_5 ∧ u12_5 < ((u12_4.n : Nat) : Int))) (
 .leaf (.next (z1.2, (Sq.mk u12_4.n (fun k1 => (cond (Nat.beq k1 (Int.toNat u12_5)) z1.1 (u12_4.f k1)))), (wr (u12_5 + (1 : Int)))))) (
 .fail)) (
 .leaf (.l (u12_2, u12_4)))
noncomputable def Codes_Made_l12_m : LpM := ⟨(Sq Int) × (Sq SPlace) × Int, Int × (Sq Int) × Int, Int × (Sq Int), Unit, fun p => ⟨[(0, .ptr 0 0), (2, .ptr 1 0), (3, .ptr 65 0), (4, .ptr 129 0), (5, .ptr 449 0), (6, .int .i64 p.1.2.2), (8, .int .i64 ((p.1.2.1.n : Nat) : Int)), (9, .ptr 2305 0), (10, .int .i64 p.2.2.2)], [(0, .var [sqA 1 (eI .u8) p.1.1, .int .i64 p.2.1]), (1, .var [.own 2 0, .own 3 0, .own 4 0, .own 5 0]), (2, .nilrow 0), (3, .nilrow 0), (4, .nilrow 0), (5, .nilrow 0), (65, .var [.own 66 0, .own 67 0]), (66, .nilrow 0), (67, .nilrow 0), (129, .var [.own 130 0, .own 131 0]), (130, .nilrow 0), (131, .nilrow 0), (257, rowA 0 2 64 SPlace.enc p.1.2.1), (322, .nilrow 0), (387, .nilrow 0), (388, .nilrow 0), (449, .var [.own 257 0, .own 322 0, .own 387 0, .own 388 0]), (2177, rowA 0 1 3 (eI .i64) p.2.2.1), (2242, .nilrow 0), (2305, .var [.own 2177 0, .own 2242 0])], 2561⟩, fun f v => Codes_Made_l12_step f.1 f.2.1 f.2.2 v.1 v.2.1 v.2.2, true, (.exit 2), (fun x a => ⟨[(0, .ptr 0 0), (2, .ptr 1 0), (3, .ptr 65 0), (4, .ptr 129 0), (5, .ptr 449 0), (6, aget x.tm 6), (8, aget x.tm 8), (9, .ptr 2305 0)], [(0, .var [cellS x 0 0, .int .i64 a.1]), (1, .var [.own 2 0, .own 3 0, .own 4 0, .own 5 0]), (2, .nilrow 0), (3, .nilrow 0), (4, .nilrow 0), (5, .nilrow 0), (65, .var [.own 66 0, .own 67 0]), (66, .nilrow 0), (67, .nilrow 0), (129, .var [.own 130 0, .own 131 0]), (130, .nilrow 0), (131, .nilrow 0), (257, blkS x 257), (322, .nilrow 0), (387, .nilrow 0), (388, .nilrow 0), (449, .var [.own 257 0, .own 322 0, .own 387 0, .own 388 0]), (2177, rowA 0 1 3 (eI .i64) a.2), (2242, .nilrow 0), (2305, .var [.own 2177 0, .own 2242 0])], 2561⟩), .ret, (fun _ _ => ⟨[], [], 0⟩), c1, c1k⟩
noncomputable def Codes_Made_l12 (u12_1 : Sq Int) (u12_3 : Sq SPlace) (u12_6 u12_2 : Int) (u12_4 : Sq Int) (u12_5 : Int) : Option ((Int × (Sq Int)) ⊕ (Unit)) := Codes_Made_l12_m.val ((u12_1, u12_3, u12_6), (u12_2, u12_4, u12_5))
theorem Codes_Made_l12_eq (u12_1 : Sq Int) (u12_3 : Sq SPlace) (u12_6 u12_2 : Int) (u12_4 : Sq Int) (u12_5 : Int) : Codes_Made_l12 u12_1 u12_3 u12_6 u12_2 u12_4 u12_5 = fixO (fun v : Int × (Sq Int) × Int => Codes_Made_l12_step u12_1 u12_3 u12_6 v.1 v.2.1 v.2.2) (u12_2, u12_4, u12_5) := Codes_Made_l12_m.val_eq (fun x => ((sqD dI (cellS x 0 0), sqB SPlace.dec (blkS x 257), intA (aget x.tm 6)), (intA (cellS x 0 1), sqB dI (blkS x 2177), intA (aget x.tm 10)))) (fun p => by kernel_rfl) ((u12_1, u12_3, u12_6), (u12_2, u12_4, u12_5))
noncomputable def Codes_Made_l18_step (u18_2 : Sq Int) (u18_4 : Sq SPlace) (_u18_6 : Sq Int) (_u18_9 u18_1 u18_3 : Int) (u18_5 : Sq SRoad) (u18_7 u18_8 : Sq Int) : DT (LR (Int × Int × (Sq SRoad) × (Sq Int) × (Sq Int)) (Int × (Sq SRoad) × (Sq Int) × (Sq Int)) (Unit)) :=
 .ite (decide (u18_1 > (0 : Int))) (
 .bind (Codes_Next (SCodes.mk u18_2 u18_3) ((u18_4.n : Nat) : Int)) fun z2 =>
 .bind (Codes_Next (SCodes.mk u18_2 z2.2) (wr (((u18_4.n : Nat) : Int) - (1 : Int)))) fun z3 =>
 .ite (((u18_4.n : Nat) : Int) != 0) (
 .bind (Codes_Road (SCodes.mk u18_2 z3.2) z2.1 (Int.tmod (wr ((wr (z2.1 + (1 : Int))) + z3.1)) ((u18_4.n : Nat) : Int))) fun z4 =>
 .bind (Codes_One (SCodes.mk u18_2 z4.2) (7 : Int)) fun z5 =>
 .bind (Codes_Range (SCodes.mk u18_2 z5.2) (-60 : Int) (60 : Int)) fun z6 =>
 .ite z5.1 (
 .ite (decide ((u18_5.n + 1) * 72 ≤ 140737488355328 ∧ (u18_5.n + 1) ≤ 1099511627776)) (
 .ite (decide ((u18_7.n + 1) * 8 ≤ 140737488355328 ∧ (u18_7.n + 1) ≤ 1099511627776)) (
 .ite (decide ((0 : Int) ≤ z4.1.From ∧ z4.1.From < ((u18_8.n : Nat) : Int))) (
 .ite (decide ((0 : Int) ≤ z4.1.From ∧ z4.1.From < ((u18_8.n : Nat) : Int))) (
 .ite (decide ((0 : Int) ≤ z4.1.To ∧ z4.1.To < ((u18_8.n : Nat) : Int))) (
 .ite (decide ((0 : Int) ≤ z4.1.To ∧ z4.1.To < ((u18_8.n : Nat) : Int))) (
 .leaf (.next ((wr (u18_1 - (1 : Int))), z6.2, (Sq.mk (u18_5.n + 1) (fun k2 => (SRoad.mk (cond (Nat.blt k2 u18_5.n) (u18_5.f k2).From z4.1.From) (cond (Nat.blt k2 u18_5.n) (u18_5.f k2).To z4.1.To) (cond (Nat.blt k2 u18_5.n) (u18_5.f k2).Length z4.1.Length) (cond (Nat.blt k2 u18_5.n) (u18_5.f k2).Area z4.1.Area) (cond (Nat.blt k2 u18_5.n) (u18_5.f k2).Walk z4.1.Walk) (cond (Nat.blt k2 u18_5.n) (u18_5.f k2).Closed z5.1) (SSpan.mk (cond (Nat.blt k2 u18_5.n) (u18_5.f k2).Rest.Low z4.1.Rest.Low) (cond (Nat.blt k2 u18_5.n) (u18_5.f k2).Rest.High z4.1.Rest.High)) (SSpan.mk (cond (Nat.blt k2 u18_5.n) (u18_5.f k2).Lift.Low z4.1.Lift.Low) (cond (Nat.blt k2 u18_5.n) (u18_5.f k2).Lift.High z4.1.Lift.High))))), (Sq.mk (u18_7.n + 1) (fun k3 => (cond (Nat.blt k3 u18_7.n) (u18_7.f k3) (0 : Int)))), (Sq.mk u18_8.n (fun k4 => (cond (Nat.beq k4 (Int.toNat z4.1.To)) (wr ((cond (Nat.beq (Int.toNat z4.1.To) (Int.toNat z4.1.From)) (wr ((u18_8.f (Int.toNat z4.1.From)) + (0 : Int))) (u18_8.f (Int.toNat z4.1.To))) - (0 : Int))) (cond (Nat.beq k4 (Int.toNat z4.1.From)) (wr ((u18_8.f (Int.toNat z4.1.From)) + (0 : Int))) (u18_8.f k4)))))))) (
 .fail)) (
 .fail)) (
 .fail)) (
 .fail)) (
 .fail)) (
 .fail)) (
 .ite (decide ((u18_5.n + 1) * 72 ≤ 140737488355328 ∧ (u18_5.n + 1) ≤ 1099511627776)) (
 .ite (decide ((u18_7.n + 1) * 8 ≤ 140737488355328 ∧ (u18_7.n + 1) ≤ 1099511627776)) (
 .ite (decide ((0 : Int) ≤ z4.1.From ∧ z4.1.From < ((u18_8.n : Nat) : Int))) (
 .ite (decide ((0 : Int) ≤ z4.1.From ∧ z4.1.From < ((u18_8.n : Nat) : Int))) (
 .ite (decide ((0 : Int) ≤ z4.1.To ∧ z4.1.To < ((u18_8.n : Nat) : Int))) (
 .ite (decide ((0 : Int) ≤ z4.1.To ∧ z4.1.To < ((u18_8.n : Nat) : Int))) (
 .leaf (.next ((wr (u18_1 - (1 : Int))), z6.2, (Sq.mk (u18_5.n + 1) (fun k5 => (SRoad.mk (cond (Nat.blt k5 u18_5.n) (u18_5.f k5).From z4.1.From) (cond (Nat.blt k5 u18_5.n) (u18_5.f k5).To z4.1.To) (cond (Nat.blt k5 u18_5.n) (u18_5.f k5).Length z4.1.Length) (cond (Nat.blt k5 u18_5.n) (u18_5.f k5).Area z4.1.Area) (cond (Nat.blt k5 u18_5.n) (u18_5.f k5).Walk z4.1.Walk) (cond (Nat.blt k5 u18_5.n) (u18_5.f k5).Closed z5.1) (SSpan.mk (cond (Nat.blt k5 u18_5.n) (u18_5.f k5).Rest.Low z4.1.Rest.Low) (cond (Nat.blt k5 u18_5.n) (u18_5.f k5).Rest.High z4.1.Rest.High)) (SSpan.mk (cond (Nat.blt k5 u18_5.n) (u18_5.f k5).Lift.Low z4.1.Lift.Low) (cond (Nat.blt k5 u18_5.n) (u18_5.f k5).Lift.High z4.1.Lift.High))))), (Sq.mk (u18_7.n + 1) (fun k6 => (cond (Nat.blt k6 u18_7.n) (u18_7.f k6) z6.1))), (Sq.mk u18_8.n (fun k7 => (cond (Nat.beq k7 (Int.toNat z4.1.To)) (wr ((cond (Nat.beq (Int.toNat z4.1.To) (Int.toNat z4.1.From)) (wr ((u18_8.f (Int.toNat z4.1.From)) + z6.1)) (u18_8.f (Int.toNat z4.1.To))) - z6.1)) (cond (Nat.beq k7 (Int.toNat z4.1.From)) (wr ((u18_8.f (Int.toNat z4.1.From)) + z6.1)) (u18_8.f k7)))))))) (
 .fail)) (
 .fail)) (
 .fail)) (
 .fail)) (
 .fail)) (
 .fail))) (
 .fail)) (
 .leaf (.l (u18_3, u18_5, u18_7, u18_8)))
noncomputable def Codes_Made_l18_m : LpM := ⟨(Sq Int) × (Sq SPlace) × (Sq Int) × Int, Int × Int × (Sq SRoad) × (Sq Int) × (Sq Int), Int × (Sq SRoad) × (Sq Int) × (Sq Int), Unit, fun p => ⟨[(0, .ptr 0 0), (2, .ptr 1 0), (3, .ptr 65 0), (4, .ptr 129 0), (5, .ptr 449 0), (6, .int .i64 p.1.2.2.2), (8, .int .i64 ((p.1.2.1.n : Nat) : Int)), (9, .ptr 2305 0), (11, .own 2625 0), (12, .int .i64 p.2.1)], [(0, .var [sqA 1 (eI .u8) p.1.1, .int .i64 p.2.2.1]), (1, .var [.own 2 0, .own 3 0, .own 4 0, .own 5 0]), (2, .nilrow 0), (3, .nilrow 0), (4, .nilrow 0), (5, .nilrow 0), (65, .var [.own 66 0, .own 67 0]), (66, .nilrow 0), (67, .nilrow 0), (129, .var [.own 130 0, .own 131 0]), (130, .nilrow 0), (131, .nilrow 0), (257, rowA 0 2 64 SPlace.enc p.1.2.1), (322, rowA 0 10 71 SRoad.enc p.2.2.2.1), (387, .nilrow 0), (388, .nilrow 0), (449, .var [.own 257 0, .own 322 0, .own 387 0, .own 388 0]), (2177, rowA 0 1 3 (eI .i64) p.1.2.2.1), (2242, rowA 0 1 3 (eI .i64) p.2.2.2.2.1), (2305, .var [.own 2177 0, .own 2242 0]), (2625, rowA 0 1 3 (eI .i64) p.2.2.2.2.2)], 3073⟩, fun f v => Codes_Made_l18_step f.1 f.2.1 f.2.2.1 f.2.2.2 v.1 v.2.1 v.2.2.1 v.2.2.2.1 v.2.2.2.2, true, (.exit 4), (fun x a => ⟨[(0, .ptr 0 0), (2, .ptr 1 0), (3, .ptr 65 0), (4, .ptr 129 0), (5, .ptr 449 0), (6, aget x.tm 6), (8, aget x.tm 8), (9, .ptr 2305 0), (11, .own 2625 0)], [(0, .var [cellS x 0 0, .int .i64 a.1]), (1, .var [.own 2 0, .own 3 0, .own 4 0, .own 5 0]), (2, .nilrow 0), (3, .nilrow 0), (4, .nilrow 0), (5, .nilrow 0), (65, .var [.own 66 0, .own 67 0]), (66, .nilrow 0), (67, .nilrow 0), (129, .var [.own 130 0, .own 131 0]), (130, .nilrow 0), (131, .nilrow 0), (257, blkS x 257), (322, rowA 0 10 71 SRoad.enc a.2.1), (387, .nilrow 0), (388, .nilrow 0), (449, .var [.own 257 0, .own 322 0, .own 387 0, .own 388 0]), (2177, blkS x 2177), (2242, rowA 0 1 3 (eI .i64) a.2.2.1), (2305, .var [.own 2177 0, .own 2242 0]), (2625, rowA 0 1 3 (eI .i64) a.2.2.2)], 3073⟩), .ret, (fun _ _ => ⟨[], [], 0⟩), c1, c1k⟩
noncomputable def Codes_Made_l18 (u18_2 : Sq Int) (u18_4 : Sq SPlace) (u18_6 : Sq Int) (u18_9 u18_1 u18_3 : Int) (u18_5 : Sq SRoad) (u18_7 u18_8 : Sq Int) : Option ((Int × (Sq SRoad) × (Sq Int) × (Sq Int)) ⊕ (Unit)) := Codes_Made_l18_m.val ((u18_2, u18_4, u18_6, u18_9), (u18_1, u18_3, u18_5, u18_7, u18_8))
theorem Codes_Made_l18_eq (u18_2 : Sq Int) (u18_4 : Sq SPlace) (u18_6 : Sq Int) (u18_9 u18_1 u18_3 : Int) (u18_5 : Sq SRoad) (u18_7 u18_8 : Sq Int) : Codes_Made_l18 u18_2 u18_4 u18_6 u18_9 u18_1 u18_3 u18_5 u18_7 u18_8 = fixO (fun v : Int × Int × (Sq SRoad) × (Sq Int) × (Sq Int) => Codes_Made_l18_step u18_2 u18_4 u18_6 u18_9 v.1 v.2.1 v.2.2.1 v.2.2.2.1 v.2.2.2.2) (u18_1, u18_3, u18_5, u18_7, u18_8) := Codes_Made_l18_m.val_eq (fun x => ((sqD dI (cellS x 0 0), sqB SPlace.dec (blkS x 257), sqB dI (blkS x 2177), intA (aget x.tm 6)), (intA (aget x.tm 12), intA (cellS x 0 1), sqB SRoad.dec (blkS x 322), sqB dI (blkS x 2242), sqB dI (blkS x 2625)))) (fun p => by kernel_rfl) ((u18_2, u18_4, u18_6, u18_9), (u18_1, u18_3, u18_5, u18_7, u18_8))
noncomputable def Codes_Made_l30_step (u30_1 : Sq Int) (u30_3 : Sq SPlace) (_u30_5 u30_7 : Sq Int) (u30_9 u30_2 : Int) (u30_4 : Sq SRoad) (u30_6 : Sq Int) (u30_8 : Int) : DT (LR (Int × (Sq SRoad) × (Sq Int) × Int) (Int × (Sq SRoad) × (Sq Int)) (Unit)) :=
 .ite (decide (u30_8 < ((u30_3.n : Nat) : Int))) (
 .bind (Codes_Next (SCodes.mk u30_1 u30_2) u30_9) fun z7 =>
 .bind (Codes_Road (SCodes.mk u30_1 z7.2) u30_8 z7.1) fun z8 =>
 .ite (decide ((0 : Int) ≤ u30_8 ∧ u30_8 < ((u30_7.n : Nat) : Int))) (
 .bind (Codes_One (SCodes.mk u30_1 z8.2) (2 : Int)) fun z9 =>
 .ite z9.1 (
 .ite (decide ((u30_4.n + 1) * 72 ≤ 140737488355328 ∧ (u30_4.n + 1) ≤ 1099511627776)) (
 .ite (decide ((u30_6.n + 1) * 8 ≤ 140737488355328 ∧ (u30_6.n + 1) ≤ 1099511627776)) (
 .leaf (.next (z9.2, (Sq.mk (u30_4.n + 1) (fun k8 => (SRoad.mk (cond (Nat.blt k8 u30_4.n) (u30_4.f k8).From z8.1.To) (cond (Nat.blt k8 u30_4.n) (u30_4.f k8).To z8.1.From) (cond (Nat.blt k8 u30_4.n) (u30_4.f k8).Length z8.1.Length) (cond (Nat.blt k8 u30_4.n) (u30_4.f k8).Area z8.1.Area) (cond (Nat.blt k8 u30_4.n) (u30_4.f k8).Walk z8.1.Walk) (cond (Nat.blt k8 u30_4.n) (u30_4.f k8).Closed z8.1.Closed) (SSpan.mk (cond (Nat.blt k8 u30_4.n) (u30_4.f k8).Rest.Low z8.1.Rest.Low) (cond (Nat.blt k8 u30_4.n) (u30_4.f k8).Rest.High z8.1.Rest.High)) (SSpan.mk (cond (Nat.blt k8 u30_4.n) (u30_4.f k8).Lift.Low z8.1.Lift.Low) (cond (Nat.blt k8 u30_4.n) (u30_4.f k8).Lift.High z8.1.Lift.High))))), (Sq.mk (u30_6.n + 1) (fun k9 => (cond (Nat.blt k9 u30_6.n) (u30_6.f k9) (wr (0 - (wr (0 - (u30_7.f (Int.toNat u30_8))))))))), (wr (u30_8 + (1 : Int)))))) (
 .fail)) (
 .fail)) (
 .ite (decide ((u30_4.n + 1) * 72 ≤ 140737488355328 ∧ (u30_4.n + 1) ≤ 1099511627776)) (
 .ite (decide ((u30_6.n + 1) * 8 ≤ 140737488355328 ∧ (u30_6.n + 1) ≤ 1099511627776)) (
 .leaf (.next (z9.2, (Sq.mk (u30_4.n + 1) (fun k10 => (SRoad.mk (cond (Nat.blt k10 u30_4.n) (u30_4.f k10).From z8.1.From) (cond (Nat.blt k10 u30_4.n) (u30_4.f k10).To z8.1.To) (cond (Nat.blt k10 u30_4.n) (u30_4.f k10).Length z8.1.Length) (cond (Nat.blt k10 u30_4.n) (u30_4.f k10).Area z8.1.Area) (cond (Nat.blt k10 u30_4.n) (u30_4.f k10).Walk z8.1.Walk) (cond (Nat.blt k10 u30_4.n) (u30_4.f k10).Closed z8.1.Closed) (SSpan.mk (cond (Nat.blt k10 u30_4.n) (u30_4.f k10).Rest.Low z8.1.Rest.Low) (cond (Nat.blt k10 u30_4.n) (u30_4.f k10).Rest.High z8.1.Rest.High)) (SSpan.mk (cond (Nat.blt k10 u30_4.n) (u30_4.f k10).Lift.Low z8.1.Lift.Low) (cond (Nat.blt k10 u30_4.n) (u30_4.f k10).Lift.High z8.1.Lift.High))))), (Sq.mk (u30_6.n + 1) (fun k11 => (cond (Nat.blt k11 u30_6.n) (u30_6.f k11) (wr (0 - (u30_7.f (Int.toNat u30_8))))))), (wr (u30_8 + (1 : Int)))))) (
 .fail)) (
 .fail))) (
 .fail)) (
 .leaf (.l (u30_2, u30_4, u30_6)))
noncomputable def Codes_Made_l30_m : LpM := ⟨(Sq Int) × (Sq SPlace) × (Sq Int) × (Sq Int) × Int, Int × (Sq SRoad) × (Sq Int) × Int, Int × (Sq SRoad) × (Sq Int), Unit, fun p => ⟨[(0, .ptr 0 0), (2, .ptr 1 0), (3, .ptr 65 0), (4, .ptr 129 0), (5, .ptr 449 0), (6, .int .i64 p.1.2.2.2.2), (8, .int .i64 ((p.1.2.1.n : Nat) : Int)), (9, .ptr 2305 0), (11, .own 2625 0), (16, .int .i64 p.2.2.2.2)], [(0, .var [sqA 1 (eI .u8) p.1.1, .int .i64 p.2.1]), (1, .var [.own 2 0, .own 3 0, .own 4 0, .own 5 0]), (2, .nilrow 0), (3, .nilrow 0), (4, .nilrow 0), (5, .nilrow 0), (65, .var [.own 66 0, .own 67 0]), (66, .nilrow 0), (67, .nilrow 0), (129, .var [.own 130 0, .own 131 0]), (130, .nilrow 0), (131, .nilrow 0), (257, rowA 0 2 64 SPlace.enc p.1.2.1), (322, rowA 0 10 71 SRoad.enc p.2.2.1), (387, .nilrow 0), (388, .nilrow 0), (449, .var [.own 257 0, .own 322 0, .own 387 0, .own 388 0]), (2177, rowA 0 1 3 (eI .i64) p.1.2.2.1), (2242, rowA 0 1 3 (eI .i64) p.2.2.2.1), (2305, .var [.own 2177 0, .own 2242 0]), (2625, rowA 0 1 3 (eI .i64) p.1.2.2.2.1)], 3201⟩, fun f v => Codes_Made_l30_step f.1 f.2.1 f.2.2.1 f.2.2.2.1 f.2.2.2.2 v.1 v.2.1 v.2.2.1 v.2.2.2, true, (.exit 6), (fun x a => ⟨[(0, .ptr 0 0), (2, .ptr 1 0), (3, .ptr 65 0), (4, .ptr 129 0), (5, .ptr 449 0), (9, .ptr 2305 0)], [(0, .var [cellS x 0 0, .int .i64 a.1]), (1, .var [.own 2 0, .own 3 0, .own 4 0, .own 5 0]), (2, .nilrow 0), (3, .nilrow 0), (4, .nilrow 0), (5, .nilrow 0), (65, .var [.own 66 0, .own 67 0]), (66, .nilrow 0), (67, .nilrow 0), (129, .var [.own 130 0, .own 131 0]), (130, .nilrow 0), (131, .nilrow 0), (257, blkS x 257), (322, rowA 0 10 71 SRoad.enc a.2.1), (387, .nilrow 0), (388, .nilrow 0), (449, .var [.own 257 0, .own 322 0, .own 387 0, .own 388 0]), (2177, blkS x 2177), (2242, rowA 0 1 3 (eI .i64) a.2.2), (2305, .var [.own 2177 0, .own 2242 0]), (2625, blkS x 2625)], 3201⟩), .ret, (fun _ _ => ⟨[], [], 0⟩), c1, c1k⟩
noncomputable def Codes_Made_l30 (u30_1 : Sq Int) (u30_3 : Sq SPlace) (u30_5 u30_7 : Sq Int) (u30_9 u30_2 : Int) (u30_4 : Sq SRoad) (u30_6 : Sq Int) (u30_8 : Int) : Option ((Int × (Sq SRoad) × (Sq Int)) ⊕ (Unit)) := Codes_Made_l30_m.val ((u30_1, u30_3, u30_5, u30_7, u30_9), (u30_2, u30_4, u30_6, u30_8))
theorem Codes_Made_l30_eq (u30_1 : Sq Int) (u30_3 : Sq SPlace) (u30_5 u30_7 : Sq Int) (u30_9 u30_2 : Int) (u30_4 : Sq SRoad) (u30_6 : Sq Int) (u30_8 : Int) : Codes_Made_l30 u30_1 u30_3 u30_5 u30_7 u30_9 u30_2 u30_4 u30_6 u30_8 = fixO (fun v : Int × (Sq SRoad) × (Sq Int) × Int => Codes_Made_l30_step u30_1 u30_3 u30_5 u30_7 u30_9 v.1 v.2.1 v.2.2.1 v.2.2.2) (u30_2, u30_4, u30_6, u30_8) := Codes_Made_l30_m.val_eq (fun x => ((sqD dI (cellS x 0 0), sqB SPlace.dec (blkS x 257), sqB dI (blkS x 2177), sqB dI (blkS x 2625), intA (aget x.tm 6)), (intA (cellS x 0 1), sqB SRoad.dec (blkS x 322), sqB dI (blkS x 2242), intA (aget x.tm 16)))) (fun p => by kernel_rfl) ((u30_1, u30_3, u30_5, u30_7, u30_9), (u30_2, u30_4, u30_6, u30_8))
noncomputable def Codes_Made_t (c : SCodes) : DT (SAir × SSetting × SState × Int) :=
 .bind (Codes_One c (3 : Int)) fun z10 =>
 .ite z10.1 (
 .bind (Codes_Next (SCodes.mk c.l_ z10.2) (5 : Int)) fun z11 =>
 .sum (Codes_Made_l6 c.l_ (2 : Int) z11.1 z11.2 (Sq.mk 2 (fun k12 => (SPlace.mk (cond (Nat.blt k12 1) (0 : Int) (10 : Int)) (cond (Nat.blt k12 1) true true))))) (fun y0 =>
 .ite (decide ((0 : Int) ≤ ((y0.2.n : Nat) : Int) ∧ ((y0.2.n : Nat) : Int) ≤ ((y0.2.n : Nat) : Int) ∧ ((y0.2.n : Nat) : Int) * ((8 : Nat) : Int) ≤ 140737488355328 ∧ ((y0.2.n : Nat) : Int) ≤ 1099511627776)) (
 .sum (Codes_Made_l12 c.l_ y0.2 (2 : Int) y0.1 (Sq.mk (Int.toNat ((y0.2.n : Nat) : Int)) (fun _ => (0 : Int))) (2 : Int)) (fun y1 =>
 .ite (decide ((0 : Int) ≤ ((y0.2.n : Nat) : Int) ∧ ((y0.2.n : Nat) : Int) ≤ ((y0.2.n : Nat) : Int) ∧ ((y0.2.n : Nat) : Int) * ((8 : Nat) : Int) ≤ 140737488355328 ∧ ((y0.2.n : Nat) : Int) ≤ 1099511627776)) (
 .ite (decide (((y0.2.n : Nat) : Int) > (1 : Int))) (
 .bind (Codes_Next (SCodes.mk c.l_ y1.1) (6 : Int)) fun z12 =>
 .sum (Codes_Made_l18 c.l_ y0.2 y1.2 (2 : Int) z12.1 z12.2 (Sq.mk 0 (fun _ => (SRoad.mk (0 : Int) (0 : Int) (0 : Int) (0 : Int) false false (SSpan.mk (0 : Int) (0 : Int)) (SSpan.mk (0 : Int) (0 : Int))))) (Sq.mk 0 (fun _ => (0 : Int))) (Sq.mk (Int.toNat ((y0.2.n : Nat) : Int)) (fun _ => (0 : Int)))) (fun y2 =>
 .sum (Codes_Made_l30 c.l_ y0.2 y1.2 y2.2.2.2 (2 : Int) y2.1 y2.2.1 y2.2.2.1 (2 : Int)) (fun y3 =>
 .bind (Codes_equipped (SCodes.mk c.l_ y3.1) (SAir.mk (SMine.mk y0.2 y3.2.1) (Sq.mk 0 (fun _ => (SFan.mk (0 : Int) false false (Sq.mk 0 (fun _ => (SPoint.mk (0 : Int) (0 : Int))))))) (Sq.mk 0 (fun _ => (SDoor.mk (0 : Int) (0 : Int) (Sq.mk 0 (fun _ => (0 : Int)))))))) fun z13 =>
 .bind (Codes_fit (SCodes.mk c.l_ z13.2.1) (SAir.mk (SMine.mk y0.2 y3.2.1) z13.2.2.1 z13.2.2.2) z13.1 (SState.mk y1.2 y3.2.2)) fun z14 =>
 .bind (Codes_doubts (SCodes.mk c.l_ z14.1) z13.1) fun z15 =>
 .leaf ((SAir.mk (SMine.mk y0.2 z14.2) z13.2.2.1 z13.2.2.2), z15.1, (SState.mk y1.2 y3.2.2), z15.2)) (fun _ => .fail)) (fun _ => .fail)) (
 .sum (Codes_Made_l30 c.l_ y0.2 y1.2 (Sq.mk (Int.toNat ((y0.2.n : Nat) : Int)) (fun _ => (0 : Int))) (2 : Int) y1.1 (Sq.mk 0 (fun _ => (SRoad.mk (0 : Int) (0 : Int) (0 : Int) (0 : Int) false false (SSpan.mk (0 : Int) (0 : Int)) (SSpan.mk (0 : Int) (0 : Int))))) (Sq.mk 0 (fun _ => (0 : Int))) (2 : Int)) (fun y4 =>
 .bind (Codes_equipped (SCodes.mk c.l_ y4.1) (SAir.mk (SMine.mk y0.2 y4.2.1) (Sq.mk 0 (fun _ => (SFan.mk (0 : Int) false false (Sq.mk 0 (fun _ => (SPoint.mk (0 : Int) (0 : Int))))))) (Sq.mk 0 (fun _ => (SDoor.mk (0 : Int) (0 : Int) (Sq.mk 0 (fun _ => (0 : Int)))))))) fun z16 =>
 .bind (Codes_fit (SCodes.mk c.l_ z16.2.1) (SAir.mk (SMine.mk y0.2 y4.2.1) z16.2.2.1 z16.2.2.2) z16.1 (SState.mk y1.2 y4.2.2)) fun z17 =>
 .bind (Codes_doubts (SCodes.mk c.l_ z17.1) z16.1) fun z18 =>
 .leaf ((SAir.mk (SMine.mk y0.2 z17.2) z16.2.2.1 z16.2.2.2), z18.1, (SState.mk y1.2 y4.2.2), z18.2)) (fun _ => .fail))) (
 .fail)) (fun _ => .fail)) (
 .fail)) (fun _ => .fail)) (
 .bind (Codes_Next (SCodes.mk c.l_ z10.2) (5 : Int)) fun z19 =>
 .sum (Codes_Made_l6 c.l_ (1 : Int) z19.1 z19.2 (Sq.mk 1 (fun _ => (SPlace.mk (0 : Int) true)))) (fun y5 =>
 .ite (decide ((0 : Int) ≤ ((y5.2.n : Nat) : Int) ∧ ((y5.2.n : Nat) : Int) ≤ ((y5.2.n : Nat) : Int) ∧ ((y5.2.n : Nat) : Int) * ((8 : Nat) : Int) ≤ 140737488355328 ∧ ((y5.2.n : Nat) : Int) ≤ 1099511627776)) (
 .sum (Codes_Made_l12 c.l_ y5.2 (1 : Int) y5.1 (Sq.mk (Int.toNat ((y5.2.n : Nat) : Int)) (fun _ => (0 : Int))) (1 : Int)) (fun y6 =>
 .ite (decide ((0 : Int) ≤ ((y5.2.n : Nat) : Int) ∧ ((y5.2.n : Nat) : Int) ≤ ((y5.2.n : Nat) : Int) ∧ ((y5.2.n : Nat) : Int) * ((8 : Nat) : Int) ≤ 140737488355328 ∧ ((y5.2.n : Nat) : Int) ≤ 1099511627776)) (
 .ite (decide (((y5.2.n : Nat) : Int) > (1 : Int))) (
 .bind (Codes_Next (SCodes.mk c.l_ y6.1) (6 : Int)) fun z20 =>
 .sum (Codes_Made_l18 c.l_ y5.2 y6.2 (1 : Int) z20.1 z20.2 (Sq.mk 0 (fun _ => (SRoad.mk (0 : Int) (0 : Int) (0 : Int) (0 : Int) false false (SSpan.mk (0 : Int) (0 : Int)) (SSpan.mk (0 : Int) (0 : Int))))) (Sq.mk 0 (fun _ => (0 : Int))) (Sq.mk (Int.toNat ((y5.2.n : Nat) : Int)) (fun _ => (0 : Int)))) (fun y7 =>
 .sum (Codes_Made_l30 c.l_ y5.2 y6.2 y7.2.2.2 (1 : Int) y7.1 y7.2.1 y7.2.2.1 (1 : Int)) (fun y8 =>
 .bind (Codes_equipped (SCodes.mk c.l_ y8.1) (SAir.mk (SMine.mk y5.2 y8.2.1) (Sq.mk 0 (fun _ => (SFan.mk (0 : Int) false false (Sq.mk 0 (fun _ => (SPoint.mk (0 : Int) (0 : Int))))))) (Sq.mk 0 (fun _ => (SDoor.mk (0 : Int) (0 : Int) (Sq.mk 0 (fun _ => (0 : Int)))))))) fun z21 =>
 .bind (Codes_fit (SCodes.mk c.l_ z21.2.1) (SAir.mk (SMine.mk y5.2 y8.2.1) z21.2.2.1 z21.2.2.2) z21.1 (SState.mk y6.2 y8.2.2)) fun z22 =>
 .bind (Codes_doubts (SCodes.mk c.l_ z22.1) z21.1) fun z23 =>
 .leaf ((SAir.mk (SMine.mk y5.2 z22.2) z21.2.2.1 z21.2.2.2), z23.1, (SState.mk y6.2 y8.2.2), z23.2)) (fun _ => .fail)) (fun _ => .fail)) (
 .sum (Codes_Made_l30 c.l_ y5.2 y6.2 (Sq.mk (Int.toNat ((y5.2.n : Nat) : Int)) (fun _ => (0 : Int))) (1 : Int) y6.1 (Sq.mk 0 (fun _ => (SRoad.mk (0 : Int) (0 : Int) (0 : Int) (0 : Int) false false (SSpan.mk (0 : Int) (0 : Int)) (SSpan.mk (0 : Int) (0 : Int))))) (Sq.mk 0 (fun _ => (0 : Int))) (1 : Int)) (fun y9 =>
 .bind (Codes_equipped (SCodes.mk c.l_ y9.1) (SAir.mk (SMine.mk y5.2 y9.2.1) (Sq.mk 0 (fun _ => (SFan.mk (0 : Int) false false (Sq.mk 0 (fun _ => (SPoint.mk (0 : Int) (0 : Int))))))) (Sq.mk 0 (fun _ => (SDoor.mk (0 : Int) (0 : Int) (Sq.mk 0 (fun _ => (0 : Int)))))))) fun z24 =>
 .bind (Codes_fit (SCodes.mk c.l_ z24.2.1) (SAir.mk (SMine.mk y5.2 y9.2.1) z24.2.2.1 z24.2.2.2) z24.1 (SState.mk y6.2 y9.2.2)) fun z25 =>
 .bind (Codes_doubts (SCodes.mk c.l_ z25.1) z24.1) fun z26 =>
 .leaf ((SAir.mk (SMine.mk y5.2 z25.2) z24.2.2.1 z24.2.2.2), z26.1, (SState.mk y6.2 y9.2.2), z26.2)) (fun _ => .fail))) (
 .fail)) (fun _ => .fail)) (
 .fail)) (fun _ => .fail))
noncomputable def Codes_Made_m : FnM := nfM (SCodes) (SAir × SSetting × SState × Int) (fun p => ([.ptr 0 0], [.var (SCodes.enc p)])) (fun p => Codes_Made_t p) (fun r => .tup [.agg [.own 1 0, .own 2 0, .own 3 0, .own 4 0], .agg [.own 5 0, .own 6 0], .agg (SState.enc r.2.2.1)]) (fun ins r => [.var [cellB ins 0 0, .int .i64 r.2.2.2], rowA 0 2 64 SPlace.enc r.1.Mine.Places, rowA 0 10 71 SRoad.enc r.1.Mine.Roads, rowA 0 4 99 SFan.enc r.1.Fans, rowA 0 3 61 SDoor.enc r.1.Doors, rowA 0 1 3 (eI .i64) r.2.1.Fans, rowA 0 1 3 (eI .i64) r.2.1.Doors])
noncomputable def Codes_Made_env : Env := envM [(22, Codes_One_m.c), (23, Codes_Next_m.c), (24, Codes_Range_m.c), (25, Codes_Road_m.c), (26, Codes_equipped_m.c), (27, Codes_fit_m.c), (28, Codes_doubts_m.c)] [(6, [0, 2, 3, 4, 5, 6, 7], [0, 2, 3, 4, 5, 6]), (12, [0, 2, 3, 4, 5, 6, 8, 9, 10], [0, 2, 3, 4, 5, 6, 8, 9]), (18, [0, 2, 3, 4, 5, 6, 8, 9, 11, 12], [0, 2, 3, 4, 5, 6, 8, 9, 11]), (30, [0, 2, 3, 4, 5, 6, 8, 9, 11, 16], [0, 2, 3, 4, 5, 9]), (3000028, [1], [])] [(6, Codes_Made_l6_m.c), (12, Codes_Made_l12_m.c), (18, Codes_Made_l18_m.c), (30, Codes_Made_l30_m.c)] [(1000018, [.asrow 2242 3 1 (fun _ => (eI .i64) (0 : Int)), .asrow 322 71 10 (fun _ => SRoad.enc (SRoad.mk (0 : Int) (0 : Int) (0 : Int) (0 : Int) false false (SSpan.mk (0 : Int) (0 : Int)) (SSpan.mk (0 : Int) (0 : Int))))]), (36, [.asrow 387 99 4 (fun _ => SFan.enc (SFan.mk (0 : Int) false false (Sq.mk 0 (fun _ => (SPoint.mk (0 : Int) (0 : Int)))))), .asrow 388 61 3 (fun _ => SDoor.enc (SDoor.mk (0 : Int) (0 : Int) (Sq.mk 0 (fun _ => (0 : Int)))))]), (37, [.freeze 3265, .freeze 3266, .freeze 2177, .freeze 2242]), (1000030, [.asrow 2242 3 1 (fun _ => (eI .i64) (0 : Int)), .asrow 322 71 10 (fun _ => SRoad.enc (SRoad.mk (0 : Int) (0 : Int) (0 : Int) (0 : Int) false false (SSpan.mk (0 : Int) (0 : Int)) (SSpan.mk (0 : Int) (0 : Int))))])] [(6, [0, 1, 2, 3, 4, 5, 65, 66, 67, 129, 130, 131, 257, 322, 387, 388, 449]), (12, [0, 1, 2, 3, 4, 5, 65, 66, 67, 129, 130, 131, 257, 322, 387, 388, 449, 2177, 2242, 2305]), (18, [0, 1, 2, 3, 4, 5, 65, 66, 67, 129, 130, 131, 257, 322, 387, 388, 449, 2177, 2242, 2305, 2625]), (30, [0, 1, 2, 3, 4, 5, 65, 66, 67, 129, 130, 131, 257, 322, 387, 388, 449, 2177, 2242, 2305, 2625])] 1
noncomputable def Codes_Made_e : Env := { Codes_Made_env with nt := 189 }
theorem Codes_Made_l6_tells : LoopTells Codes_Made_e (loopOf 6 Tryz.f9) Codes_Made_l6_m.c := Codes_Made_l6_m.tells 1793 (fun _ => by kernel_rfl) (fun _ _ _ _ => by kernel_rfl) (fun _ _ _ _ => by kernel_rfl) fun R f v N K => by kernel_rfl
theorem Codes_Made_l12_tells : LoopTells Codes_Made_e (loopOf 12 Tryz.f9) Codes_Made_l12_m.c := Codes_Made_l12_m.tells 2561 (fun _ => by kernel_rfl) (fun _ _ _ _ => by kernel_rfl) (fun _ _ _ _ => by kernel_rfl) fun R f v N K => by kernel_rfl
theorem Codes_Made_l18_tells : LoopTells Codes_Made_e (loopOf 18 Tryz.f9) Codes_Made_l18_m.c := Codes_Made_l18_m.tells 3073 (fun _ => by kernel_rfl) (fun _ _ _ _ => by kernel_rfl) (fun _ _ _ _ => by kernel_rfl) fun R f v N K => by kernel_rfl
theorem Codes_Made_l30_tells : LoopTells Codes_Made_e (loopOf 30 Tryz.f9) Codes_Made_l30_m.c := Codes_Made_l30_m.tells 3201 (fun _ => by kernel_rfl) (fun _ _ _ _ => by kernel_rfl) (fun _ _ _ _ => by kernel_rfl) fun R f v N K => by kernel_rfl
theorem Codes_Made_tells : Tells Tryz.prog 9 Codes_Made_m.c := Codes_Made_m.tells Tryz.func9 (show ∀ p, arun Codes_Made_env Tryz.f9 (Codes_Made_m.enc p).1 (Codes_Made_m.enc p).2 = _ from fun p => by kernel_rfl) (loopsL [loopOf 6 Tryz.f9, loopOf 12 Tryz.f9, loopOf 18 Tryz.f9, loopOf 30 Tryz.f9] (by kernel_rfl) ⟨lpT (by kernel_rfl) Codes_Made_l6_tells, ⟨lpT (by kernel_rfl) Codes_Made_l12_tells, ⟨lpT (by kernel_rfl) Codes_Made_l18_tells, ⟨lpT (by kernel_rfl) Codes_Made_l30_tells, trivial⟩⟩⟩⟩) (.cons Codes_One_tells (.cons Codes_Next_tells (.cons Codes_Range_tells (.cons Codes_Road_tells (.cons Codes_equipped_tells (.cons Codes_fit_tells (.cons Codes_doubts_tells .nil)))))))
noncomputable def Codes_Made (c : SCodes) : Option (SAir × SSetting × SState × Int) := Codes_Made_m.val c
theorem Codes_Made_eq (c : SCodes) : Codes_Made c = (Codes_Made_t c).get := Codes_Made_m.val_eq (fun x => SCodes.dec (varL (dB x.2 0))) (fun p => by kernel_rfl) c

/-! (*minecontrol/minecontroldraw.Codes).Setting -/
noncomputable def Codes_Setting_l3_step (u3_0 : Sq Int) (_u3_2 : Sq SPlace) (_u3_3 : Sq SRoad) (u3_4 : Sq SFan) (_u3_5 : Sq SDoor) (u3_1 : Int) (u3_6 : Sq Int) (u3_7 : Int) : DT (LR (Int × (Sq Int) × Int) (Int × (Sq Int)) (Unit)) :=
 .ite (decide (u3_7 < ((u3_4.n : Nat) : Int))) (
 .bind (Codes_Next (SCodes.mk u3_0 u3_1) (4 : Int)) fun z0 =>
 .ite (decide ((u3_6.n + 1) * 8 ≤ 140737488355328 ∧ (u3_6.n + 1) ≤ 1099511627776)) (
 .leaf (.next (z0.2, (Sq.mk (u3_6.n + 1) (fun k0 => (cond (Nat.blt k0 u3_6.n) (u3_6.f k0) (wr (z0.1 - (1 : Int)))))), (wr (u3_7 + (1 : Int)))))) (
 .fail)) (
 .leaf (.l (u3_1, u3_6)))
noncomputable def Codes_Setting_l3_m : LpM := ⟨(Sq Int) × (Sq SPlace) × (Sq SRoad) × (Sq SFan) × (Sq SDoor), Int × (Sq Int) × Int, Int × (Sq Int), Unit, fun p => ⟨[(0, .ptr 0 0), (3, .ptr 1 0), (4, .ptr 65 0), (5, .ptr 129 0), (6, .int .i64 p.2.2.2)], [(0, .var [sqA 1 (eI .u8) p.1.1, .int .i64 p.2.1]), (1, .var [sqA 2 SPlace.enc p.1.2.1, sqA 10 SRoad.enc p.1.2.2.1, sqA 4 SFan.enc p.1.2.2.2.1, sqA 3 SDoor.enc p.1.2.2.2.2]), (65, .var [.own 66 0, .own 67 0]), (66, .nilrow 0), (67, .nilrow 0), (129, .var [.own 130 0, .own 131 0]), (130, rowA 0 1 3 (eI .i64) p.2.2.1), (131, .nilrow 0)], 257⟩, fun f v => Codes_Setting_l3_step f.1 f.2.1 f.2.2.1 f.2.2.2.1 f.2.2.2.2 v.1 v.2.1 v.2.2, true, (.exit 0), (fun x a => ⟨[(0, .ptr 0 0), (3, .ptr 1 0), (4, .ptr 65 0), (5, .ptr 129 0)], [(0, .var [cellS x 0 0, .int .i64 a.1]), (1, blkS x 1), (65, .var [.own 66 0, .own 67 0]), (66, .nilrow 0), (67, .nilrow 0), (129, .var [.own 130 0, .own 131 0]), (130, rowA 0 1 3 (eI .i64) a.2), (131, .nilrow 0)], 257⟩), .ret, (fun _ _ => ⟨[], [], 0⟩), c1, c1k⟩
noncomputable def Codes_Setting_l3 (u3_0 : Sq Int) (u3_2 : Sq SPlace) (u3_3 : Sq SRoad) (u3_4 : Sq SFan) (u3_5 : Sq SDoor) (u3_1 : Int) (u3_6 : Sq Int) (u3_7 : Int) : Option ((Int × (Sq Int)) ⊕ (Unit)) := Codes_Setting_l3_m.val ((u3_0, u3_2, u3_3, u3_4, u3_5), (u3_1, u3_6, u3_7))
theorem Codes_Setting_l3_eq (u3_0 : Sq Int) (u3_2 : Sq SPlace) (u3_3 : Sq SRoad) (u3_4 : Sq SFan) (u3_5 : Sq SDoor) (u3_1 : Int) (u3_6 : Sq Int) (u3_7 : Int) : Codes_Setting_l3 u3_0 u3_2 u3_3 u3_4 u3_5 u3_1 u3_6 u3_7 = fixO (fun v : Int × (Sq Int) × Int => Codes_Setting_l3_step u3_0 u3_2 u3_3 u3_4 u3_5 v.1 v.2.1 v.2.2) (u3_1, u3_6, u3_7) := Codes_Setting_l3_m.val_eq (fun x => ((sqD dI (cellS x 0 0), sqD SPlace.dec (cellS x 1 0), sqD SRoad.dec (cellS x 1 1), sqD SFan.dec (cellS x 1 2), sqD SDoor.dec (cellS x 1 3)), (intA (cellS x 0 1), sqB dI (blkS x 130), intA (aget x.tm 6)))) (fun p => by kernel_rfl) ((u3_0, u3_2, u3_3, u3_4, u3_5), (u3_1, u3_6, u3_7))
noncomputable def Codes_Setting_l7_step (u7_0 : Sq Int) (_u7_2 : Sq SPlace) (_u7_3 : Sq SRoad) (_u7_4 : Sq SFan) (u7_5 : Sq SDoor) (_u7_6 : Sq Int) (u7_1 : Int) (u7_7 : Sq Int) (u7_8 : Int) : DT (LR (Int × (Sq Int) × Int) (Int × (Sq Int)) (Unit)) :=
 .ite (decide (u7_8 < ((u7_5.n : Nat) : Int))) (
 .ite (decide ((0 : Int) ≤ u7_8 ∧ u7_8 < ((u7_5.n : Nat) : Int))) (
 .bind (Codes_Next (SCodes.mk u7_0 u7_1) (wr ((((u7_5.f (Int.toNat u7_8)).Rests.n : Nat) : Int) + (1 : Int)))) fun z1 =>
 .ite (decide ((u7_7.n + 1) * 8 ≤ 140737488355328 ∧ (u7_7.n + 1) ≤ 1099511627776)) (
 .leaf (.next (z1.2, (Sq.mk (u7_7.n + 1) (fun k1 => (cond (Nat.blt k1 u7_7.n) (u7_7.f k1) (wr (z1.1 - (1 : Int)))))), (wr (u7_8 + (1 : Int)))))) (
 .fail)) (
 .fail)) (
 .leaf (.l (u7_1, u7_7)))
noncomputable def Codes_Setting_l7_m : LpM := ⟨(Sq Int) × (Sq SPlace) × (Sq SRoad) × (Sq SFan) × (Sq SDoor) × (Sq Int), Int × (Sq Int) × Int, Int × (Sq Int), Unit, fun p => ⟨[(0, .ptr 0 0), (3, .ptr 1 0), (4, .ptr 65 0), (5, .ptr 129 0), (7, .int .i64 p.2.2.2)], [(0, .var [sqA 1 (eI .u8) p.1.1, .int .i64 p.2.1]), (1, .var [sqA 2 SPlace.enc p.1.2.1, sqA 10 SRoad.enc p.1.2.2.1, sqA 4 SFan.enc p.1.2.2.2.1, sqA 3 SDoor.enc p.1.2.2.2.2.1]), (65, .var [.own 66 0, .own 67 0]), (66, .nilrow 0), (67, .nilrow 0), (129, .var [.own 130 0, .own 131 0]), (130, rowA 0 1 3 (eI .i64) p.1.2.2.2.2.2), (131, rowA 0 1 3 (eI .i64) p.2.2.1)], 321⟩, fun f v => Codes_Setting_l7_step f.1 f.2.1 f.2.2.1 f.2.2.2.1 f.2.2.2.2.1 f.2.2.2.2.2 v.1 v.2.1 v.2.2, true, (.exit 2), (fun x a => ⟨[(4, .ptr 65 0), (5, .ptr 129 0)], [(0, .var [cellS x 0 0, .int .i64 a.1]), (1, blkS x 1), (65, .var [.own 66 0, .own 67 0]), (66, .nilrow 0), (67, .nilrow 0), (129, .var [.own 130 0, .own 131 0]), (130, blkS x 130), (131, rowA 0 1 3 (eI .i64) a.2)], 321⟩), .ret, (fun _ _ => ⟨[], [], 0⟩), c1, c1k⟩
noncomputable def Codes_Setting_l7 (u7_0 : Sq Int) (u7_2 : Sq SPlace) (u7_3 : Sq SRoad) (u7_4 : Sq SFan) (u7_5 : Sq SDoor) (u7_6 : Sq Int) (u7_1 : Int) (u7_7 : Sq Int) (u7_8 : Int) : Option ((Int × (Sq Int)) ⊕ (Unit)) := Codes_Setting_l7_m.val ((u7_0, u7_2, u7_3, u7_4, u7_5, u7_6), (u7_1, u7_7, u7_8))
theorem Codes_Setting_l7_eq (u7_0 : Sq Int) (u7_2 : Sq SPlace) (u7_3 : Sq SRoad) (u7_4 : Sq SFan) (u7_5 : Sq SDoor) (u7_6 : Sq Int) (u7_1 : Int) (u7_7 : Sq Int) (u7_8 : Int) : Codes_Setting_l7 u7_0 u7_2 u7_3 u7_4 u7_5 u7_6 u7_1 u7_7 u7_8 = fixO (fun v : Int × (Sq Int) × Int => Codes_Setting_l7_step u7_0 u7_2 u7_3 u7_4 u7_5 u7_6 v.1 v.2.1 v.2.2) (u7_1, u7_7, u7_8) := Codes_Setting_l7_m.val_eq (fun x => ((sqD dI (cellS x 0 0), sqD SPlace.dec (cellS x 1 0), sqD SRoad.dec (cellS x 1 1), sqD SFan.dec (cellS x 1 2), sqD SDoor.dec (cellS x 1 3), sqB dI (blkS x 130)), (intA (cellS x 0 1), sqB dI (blkS x 131), intA (aget x.tm 7)))) (fun p => by kernel_rfl) ((u7_0, u7_2, u7_3, u7_4, u7_5, u7_6), (u7_1, u7_7, u7_8))
noncomputable def Codes_Setting_t (c : SCodes) (a : SAir) : DT (SSetting × Int) :=
 .sum (Codes_Setting_l3 c.l_ a.Mine.Places a.Mine.Roads a.Fans a.Doors c.at_ (Sq.mk 0 (fun _ => (0 : Int))) (0 : Int)) (fun y0 =>
 .sum (Codes_Setting_l7 c.l_ a.Mine.Places a.Mine.Roads a.Fans a.Doors y0.2 y0.1 (Sq.mk 0 (fun _ => (0 : Int))) (0 : Int)) (fun y1 =>
 .leaf ((SSetting.mk y0.2 y1.2), y1.1)) (fun _ => .fail)) (fun _ => .fail)
noncomputable def Codes_Setting_m : FnM := nfM (SCodes × SAir) (SSetting × Int) (fun p => ([.ptr 0 0, .agg (SAir.enc p.2)], [.var (SCodes.enc p.1)])) (fun p => Codes_Setting_t p.1 p.2) (fun _ => .agg [.own 1 0, .own 2 0]) (fun ins r => [.var [cellB ins 0 0, .int .i64 r.2], rowA 0 1 3 (eI .i64) r.1.Fans, rowA 0 1 3 (eI .i64) r.1.Doors])
noncomputable def Codes_Setting_env : Env := envM [(23, Codes_Next_m.c)] [(3, [0, 3, 4, 5, 6], [0, 3, 4, 5]), (7, [0, 3, 4, 5, 7], [4, 5])] [(3, Codes_Setting_l3_m.c), (7, Codes_Setting_l7_m.c)] [(1000003, [.asrow 130 3 1 (fun _ => (eI .i64) (0 : Int))]), (1000007, [.asrow 131 3 1 (fun _ => (eI .i64) (0 : Int))])] [(3, [0, 1, 65, 66, 67, 129, 130, 131]), (7, [0, 1, 65, 66, 67, 129, 130, 131])] 1
noncomputable def Codes_Setting_e : Env := { Codes_Setting_env with nt := 47 }
theorem Codes_Setting_l3_tells : LoopTells Codes_Setting_e (loopOf 3 Tryz.f11) Codes_Setting_l3_m.c := Codes_Setting_l3_m.tells 257 (fun _ => by kernel_rfl) (fun _ _ _ _ => by kernel_rfl) (fun _ _ _ _ => by kernel_rfl) fun R f v N K => by kernel_rfl
theorem Codes_Setting_l7_tells : LoopTells Codes_Setting_e (loopOf 7 Tryz.f11) Codes_Setting_l7_m.c := Codes_Setting_l7_m.tells 321 (fun _ => by kernel_rfl) (fun _ _ _ _ => by kernel_rfl) (fun _ _ _ _ => by kernel_rfl) fun R f v N K => by kernel_rfl
theorem Codes_Setting_tells : Tells Tryz.prog 11 Codes_Setting_m.c := Codes_Setting_m.tells Tryz.func11 (show ∀ p, arun Codes_Setting_env Tryz.f11 (Codes_Setting_m.enc p).1 (Codes_Setting_m.enc p).2 = _ from fun p => by kernel_rfl) (loopsL [loopOf 3 Tryz.f11, loopOf 7 Tryz.f11] (by kernel_rfl) ⟨lpT (by kernel_rfl) Codes_Setting_l3_tells, ⟨lpT (by kernel_rfl) Codes_Setting_l7_tells, trivial⟩⟩) (.cons Codes_Next_tells .nil)
noncomputable def Codes_Setting (c : SCodes) (a : SAir) : Option (SSetting × Int) := Codes_Setting_m.val (c, a)
theorem Codes_Setting_eq (c : SCodes) (a : SAir) : Codes_Setting c a = (Codes_Setting_t c a).get := Codes_Setting_m.val_eq (fun x => (SCodes.dec (varL (dB x.2 0)), SAir.dec (aggL (gd x.1 1)))) (fun p => by kernel_rfl) (c, a)

/-! minecontrol/minecontroldraw.Mod -/
noncomputable def Mod_t (k n : Int) : DT (Int) :=
 .ite (decide (n < (1 : Int))) (
 .leaf (0 : Int)) (
 .ite (n != 0) (
 .ite (decide ((Int.tmod k n) < (0 : Int))) (.leaf (wr ((Int.tmod k n) + n))) (.leaf (Int.tmod k n))) (
 .fail))
noncomputable def Mod_m : FnM := flM (Int × Int) (Int) (fun p => ([.int .i64 p.1, .int .i64 p.2], [])) (fun p => Mod_t p.1 p.2) (fun r => .int .i64 r) (fun _ => rfl)
noncomputable def Mod_env : Env := envM [] [] [] [] [] 0
theorem Mod_tells : Tells Tryz.prog 20 Mod_m.c := Mod_m.tells Tryz.func20 (show ∀ p, arun Mod_env Tryz.f20 (Mod_m.enc p).1 (Mod_m.enc p).2 = _ from fun p => by kernel_rfl) noLoops .nil
noncomputable def Mod (k n : Int) : Option (Int) := Mod_m.val (k, n)
theorem Mod_eq (k n : Int) : Mod k n = (Mod_t k n).get := Mod_m.val_eq (fun x => (intA (gd x.1 0), intA (gd x.1 1))) (fun p => by kernel_rfl) (k, n)

/-! minecontrol/minecontroldraw.New -/
noncomputable def New_t (l : Sq Int) : DT (SCodes) :=
 .ite (decide ((0 : Int) ≤ (if (300 : Int) < ((l.n : Nat) : Int) then (300 : Int) else ((l.n : Nat) : Int)) ∧ (if (300 : Int) < ((l.n : Nat) : Int) then (300 : Int) else ((l.n : Nat) : Int)) ≤ ((l.n : Nat) : Int))) (.leaf (SCodes.mk (Sq.mk (Int.toNat (if (300 : Int) < ((l.n : Nat) : Int) then (300 : Int) else ((l.n : Nat) : Int))) l.f) (0 : Int))) (.fail)
noncomputable def New_m : FnM := nfM ((Sq Int)) (SCodes) (fun p => ([sqA 1 (eI .u8) p], [])) (fun p => New_t p) (fun _ => .ptr 0 0) (fun _ r => [.var (SCodes.enc r)])
noncomputable def New_env : Env := envM [] [] [] [] [] 0
theorem New_tells : Tells Tryz.prog 8 New_m.c := New_m.tells Tryz.func8 (show ∀ p, arun New_env Tryz.f8 (New_m.enc p).1 (New_m.enc p).2 = _ from fun p => by kernel_rfl) noLoops .nil
noncomputable def New (l : Sq Int) : Option (SCodes) := New_m.val l
theorem New_eq (l : Sq Int) : New l = (New_t l).get := New_m.val_eq (fun x => sqD dI (gd x.1 0)) (fun p => by kernel_rfl) l

/-! slices.Min[[]int,int] -/
noncomputable def slices_Min_l5_step (u5_0 : Sq Int) (u5_1 u5_2 : Int) : DT (LR (Int × Int) (Int) (Unit)) :=
 .ite (decide (u5_2 < ((u5_0.n : Nat) : Int))) (
 .ite (decide ((0 : Int) ≤ u5_2 ∧ u5_2 < ((u5_0.n : Nat) : Int))) (
 .leaf (.next ((if (u5_0.f (Int.toNat u5_2)) < u5_1 then (u5_0.f (Int.toNat u5_2)) else u5_1), (wr (u5_2 + (1 : Int)))))) (
 .fail)) (
 .leaf (.l u5_1))
noncomputable def slices_Min_l5_m : LpM := ⟨(Sq Int), Int × Int, Int, Unit, fun p => ⟨[(0, sqA 1 (eI .i64) p.1), (3, .int .i64 p.2.1), (4, .int .i64 p.2.2)], [], 704⟩, fun f v => slices_Min_l5_step f v.1 v.2, true, (.exit 0), (fun _ a => ⟨[(3, .int .i64 a)], [], 704⟩), .ret, (fun _ _ => ⟨[], [], 0⟩), c1, c1k⟩
noncomputable def slices_Min_l5 (u5_0 : Sq Int) (u5_1 u5_2 : Int) : Option ((Int) ⊕ (Unit)) := slices_Min_l5_m.val (u5_0, (u5_1, u5_2))
theorem slices_Min_l5_eq (u5_0 : Sq Int) (u5_1 u5_2 : Int) : slices_Min_l5 u5_0 u5_1 u5_2 = fixO (fun v : Int × Int => slices_Min_l5_step u5_0 v.1 v.2) (u5_1, u5_2) := slices_Min_l5_m.val_eq (fun x => (sqD dI (aget x.tm 0), (intA (aget x.tm 3), intA (aget x.tm 4)))) (fun p => by kernel_rfl) (u5_0, (u5_1, u5_2))
noncomputable def slices_Min_t (x : Sq Int) : DT (Int) :=
 .ite (decide (((x.n : Nat) : Int) < (1 : Int))) (
 .fail) (
 .ite (decide ((0 : Int) ≤ (0 : Int) ∧ (0 : Int) < ((x.n : Nat) : Int))) (
 .sum (slices_Min_l5 x (x.f 0) (1 : Int)) (fun y0 =>
 .leaf y0) (fun _ => .fail)) (
 .fail))
noncomputable def slices_Min_m : FnM := flM ((Sq Int)) (Int) (fun p => ([sqA 1 (eI .i64) p], [])) (fun p => slices_Min_t p) (fun r => .int .i64 r) (fun _ => rfl)
noncomputable def slices_Min_env : Env := envM [] [(5, [0, 3, 4], [3])] [(5, slices_Min_l5_m.c)] [] [(5, [])] 0
noncomputable def slices_Min_e : Env := { slices_Min_env with nt := 25 }
theorem slices_Min_l5_tells : LoopTells slices_Min_e (loopOf 5 Tryz.f123) slices_Min_l5_m.c := slices_Min_l5_m.tells 704 (fun _ => by kernel_rfl) (fun _ _ _ _ => by kernel_rfl) (fun _ _ _ _ => by kernel_rfl) fun R f v N K => by kernel_rfl
theorem slices_Min_tells : Tells Tryz.prog 123 slices_Min_m.c := slices_Min_m.tells Tryz.func123 (show ∀ p, arun slices_Min_env Tryz.f123 (slices_Min_m.enc p).1 (slices_Min_m.enc p).2 = _ from fun p => by kernel_rfl) (loopsL [loopOf 5 Tryz.f123] (by kernel_rfl) ⟨lpT (by kernel_rfl) slices_Min_l5_tells, trivial⟩) .nil
noncomputable def slices_Min (x : Sq Int) : Option (Int) := slices_Min_m.val x
theorem slices_Min_eq (x : Sq Int) : slices_Min x = (slices_Min_t x).get := slices_Min_m.val_eq (fun x => sqD dI (gd x.1 0)) (fun p => by kernel_rfl) x

/-! slices.Max[[]int,int] -/
noncomputable def slices_Max_l5_step (u5_0 : Sq Int) (u5_1 u5_2 : Int) : DT (LR (Int × Int) (Int) (Unit)) :=
 .ite (decide (u5_2 < ((u5_0.n : Nat) : Int))) (
 .ite (decide ((0 : Int) ≤ u5_2 ∧ u5_2 < ((u5_0.n : Nat) : Int))) (
 .leaf (.next ((if u5_1 < (u5_0.f (Int.toNat u5_2)) then (u5_0.f (Int.toNat u5_2)) else u5_1), (wr (u5_2 + (1 : Int)))))) (
 .fail)) (
 .leaf (.l u5_1))
noncomputable def slices_Max_l5_m : LpM := ⟨(Sq Int), Int × Int, Int, Unit, fun p => ⟨[(0, sqA 1 (eI .i64) p.1), (3, .int .i64 p.2.1), (4, .int .i64 p.2.2)], [], 704⟩, fun f v => slices_Max_l5_step f v.1 v.2, true, (.exit 0), (fun _ a => ⟨[(3, .int .i64 a)], [], 704⟩), .ret, (fun _ _ => ⟨[], [], 0⟩), c1, c1k⟩
noncomputable def slices_Max_l5 (u5_0 : Sq Int) (u5_1 u5_2 : Int) : Option ((Int) ⊕ (Unit)) := slices_Max_l5_m.val (u5_0, (u5_1, u5_2))
theorem slices_Max_l5_eq (u5_0 : Sq Int) (u5_1 u5_2 : Int) : slices_Max_l5 u5_0 u5_1 u5_2 = fixO (fun v : Int × Int => slices_Max_l5_step u5_0 v.1 v.2) (u5_1, u5_2) := slices_Max_l5_m.val_eq (fun x => (sqD dI (aget x.tm 0), (intA (aget x.tm 3), intA (aget x.tm 4)))) (fun p => by kernel_rfl) (u5_0, (u5_1, u5_2))
noncomputable def slices_Max_t (x : Sq Int) : DT (Int) :=
 .ite (decide (((x.n : Nat) : Int) < (1 : Int))) (
 .fail) (
 .ite (decide ((0 : Int) ≤ (0 : Int) ∧ (0 : Int) < ((x.n : Nat) : Int))) (
 .sum (slices_Max_l5 x (x.f 0) (1 : Int)) (fun y0 =>
 .leaf y0) (fun _ => .fail)) (
 .fail))
noncomputable def slices_Max_m : FnM := flM ((Sq Int)) (Int) (fun p => ([sqA 1 (eI .i64) p], [])) (fun p => slices_Max_t p) (fun r => .int .i64 r) (fun _ => rfl)
noncomputable def slices_Max_env : Env := envM [] [(5, [0, 3, 4], [3])] [(5, slices_Max_l5_m.c)] [] [(5, [])] 0
noncomputable def slices_Max_e : Env := { slices_Max_env with nt := 25 }
theorem slices_Max_l5_tells : LoopTells slices_Max_e (loopOf 5 Tryz.f124) slices_Max_l5_m.c := slices_Max_l5_m.tells 704 (fun _ => by kernel_rfl) (fun _ _ _ _ => by kernel_rfl) (fun _ _ _ _ => by kernel_rfl) fun R f v N K => by kernel_rfl
theorem slices_Max_tells : Tells Tryz.prog 124 slices_Max_m.c := slices_Max_m.tells Tryz.func124 (show ∀ p, arun slices_Max_env Tryz.f124 (slices_Max_m.enc p).1 (slices_Max_m.enc p).2 = _ from fun p => by kernel_rfl) (loopsL [loopOf 5 Tryz.f124] (by kernel_rfl) ⟨lpT (by kernel_rfl) slices_Max_l5_tells, trivial⟩) .nil
noncomputable def slices_Max (x : Sq Int) : Option (Int) := slices_Max_m.val x
theorem slices_Max_eq (x : Sq Int) : slices_Max x = (slices_Max_t x).get := slices_Max_m.val_eq (fun x => sqD dI (gd x.1 0)) (fun p => by kernel_rfl) x
end Go.Proofs.YtnoeblpanfbpjaaGreat.Ab
