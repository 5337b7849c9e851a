/- Mirrors of code, stage 9. -/
import Derived.Test.YtbmbhgkjpdpcjaaYw
namespace Go.Proofs.Ytbmbhgkjpdpcjaa.Ab
open Go

/-- minecontroldraw.Codes -/
structure SCodes where
  l_ : (Sq Int)
  at_ : Int
def SCodes.enc (x : SCodes) : List AV := [.slc 1 x.l_.n (fun k3003 => [.int .u8 (x.l_.f k3003)]), .int .i64 x.at_]
theorem SCodes.ext2 {x y : SCodes} (h0 : x.l_ = y.l_) (h1 : x.at_ = y.at_) : x = y := by cases x; cases y; simp_all
theorem SCodes.inj (x y : SCodes) (h : x.enc = y.enc) : x = y :=
  (SCodes.ext2 (Sq.av_inj intE_u8 (a := x.l_) (b := y.l_) (congrArg (fun l : List AV => l.getD 0 .undef) h)) (show x.at_ = y.at_ from congrArg intA (congrArg (fun l : List AV => l.getD 1 .undef) h)))
/-- api.Place -/
structure SPlace where
  Height : Int
  Surface : Bool
def SPlace.enc (x : SPlace) : List AV := [.int .i64 x.Height, .bool x.Surface]
theorem SPlace.ext2 {x y : SPlace} (h0 : x.Height = y.Height) (h1 : x.Surface = y.Surface) : x = y := by cases x; cases y; simp_all
theorem SPlace.inj (x y : SPlace) (h : x.enc = y.enc) : x = y :=
  (SPlace.ext2 (show x.Height = y.Height from congrArg intA (congrArg (fun l : List AV => l.getD 0 .undef) h)) (show x.Surface = y.Surface from congrArg boolA (congrArg (fun l : List AV => l.getD 1 .undef) h)))
/-- api.Span -/
structure SSpan where
  Low : Int
  High : Int
def SSpan.enc (x : SSpan) : List AV := [.int .i64 x.Low, .int .i64 x.High]
theorem SSpan.ext2 {x y : SSpan} (h0 : x.Low = y.Low) (h1 : x.High = y.High) : x = y := by cases x; cases y; simp_all
theorem SSpan.inj (x y : SSpan) (h : x.enc = y.enc) : x = y :=
  (SSpan.ext2 (show x.Low = y.Low from congrArg intA (congrArg (fun l : List AV => l.getD 0 .undef) h)) (show x.High = y.High from congrArg intA (congrArg (fun l : List AV => l.getD 1 .undef) h)))
/-- api.Road -/
structure SRoad where
  From : Int
  To : Int
  Length : Int
  Area : Int
  Walk : Bool
  Closed : Bool
  Rest : SSpan
  Lift : SSpan
def SRoad.enc (x : SRoad) : List AV := [.int .i64 x.From, .int .i64 x.To, .int .i64 x.Length, .int .i64 x.Area, .bool x.Walk, .bool x.Closed, .int .i64 x.Rest.Low, .int .i64 x.Rest.High, .int .i64 x.Lift.Low, .int .i64 x.Lift.High]
theorem SRoad.ext2 {x y : SRoad} (h0 : x.From = y.From) (h1 : x.To = y.To) (h2 : x.Length = y.Length) (h3 : x.Area = y.Area) (h4 : x.Walk = y.Walk) (h5 : x.Closed = y.Closed) (h6 : x.Rest = y.Rest) (h7 : x.Lift = y.Lift) : x = y := by cases x; cases y; simp_all
theorem SRoad.inj (x y : SRoad) (h : x.enc = y.enc) : x = y :=
  (SRoad.ext2 (show x.From = y.From from congrArg intA (congrArg (fun l : List AV => l.getD 0 .undef) h)) (show x.To = y.To from congrArg intA (congrArg (fun l : List AV => l.getD 1 .undef) h)) (show x.Length = y.Length from congrArg intA (congrArg (fun l : List AV => l.getD 2 .undef) h)) (show x.Area = y.Area from congrArg intA (congrArg (fun l : List AV => l.getD 3 .undef) h)) (show x.Walk = y.Walk from congrArg boolA (congrArg (fun l : List AV => l.getD 4 .undef) h)) (show x.Closed = y.Closed from congrArg boolA (congrArg (fun l : List AV => l.getD 5 .undef) h)) (SSpan.ext2 (show x.Rest.Low = y.Rest.Low from congrArg intA (congrArg (fun l : List AV => l.getD 6 .undef) h)) (show x.Rest.High = y.Rest.High from congrArg intA (congrArg (fun l : List AV => l.getD 7 .undef) h))) (SSpan.ext2 (show x.Lift.Low = y.Lift.Low from congrArg intA (congrArg (fun l : List AV => l.getD 8 .undef) h)) (show x.Lift.High = y.Lift.High from congrArg intA (congrArg (fun l : List AV => l.getD 9 .undef) h))))
/-- api.Point -/
structure SPoint where
  Flow : Int
  Pressure : Int
def SPoint.enc (x : SPoint) : List AV := [.int .i64 x.Flow, .int .i64 x.Pressure]
theorem SPoint.ext2 {x y : SPoint} (h0 : x.Flow = y.Flow) (h1 : x.Pressure = y.Pressure) : x = y := by cases x; cases y; simp_all
theorem SPoint.inj (x y : SPoint) (h : x.enc = y.enc) : x = y :=
  (SPoint.ext2 (show x.Flow = y.Flow from congrArg intA (congrArg (fun l : List AV => l.getD 0 .undef) h)) (show x.Pressure = y.Pressure from congrArg intA (congrArg (fun l : List AV => l.getD 1 .undef) h)))
/-- api.Fan -/
structure SFan where
  Road : Int
  Back : Bool
  Auxiliary : Bool
  Curve : (Sq SPoint)
def SFan.enc (x : SFan) : List AV := [.int .i64 x.Road, .bool x.Back, .bool x.Auxiliary, .slc 2 x.Curve.n (fun k3004 => (SPoint.enc (x.Curve.f k3004)))]
theorem SFan.ext2 {x y : SFan} (h0 : x.Road = y.Road) (h1 : x.Back = y.Back) (h2 : x.Auxiliary = y.Auxiliary) (h3 : x.Curve = y.Curve) : x = y := by cases x; cases y; simp_all
theorem SFan.inj (x y : SFan) (h : x.enc = y.enc) : x = y :=
  (SFan.ext2 (show x.Road = y.Road from congrArg intA (congrArg (fun l : List AV => l.getD 0 .undef) h)) (show x.Back = y.Back from congrArg boolA (congrArg (fun l : List AV => l.getD 1 .undef) h)) (show x.Auxiliary = y.Auxiliary from congrArg boolA (congrArg (fun l : List AV => l.getD 2 .undef) h)) (Sq.av_inj SPoint.inj (a := x.Curve) (b := y.Curve) (congrArg (fun l : List AV => l.getD 3 .undef) h)))
/-- api.Door -/
structure SDoor where
  Road : Int
  Other : Int
  Rests : (Sq Int)
def SDoor.enc (x : SDoor) : List AV := [.int .i64 x.Road, .int .i64 x.Other, .slc 1 x.Rests.n (fun k3005 => [.int .i64 (x.Rests.f k3005)])]
theorem SDoor.ext2 {x y : SDoor} (h0 : x.Road = y.Road) (h1 : x.Other = y.Other) (h2 : x.Rests = y.Rests) : x = y := by cases x; cases y; simp_all
theorem SDoor.inj (x y : SDoor) (h : x.enc = y.enc) : x = y :=
  (SDoor.ext2 (show x.Road = y.Road from congrArg intA (congrArg (fun l : List AV => l.getD 0 .undef) h)) (show x.Other = y.Other from congrArg intA (congrArg (fun l : List AV => l.getD 1 .undef) h)) (Sq.av_inj intE_i64 (a := x.Rests) (b := y.Rests) (congrArg (fun l : List AV => l.getD 2 .undef) h)))
/-- api.Mine -/
structure SMine where
  Places : (Sq SPlace)
  Roads : (Sq SRoad)
def SMine.enc (x : SMine) : List AV := [.slc 2 x.Places.n (fun k3006 => (SPlace.enc (x.Places.f k3006))), .slc 10 x.Roads.n (fun k3007 => (SRoad.enc (x.Roads.f k3007)))]
theorem SMine.ext2 {x y : SMine} (h0 : x.Places = y.Places) (h1 : x.Roads = y.Roads) : x = y := by cases x; cases y; simp_all
theorem SMine.inj (x y : SMine) (h : x.enc = y.enc) : x = y :=
  (SMine.ext2 (Sq.av_inj SPlace.inj (a := x.Places) (b := y.Places) (congrArg (fun l : List AV => l.getD 0 .undef) h)) (Sq.av_inj SRoad.inj (a := x.Roads) (b := y.Roads) (congrArg (fun l : List AV => l.getD 1 .undef) h)))
/-- api.Air -/
structure SAir where
  Mine : SMine
  Fans : (Sq SFan)
  Doors : (Sq SDoor)
def SAir.enc (x : SAir) : List AV := [.slc 2 x.Mine.Places.n (fun k3008 => (SPlace.enc (x.Mine.Places.f k3008))), .slc 10 x.Mine.Roads.n (fun k3009 => (SRoad.enc (x.Mine.Roads.f k3009))), .slc 4 x.Fans.n (fun k3010 => (SFan.enc (x.Fans.f k3010))), .slc 3 x.Doors.n (fun k3011 => (SDoor.enc (x.Doors.f k3011)))]
theorem SAir.ext2 {x y : SAir} (h0 : x.Mine = y.Mine) (h1 : x.Fans = y.Fans) (h2 : x.Doors = y.Doors) : x = y := by cases x; cases y; simp_all
theorem SAir.inj (x y : SAir) (h : x.enc = y.enc) : x = y :=
  (SAir.ext2 (SMine.ext2 (Sq.av_inj SPlace.inj (a := x.Mine.Places) (b := y.Mine.Places) (congrArg (fun l : List AV => l.getD 0 .undef) h)) (Sq.av_inj SRoad.inj (a := x.Mine.Roads) (b := y.Mine.Roads) (congrArg (fun l : List AV => l.getD 1 .undef) h))) (Sq.av_inj SFan.inj (a := x.Fans) (b := y.Fans) (congrArg (fun l : List AV => l.getD 2 .undef) h)) (Sq.av_inj SDoor.inj (a := x.Doors) (b := y.Doors) (congrArg (fun l : List AV => l.getD 3 .undef) h)))
/-- api.Setting -/
structure SSetting where
  Fans : (Sq Int)
  Doors : (Sq Int)
def SSetting.enc (x : SSetting) : List AV := [.slc 1 x.Fans.n (fun k3012 => [.int .i64 (x.Fans.f k3012)]), .slc 1 x.Doors.n (fun k3013 => [.int .i64 (x.Doors.f k3013)])]
theorem SSetting.ext2 {x y : SSetting} (h0 : x.Fans = y.Fans) (h1 : x.Doors = y.Doors) : x = y := by cases x; cases y; simp_all
theorem SSetting.inj (x y : SSetting) (h : x.enc = y.enc) : x = y :=
  (SSetting.ext2 (Sq.av_inj intE_i64 (a := x.Fans) (b := y.Fans) (congrArg (fun l : List AV => l.getD 0 .undef) h)) (Sq.av_inj intE_i64 (a := x.Doors) (b := y.Doors) (congrArg (fun l : List AV => l.getD 1 .undef) h)))
/-- api.State -/
structure SState where
  Pressures : (Sq Int)
  Flows : (Sq Int)
def SState.enc (x : SState) : List AV := [.slc 1 x.Pressures.n (fun k3014 => [.int .i64 (x.Pressures.f k3014)]), .slc 1 x.Flows.n (fun k3015 => [.int .i64 (x.Flows.f k3015)])]
theorem SState.ext2 {x y : SState} (h0 : x.Pressures = y.Pressures) (h1 : x.Flows = y.Flows) : x = y := by cases x; cases y; simp_all
theorem SState.inj (x y : SState) (h : x.enc = y.enc) : x = y :=
  (SState.ext2 (Sq.av_inj intE_i64 (a := x.Pressures) (b := y.Pressures) (congrArg (fun l : List AV => l.getD 0 .undef) h)) (Sq.av_inj intE_i64 (a := x.Flows) (b := y.Flows) (congrArg (fun l : List AV => l.getD 1 .undef) h)))
/-- branch.blower -/
structure Sblower where
  Fan : SFan
  state_ : Int
def Sblower.enc (x : Sblower) : List AV := [.int .i64 x.Fan.Road, .bool x.Fan.Back, .bool x.Fan.Auxiliary, .slc 2 x.Fan.Curve.n (fun k3016 => (SPoint.enc (x.Fan.Curve.f k3016))), .int .i64 x.state_]
theorem Sblower.ext2 {x y : Sblower} (h0 : x.Fan = y.Fan) (h1 : x.state_ = y.state_) : x = y := by cases x; cases y; simp_all
theorem Sblower.inj (x y : Sblower) (h : x.enc = y.enc) : x = y :=
  (Sblower.ext2 (SFan.ext2 (show x.Fan.Road = y.Fan.Road from congrArg intA (congrArg (fun l : List AV => l.getD 0 .undef) h)) (show x.Fan.Back = y.Fan.Back from congrArg boolA (congrArg (fun l : List AV => l.getD 1 .undef) h)) (show x.Fan.Auxiliary = y.Fan.Auxiliary from congrArg boolA (congrArg (fun l : List AV => l.getD 2 .undef) h)) (Sq.av_inj SPoint.inj (a := x.Fan.Curve) (b := y.Fan.Curve) (congrArg (fun l : List AV => l.getD 3 .undef) h))) (show x.state_ = y.state_ from congrArg intA (congrArg (fun l : List AV => l.getD 4 .undef) h)))
/-- branch.airway -/
structure Sairway where
  Road : SRoad
  blowers_ : (Sq Sblower)
def Sairway.enc (x : Sairway) : List AV := [.int .i64 x.Road.From, .int .i64 x.Road.To, .int .i64 x.Road.Length, .int .i64 x.Road.Area, .bool x.Road.Walk, .bool x.Road.Closed, .int .i64 x.Road.Rest.Low, .int .i64 x.Road.Rest.High, .int .i64 x.Road.Lift.Low, .int .i64 x.Road.Lift.High, .slc 5 x.blowers_.n (fun k3017 => (Sblower.enc (x.blowers_.f k3017)))]
theorem Sairway.ext2 {x y : Sairway} (h0 : x.Road = y.Road) (h1 : x.blowers_ = y.blowers_) : x = y := by cases x; cases y; simp_all
theorem Sairway.inj (x y : Sairway) (h : x.enc = y.enc) : x = y :=
  (Sairway.ext2 (SRoad.ext2 (show x.Road.From = y.Road.From from congrArg intA (congrArg (fun l : List AV => l.getD 0 .undef) h)) (show x.Road.To = y.Road.To from congrArg intA (congrArg (fun l : List AV => l.getD 1 .undef) h)) (show x.Road.Length = y.Road.Length from congrArg intA (congrArg (fun l : List AV => l.getD 2 .undef) h)) (show x.Road.Area = y.Road.Area from congrArg intA (congrArg (fun l : List AV => l.getD 3 .undef) h)) (show x.Road.Walk = y.Road.Walk from congrArg boolA (congrArg (fun l : List AV => l.getD 4 .undef) h)) (show x.Road.Closed = y.Road.Closed from congrArg boolA (congrArg (fun l : List AV => l.getD 5 .undef) h)) (SSpan.ext2 (show x.Road.Rest.Low = y.Road.Rest.Low from congrArg intA (congrArg (fun l : List AV => l.getD 6 .undef) h)) (show x.Road.Rest.High = y.Road.Rest.High from congrArg intA (congrArg (fun l : List AV => l.getD 7 .undef) h))) (SSpan.ext2 (show x.Road.Lift.Low = y.Road.Lift.Low from congrArg intA (congrArg (fun l : List AV => l.getD 8 .undef) h)) (show x.Road.Lift.High = y.Road.Lift.High from congrArg intA (congrArg (fun l : List AV => l.getD 9 .undef) h)))) (Sq.av_inj Sblower.inj (a := x.blowers_) (b := y.blowers_) (congrArg (fun l : List AV => l.getD 10 .undef) h)))

/-! ### (*minecontrol/minecontroldraw.Codes).Next -/
def Codes_Next_encC (c : SCodes) (n : Int) : List AV × List Blk := ([.ptr 0 0, .int .i64 n], [.var [.slc 1 c.l_.n (fun k2482 => [.int .u8 (c.l_.f k2482)]), .int .i64 c.at_]])
def Codes_Next_enc (p : SCodes × Int) : List AV × List Blk := Codes_Next_encC p.1 p.2
theorem Codes_Next_inj (p q : SCodes × Int) (h : Codes_Next_enc p = Codes_Next_enc q) : p = q :=
  (Prod.ext (SCodes.ext2 (Sq.av_inj intE_u8 (a := p.1.l_) (b := q.1.l_) (congrArg (fun x : List AV × List Blk => cellB x.2 0 0) h)) (show p.1.at_ = q.1.at_ from congrArg intA (congrArg (fun x : List AV × List Blk => cellB x.2 0 1) h))) (show p.2 = q.2 from congrArg intA (congrArg (fun x : List AV × List Blk => x.1.getD 1 .undef) h)))
noncomputable def Codes_Next_t (c : SCodes) (n : Int) : DT (Int × Int) :=
  .ite (decide (n < (1 : Int))) (
    .leaf ((0 : Int), c.at_)) (
    .ite (decide (c.at_ ≥ ((c.l_.n : Nat) : Int))) (
      .leaf ((0 : Int), c.at_)) (
      .ite (decide ((0 : Int) ≤ (wr ((wr (c.at_ + (1 : Int))) - (1 : Int))) ∧ (wr ((wr (c.at_ + (1 : Int))) - (1 : Int))) < ((c.l_.n : Nat) : Int))) (
        .ite (decide (n > (256 : Int))) (
          .ite (decide ((wr (c.at_ + (1 : Int))) < ((c.l_.n : Nat) : Int))) (
            .ite (decide ((0 : Int) ≤ (wr (c.at_ + (1 : Int))) ∧ (wr (c.at_ + (1 : Int))) < ((c.l_.n : Nat) : Int))) (
              .ite (n != 0) (
                .leaf ((Int.tmod (wr ((wr ((wr (c.l_.f (Int.toNat (wr ((wr (c.at_ + (1 : Int))) - (1 : Int)))))) * (256 : Int))) + (wr (c.l_.f (Int.toNat (wr (c.at_ + (1 : Int)))))))) n), (wr ((wr (c.at_ + (1 : Int))) + (1 : Int))))) (
                .fail)) (
              .fail)) (
            .ite (n != 0) (
              .leaf ((Int.tmod (wr (c.l_.f (Int.toNat (wr ((wr (c.at_ + (1 : Int))) - (1 : Int)))))) n), (wr (c.at_ + (1 : Int))))) (
              .fail))) (
          .ite (n != 0) (
            .leaf ((Int.tmod (wr (c.l_.f (Int.toNat (wr ((wr (c.at_ + (1 : Int))) - (1 : Int)))))) n), (wr (c.at_ + (1 : Int))))) (
            .fail))) (
        .fail)))
def Codes_Next_av (r : Int × Int) : AV := .int .i64 r.1
def Codes_Next_outs (ins : List Blk) (r : Int × Int) : List Blk := [.var [cellB ins 0 0, .int .i64 r.2]]
noncomputable def c_Codes_Next : List AV → List Blk → Option Ans := told Codes_Next_enc (fun p => (Codes_Next_t p.1 p.2).get) Codes_Next_av Codes_Next_outs false (fun h => by cases h)
noncomputable def Codes_Next_env : Env := { envS (fun _ _ _ => none) with mm := some 1 }
theorem Codes_Next_env_ok : ∀ f, Tells Try.prog f (Codes_Next_env.fs f) := fun f => Tells.none_ f

theorem Codes_Next_run (p : SCodes × Int) : arun Codes_Next_env Try.f12 (Codes_Next_enc p).1 (Codes_Next_enc p).2 = (Codes_Next_t p.1 p.2).run fun r => some (Codes_Next_av r, Codes_Next_outs (Codes_Next_enc p).2 r) := by kernel_rfl
attribute [local irreducible] arun in
theorem Codes_Next_tells : Tells Try.prog 12 c_Codes_Next :=
  told_tells (E := Codes_Next_env) (enc := Codes_Next_enc) (av := Codes_Next_av) (outs := Codes_Next_outs) (t := fun p : SCodes × Int => Codes_Next_t p.1 p.2) (by kernel_rfl) Codes_Next_env_ok Try.func12 (fun c _ => loops_none (E := { Codes_Next_env with nt := Try.f12.ntmps }) (fun _ => rfl) c) Codes_Next_run
noncomputable def Codes_Next (c : SCodes) (n : Int) : Option (Int × Int) := gOfA Codes_Next_enc (fun p => (Codes_Next_t p.1 p.2).get) (Codes_Next_encC c n).1 (Codes_Next_encC c n).2
theorem Codes_Next_eq (c : SCodes) (n : Int) : Codes_Next c n = (Codes_Next_t c n).get := congrFun (gOfA_eq Codes_Next_inj (fun p => (Codes_Next_t p.1 p.2).get)) (c, n)

/-! ### (*minecontrol/minecontroldraw.Codes).One -/
def Codes_One_encC (c : SCodes) (n : Int) : List AV × List Blk := ([.ptr 0 0, .int .i64 n], [.var [.slc 1 c.l_.n (fun k2483 => [.int .u8 (c.l_.f k2483)]), .int .i64 c.at_]])
def Codes_One_enc (p : SCodes × Int) : List AV × List Blk := Codes_One_encC p.1 p.2
theorem Codes_One_inj (p q : SCodes × Int) (h : Codes_One_enc p = Codes_One_enc q) : p = q :=
  (Prod.ext (SCodes.ext2 (Sq.av_inj intE_u8 (a := p.1.l_) (b := q.1.l_) (congrArg (fun x : List AV × List Blk => cellB x.2 0 0) h)) (show p.1.at_ = q.1.at_ from congrArg intA (congrArg (fun x : List AV × List Blk => cellB x.2 0 1) h))) (show p.2 = q.2 from congrArg intA (congrArg (fun x : List AV × List Blk => x.1.getD 1 .undef) h)))
noncomputable def Codes_One_t (c : SCodes) (n : Int) : DT (Bool × Int) :=
  .bind (Codes_Next c n) fun z1 =>
  .leaf ((z1.1 == (wr (n - (1 : Int)))), z1.2)
def Codes_One_av (r : Bool × Int) : AV := .bool r.1
def Codes_One_outs (ins : List Blk) (r : Bool × Int) : List Blk := [.var [cellB ins 0 0, .int .i64 r.2]]
noncomputable def c_Codes_One : List AV → List Blk → Option Ans := told Codes_One_enc (fun p => (Codes_One_t p.1 p.2).get) Codes_One_av Codes_One_outs false (fun h => by cases h)
noncomputable def Codes_One_env : Env := { envS (fun f => match f with
  | 12 => c_Codes_Next
  | _ => fun _ _ => none) with mm := some 1 }
theorem Codes_One_env_ok : ∀ f, Tells Try.prog f (Codes_One_env.fs f) := by
  intro f
  by_cases h0 : f = 12
  · subst h0; exact Codes_Next_tells
  have : Codes_One_env.fs f = fun _ _ => none := by
    unfold Codes_One_env envS
    dsimp only
    split
    · exact absurd rfl h0
    · rfl
  rw [this]
  exact Tells.none_ f
theorem Codes_One_run (p : SCodes × Int) : arun Codes_One_env Try.f29 (Codes_One_enc p).1 (Codes_One_enc p).2 = (Codes_One_t p.1 p.2).run fun r => some (Codes_One_av r, Codes_One_outs (Codes_One_enc p).2 r) := by kernel_rfl
attribute [local irreducible] arun in
theorem Codes_One_tells : Tells Try.prog 29 c_Codes_One :=
  told_tells (E := Codes_One_env) (enc := Codes_One_enc) (av := Codes_One_av) (outs := Codes_One_outs) (t := fun p : SCodes × Int => Codes_One_t p.1 p.2) (by kernel_rfl) Codes_One_env_ok Try.func29 (fun c _ => loops_none (E := { Codes_One_env with nt := Try.f29.ntmps }) (fun _ => rfl) c) Codes_One_run
noncomputable def Codes_One (c : SCodes) (n : Int) : Option (Bool × Int) := gOfA Codes_One_enc (fun p => (Codes_One_t p.1 p.2).get) (Codes_One_encC c n).1 (Codes_One_encC c n).2
theorem Codes_One_eq (c : SCodes) (n : Int) : Codes_One c n = (Codes_One_t c n).get := congrFun (gOfA_eq Codes_One_inj (fun p => (Codes_One_t p.1 p.2).get)) (c, n)

/-! ### (*minecontrol/minecontroldraw.Codes).Range -/
def Codes_Range_encC (c : SCodes) (low : Int) (high : Int) : List AV × List Blk := ([.ptr 0 0, .int .i64 low, .int .i64 high], [.var [.slc 1 c.l_.n (fun k2484 => [.int .u8 (c.l_.f k2484)]), .int .i64 c.at_]])
def Codes_Range_enc (p : SCodes × Int × Int) : List AV × List Blk := Codes_Range_encC p.1 p.2.1 p.2.2
theorem Codes_Range_inj (p q : SCodes × Int × Int) (h : Codes_Range_enc p = Codes_Range_enc q) : p = q :=
  (Prod.ext (SCodes.ext2 (Sq.av_inj intE_u8 (a := p.1.l_) (b := q.1.l_) (congrArg (fun x : List AV × List Blk => cellB x.2 0 0) h)) (show p.1.at_ = q.1.at_ from congrArg intA (congrArg (fun x : List AV × List Blk => cellB x.2 0 1) h))) (Prod.ext (show p.2.1 = q.2.1 from congrArg intA (congrArg (fun x : List AV × List Blk => x.1.getD 1 .undef) h)) (show p.2.2 = q.2.2 from congrArg intA (congrArg (fun x : List AV × List Blk => x.1.getD 2 .undef) h))))
noncomputable def Codes_Range_t (c : SCodes) (low : Int) (high : Int) : DT (Int × Int) :=
  .bind (Codes_Next c (wr ((wr (high - low)) + (1 : Int)))) fun z34 =>
  .leaf ((wr (low + z34.1)), z34.2)
def Codes_Range_av (r : Int × Int) : AV := .int .i64 r.1
def Codes_Range_outs (ins : List Blk) (r : Int × Int) : List Blk := [.var [cellB ins 0 0, .int .i64 r.2]]
noncomputable def c_Codes_Range : List AV → List Blk → Option Ans := told Codes_Range_enc (fun p => (Codes_Range_t p.1 p.2.1 p.2.2).get) Codes_Range_av Codes_Range_outs false (fun h => by cases h)
noncomputable def Codes_Range_env : Env := { envS (fun f => match f with
  | 12 => c_Codes_Next
  | _ => fun _ _ => none) with mm := some 1 }
theorem Codes_Range_env_ok : ∀ f, Tells Try.prog f (Codes_Range_env.fs f) := by
  intro f
  by_cases h0 : f = 12
  · subst h0; exact Codes_Next_tells
  have : Codes_Range_env.fs f = fun _ _ => none := by
    unfold Codes_Range_env envS
    dsimp only
    split
    · exact absurd rfl h0
    · rfl
  rw [this]
  exact Tells.none_ f
theorem Codes_Range_run (p : SCodes × Int × Int) : arun Codes_Range_env Try.f30 (Codes_Range_enc p).1 (Codes_Range_enc p).2 = (Codes_Range_t p.1 p.2.1 p.2.2).run fun r => some (Codes_Range_av r, Codes_Range_outs (Codes_Range_enc p).2 r) := by kernel_rfl
attribute [local irreducible] arun in
theorem Codes_Range_tells : Tells Try.prog 30 c_Codes_Range :=
  told_tells (E := Codes_Range_env) (enc := Codes_Range_enc) (av := Codes_Range_av) (outs := Codes_Range_outs) (t := fun p : SCodes × Int × Int => Codes_Range_t p.1 p.2.1 p.2.2) (by kernel_rfl) Codes_Range_env_ok Try.func30 (fun c _ => loops_none (E := { Codes_Range_env with nt := Try.f30.ntmps }) (fun _ => rfl) c) Codes_Range_run
noncomputable def Codes_Range (c : SCodes) (low : Int) (high : Int) : Option (Int × Int) := gOfA Codes_Range_enc (fun p => (Codes_Range_t p.1 p.2.1 p.2.2).get) (Codes_Range_encC c low high).1 (Codes_Range_encC c low high).2
theorem Codes_Range_eq (c : SCodes) (low : Int) (high : Int) : Codes_Range c low high = (Codes_Range_t c low high).get := congrFun (gOfA_eq Codes_Range_inj (fun p => (Codes_Range_t p.1 p.2.1 p.2.2).get)) (c, low, high)

/-! ### (*minecontrol/minecontroldraw.Codes).Road -/
def Codes_Road_encC (c : SCodes) (from_ : Int) (to_ : Int) : List AV × List Blk := ([.ptr 0 0, .int .i64 from_, .int .i64 to_], [.var [.slc 1 c.l_.n (fun k2485 => [.int .u8 (c.l_.f k2485)]), .int .i64 c.at_]])
def Codes_Road_enc (p : SCodes × Int × Int) : List AV × List Blk := Codes_Road_encC p.1 p.2.1 p.2.2
theorem Codes_Road_inj (p q : SCodes × Int × Int) (h : Codes_Road_enc p = Codes_Road_enc q) : p = q :=
  (Prod.ext (SCodes.ext2 (Sq.av_inj intE_u8 (a := p.1.l_) (b := q.1.l_) (congrArg (fun x : List AV × List Blk => cellB x.2 0 0) h)) (show p.1.at_ = q.1.at_ from congrArg intA (congrArg (fun x : List AV × List Blk => cellB x.2 0 1) h))) (Prod.ext (show p.2.1 = q.2.1 from congrArg intA (congrArg (fun x : List AV × List Blk => x.1.getD 1 .undef) h)) (show p.2.2 = q.2.2 from congrArg intA (congrArg (fun x : List AV × List Blk => x.1.getD 2 .undef) h))))
noncomputable def Codes_Road_t (c : SCodes) (from_ : Int) (to_ : Int) : DT (SRoad × Int) :=
  .bind (Codes_Range c (1 : Int) (400 : Int)) fun z96 =>
  .bind (Codes_Range (SCodes.mk c.l_ z96.2) (4 : Int) (30 : Int)) fun z97 =>
  .bind (Codes_Next (SCodes.mk c.l_ z97.2) (4 : Int)) fun z98 =>
  .bind (Codes_Range (SCodes.mk c.l_ z98.2) (1 : Int) (20 : Int)) fun z99 =>
  .bind (Codes_Next (SCodes.mk c.l_ z99.2) (3 : Int)) fun z100 =>
  .bind (Codes_Range (SCodes.mk c.l_ z100.2) (-300 : Int) (300 : Int)) fun z101 =>
  .bind (Codes_Next (SCodes.mk c.l_ z101.2) (20 : Int)) fun z102 =>
  .leaf ((SRoad.mk from_ to_ z96.1 z97.1 (decide (z98.1 > (0 : Int))) false (SSpan.mk z99.1 (wr (z99.1 + z100.1))) (SSpan.mk z101.1 (wr (z101.1 + z102.1)))), z102.2)
def Codes_Road_av (r : SRoad × Int) : AV := .agg [.int .i64 r.1.From, .int .i64 r.1.To, .int .i64 r.1.Length, .int .i64 r.1.Area, .bool r.1.Walk, .bool r.1.Closed, .int .i64 r.1.Rest.Low, .int .i64 r.1.Rest.High, .int .i64 r.1.Lift.Low, .int .i64 r.1.Lift.High]
def Codes_Road_outs (ins : List Blk) (r : SRoad × Int) : List Blk := [.var [cellB ins 0 0, .int .i64 r.2]]
noncomputable def c_Codes_Road : List AV → List Blk → Option Ans := told Codes_Road_enc (fun p => (Codes_Road_t p.1 p.2.1 p.2.2).get) Codes_Road_av Codes_Road_outs false (fun h => by cases h)
noncomputable def Codes_Road_env : Env := { envS (fun f => match f with
  | 30 => c_Codes_Range
  | 12 => c_Codes_Next
  | _ => fun _ _ => none) with mm := some 1 }
theorem Codes_Road_env_ok : ∀ f, Tells Try.prog f (Codes_Road_env.fs f) := by
  intro f
  by_cases h0 : f = 30
  · subst h0; exact Codes_Range_tells
  by_cases h1 : f = 12
  · subst h1; exact Codes_Next_tells
  have : Codes_Road_env.fs f = fun _ _ => none := by
    unfold Codes_Road_env envS
    dsimp only
    split
    · exact absurd rfl h0
    · exact absurd rfl h1
    · rfl
  rw [this]
  exact Tells.none_ f
theorem Codes_Road_run (p : SCodes × Int × Int) : arun Codes_Road_env Try.f31 (Codes_Road_enc p).1 (Codes_Road_enc p).2 = (Codes_Road_t p.1 p.2.1 p.2.2).run fun r => some (Codes_Road_av r, Codes_Road_outs (Codes_Road_enc p).2 r) := by kernel_rfl
attribute [local irreducible] arun in
theorem Codes_Road_tells : Tells Try.prog 31 c_Codes_Road :=
  told_tells (E := Codes_Road_env) (enc := Codes_Road_enc) (av := Codes_Road_av) (outs := Codes_Road_outs) (t := fun p : SCodes × Int × Int => Codes_Road_t p.1 p.2.1 p.2.2) (by kernel_rfl) Codes_Road_env_ok Try.func31 (fun c _ => loops_none (E := { Codes_Road_env with nt := Try.f31.ntmps }) (fun _ => rfl) c) Codes_Road_run
noncomputable def Codes_Road (c : SCodes) (from_ : Int) (to_ : Int) : Option (SRoad × Int) := gOfA Codes_Road_enc (fun p => (Codes_Road_t p.1 p.2.1 p.2.2).get) (Codes_Road_encC c from_ to_).1 (Codes_Road_encC c from_ to_).2
theorem Codes_Road_eq (c : SCodes) (from_ : Int) (to_ : Int) : Codes_Road c from_ to_ = (Codes_Road_t c from_ to_).get := congrFun (gOfA_eq Codes_Road_inj (fun p => (Codes_Road_t p.1 p.2.1 p.2.2).get)) (c, from_, to_)

/-! ### (*minecontrol/minecontroldraw.Codes).Curve -/
def Codes_Curve_encC (c : SCodes) : List AV × List Blk := ([.ptr 0 0], [.var [.slc 1 c.l_.n (fun k2486 => [.int .u8 (c.l_.f k2486)]), .int .i64 c.at_]])
def Codes_Curve_enc (p : SCodes) : List AV × List Blk := Codes_Curve_encC p
theorem Codes_Curve_inj (p q : SCodes) (h : Codes_Curve_enc p = Codes_Curve_enc q) : p = q :=
  (SCodes.ext2 (Sq.av_inj intE_u8 (a := p.l_) (b := q.l_) (congrArg (fun x : List AV × List Blk => cellB x.2 0 0) h)) (show p.at_ = q.at_ from congrArg intA (congrArg (fun x : List AV × List Blk => cellB x.2 0 1) h)))
def Codes_Curve_l3_s (p : ((Sq Int)) × (Int × Int × (Sq SPoint))) : St := ⟨[(0, .ptr 0 0), (3, .own 385 0), (4, .int .i64 p.2.1)], [(0, .var [.slc 1 p.1.n (fun k2487 => [.int .u8 (p.1.f k2487)]), .int .i64 p.2.2.1]), (385, .row 0 2 p.2.2.2.n 78 (fun k2488 => (SPoint.enc (p.2.2.2.f k2488))))], 705⟩
theorem Codes_Curve_l3_inj (p q : ((Sq Int)) × (Int × Int × (Sq SPoint))) (h : Codes_Curve_l3_s p = Codes_Curve_l3_s q) : p = q :=
  Prod.ext (Sq.av_inj intE_u8 (a := p.1) (b := q.1) (congrArg (fun x : St => cellS x 0 0) h)) (Prod.ext (show p.2.1 = q.2.1 from congrArg intA (congrArg (fun x : St => aget x.tm 4) h)) (Prod.ext (show p.2.2.1 = q.2.2.1 from congrArg intA (congrArg (fun x : St => cellS x 0 1) h)) (Sq.row_inj SPoint.inj (a := p.2.2.2) (b := q.2.2.2) (congrArg (fun x : St => blkS x 385) h))))
noncomputable def Codes_Curve_l3_step (v3_1 : (Sq Int)) (n_3_0 : Int) (v3_2 : Int) (v3_3 : (Sq SPoint)) : DT (LR (Int × Int × (Sq SPoint)) (Int × (Sq SPoint)) (Unit)) :=
  .ite (decide (n_3_0 > (0 : Int))) (
    .ite (decide ((0 : Int) ≤ (wr (((v3_3.n : Nat) : Int) - (1 : Int))) ∧ (wr (((v3_3.n : Nat) : Int) - (1 : Int))) < ((v3_3.n : Nat) : Int))) (
      .bind (Codes_Range (SCodes.mk v3_1 v3_2) (1 : Int) (40 : Int)) fun z591 =>
      .bind (Codes_Next (SCodes.mk v3_1 z591.2) (900 : Int)) fun z592 =>
      .ite (decide ((v3_3.n + 1) * 16 ≤ 140737488355328 ∧ (v3_3.n + 1) ≤ 1099511627776)) (
        .leaf (.next ((wr (n_3_0 - (1 : Int))), z592.2, (Sq.mk (v3_3.n + 1) (fun k593 => (SPoint.mk (cond (Nat.blt k593 v3_3.n) (v3_3.f k593).Flow (wr ((v3_3.f (Int.toNat (wr (((v3_3.n : Nat) : Int) - (1 : Int))))).Flow + z591.1))) (cond (Nat.blt k593 v3_3.n) (v3_3.f k593).Pressure (if (0 : Int) < (wr ((v3_3.f (Int.toNat (wr (((v3_3.n : Nat) : Int) - (1 : Int))))).Pressure - z592.1)) then (wr ((v3_3.f (Int.toNat (wr (((v3_3.n : Nat) : Int) - (1 : Int))))).Pressure - z592.1)) else (0 : Int))))))))) (
        .fail)) (
      .fail)) (
    .leaf (.l (v3_2, v3_3)))
def Codes_Curve_l3_el (x : St) (a : Int × (Sq SPoint)) : St := ⟨[(3, .own 385 0)], [(0, .var [cellS x 0 0, .int .i64 a.1]), (385, .row 0 2 a.2.n 78 (fun k2489 => (SPoint.enc (a.2.f k2489))))], 705⟩
def Codes_Curve_l3_er (_ : St) (_ : Unit) : St := ⟨[], [], 0⟩
noncomputable def Codes_Curve_l3_f (p : ((Sq Int)) × (Int × Int × (Sq SPoint))) : Option ((Int × (Sq SPoint)) ⊕ (Unit)) := fixO (fun v : Int × Int × (Sq SPoint) => Codes_Curve_l3_step p.1 v.1 v.2.1 v.2.2) p.2
noncomputable def Codes_Curve_l3_c : St → Option LRes := loopM Codes_Curve_l3_s Codes_Curve_l3_f true (.exit 0) Codes_Curve_l3_el .ret Codes_Curve_l3_er
noncomputable def Codes_Curve_l3 (v3_1 : (Sq Int)) (n_3_0 : Int) (v3_2 : Int) (v3_3 : (Sq SPoint)) : Option ((Int × (Sq SPoint)) ⊕ (Unit)) := gOfS Codes_Curve_l3_s Codes_Curve_l3_f (Codes_Curve_l3_s (v3_1, (n_3_0, v3_2, v3_3)))
theorem Codes_Curve_l3_eq (v3_1 : (Sq Int)) (n_3_0 : Int) (v3_2 : Int) (v3_3 : (Sq SPoint)) : Codes_Curve_l3 v3_1 n_3_0 v3_2 v3_3 = fixO (fun v : Int × Int × (Sq SPoint) => Codes_Curve_l3_step v3_1 v.1 v.2.1 v.2.2) (n_3_0, v3_2, v3_3) := gOfS_eq Codes_Curve_l3_inj Codes_Curve_l3_f (v3_1, (n_3_0, v3_2, v3_3))
noncomputable def Codes_Curve_t (c : SCodes) : DT ((Sq SPoint) × Int) :=
  .bind (Codes_Range c (-20 : Int) (10 : Int)) fun z585 =>
  .bind (Codes_Range (SCodes.mk c.l_ z585.2) (500 : Int) (3000 : Int)) fun z586 =>
  .bind (Codes_Next (SCodes.mk c.l_ z586.2) (4 : Int)) fun z587 =>
  .sum (Codes_Curve_l3 c.l_ z587.1 z587.2 (Sq.mk 1 (fun _ => (SPoint.mk z585.1 z586.1)))) (fun y594 =>
    .leaf (y594.2, y594.1)) (fun _ =>
    .fail)
def Codes_Curve_av (_ : (Sq SPoint) × Int) : AV := .own 1 0
def Codes_Curve_outs (ins : List Blk) (r : (Sq SPoint) × Int) : List Blk := [.var [cellB ins 0 0, .int .i64 r.2], .row 0 2 r.1.n 78 (fun k2490 => (SPoint.enc (r.1.f k2490)))]
noncomputable def c_Codes_Curve : List AV → List Blk → Option Ans := told Codes_Curve_enc (fun p => (Codes_Curve_t p).get) Codes_Curve_av Codes_Curve_outs false (fun h => by cases h)
noncomputable def Codes_Curve_env : Env := { envS (fun f => match f with
  | 30 => c_Codes_Range
  | 12 => c_Codes_Next
  | _ => fun _ _ => none) (fun r => match r with | 3 => some ([0, 3, 4], [3]) | _ => none) with loops := fun r => match r with | 3 => some Codes_Curve_l3_c | _ => none, gc := fun r => match r with | 3 => some [0, 385] | _ => none, mm := some 1 }
theorem Codes_Curve_env_ok : ∀ f, Tells Try.prog f (Codes_Curve_env.fs f) := by
  intro f
  by_cases h0 : f = 30
  · subst h0; exact Codes_Range_tells
  by_cases h1 : f = 12
  · subst h1; exact Codes_Next_tells
  have : Codes_Curve_env.fs f = fun _ _ => none := by
    unfold Codes_Curve_env envS
    dsimp only
    split
    · exact absurd rfl h0
    · exact absurd rfl h1
    · rfl
  rw [this]
  exact Tells.none_ f
noncomputable def Codes_Curve_e : Env := { Codes_Curve_env with nt := 40 }
noncomputable def Codes_Curve_l3_b : Code := loopOf 3 Try.f13
theorem Codes_Curve_l3_round {R : Type} (fx : (Sq Int)) (v : Int × Int × (Sq SPoint)) (N : Nat) (K : AX → St → Option R) : aloop (fun s j => aexec Codes_Curve_e Codes_Curve_l3_b s j) (headOf Codes_Curve_e Codes_Curve_l3_b 705) (exitOf Codes_Curve_e Codes_Curve_l3_b 705) (N + 1) (Codes_Curve_l3_s (fx, v)) K = (Codes_Curve_l3_step fx v.1 v.2.1 v.2.2).run (LR.elim
    (fun v' => aloop (fun s j => aexec Codes_Curve_e Codes_Curve_l3_b s j) (headOf Codes_Curve_e Codes_Curve_l3_b 705) (exitOf Codes_Curve_e Codes_Curve_l3_b 705) N (Codes_Curve_l3_s (fx, v')) K)
    (fun a => K (.exit 0) (Codes_Curve_l3_el (Codes_Curve_l3_s (fx, v)) a))
    (fun a => K .ret (Codes_Curve_l3_er (Codes_Curve_l3_s (fx, v)) a))) := by kernel_rfl
theorem Codes_Curve_l3_tells : LoopTells Codes_Curve_e Codes_Curve_l3_b Codes_Curve_l3_c :=
  loopM_tells (s := Codes_Curve_l3_s) (stl := Codes_Curve_l3_el) (str := Codes_Curve_l3_er) (step := fun (fx : (Sq Int)) (v : Int × Int × (Sq SPoint)) => Codes_Curve_l3_step fx v.1 v.2.1 v.2.2) (n := 705) (fun _ => rfl) (fun _ _ _ _ => rfl) (fun _ _ _ _ => rfl) Codes_Curve_l3_round
theorem Codes_Curve_run (p : SCodes) : arun Codes_Curve_env Try.f13 (Codes_Curve_enc p).1 (Codes_Curve_enc p).2 = (Codes_Curve_t p).run fun r => some (Codes_Curve_av r, Codes_Curve_outs (Codes_Curve_enc p).2 r) := by kernel_rfl
theorem Codes_Curve_loops : ∀ c, Try.f13.body = some c → LoopsOK { Codes_Curve_env with nt := Try.f13.ntmps } c := by
  intro c hc
  refine loops_of c fun c' hc' f hf => ?_
  have hb : loopsOf c = [Codes_Curve_l3_b] := by
    have : Try.f13.body.map loopsOf = some [Codes_Curve_l3_b] := by kernel_rfl
    rw [hc] at this
    injection this
  rw [hb] at hc'
  clear hb
  obtain rfl := List.mem_singleton.1 hc'
  have h6 : firstReg Codes_Curve_l3_b = 3 := by kernel_rfl
  rw [h6] at hf
  obtain rfl := Option.some.inj hf
  exact Codes_Curve_l3_tells
attribute [local irreducible] arun in
theorem Codes_Curve_tells : Tells Try.prog 13 c_Codes_Curve :=
  told_tells (E := Codes_Curve_env) (enc := Codes_Curve_enc) (av := Codes_Curve_av) (outs := Codes_Curve_outs) (t := fun p : SCodes => Codes_Curve_t p) (by kernel_rfl) Codes_Curve_env_ok Try.func13 Codes_Curve_loops Codes_Curve_run
noncomputable def Codes_Curve (c : SCodes) : Option ((Sq SPoint) × Int) := gOfA Codes_Curve_enc (fun p => (Codes_Curve_t p).get) (Codes_Curve_encC c).1 (Codes_Curve_encC c).2
theorem Codes_Curve_eq (c : SCodes) : Codes_Curve c = (Codes_Curve_t c).get := congrFun (gOfA_eq Codes_Curve_inj (fun p => (Codes_Curve_t p).get)) c

/-! ### (*minecontrol/minecontroldraw.Codes).Door -/
def Codes_Door_encC (c : SCodes) (road : Int) : List AV × List Blk := ([.ptr 0 0, .int .i64 road], [.var [.slc 1 c.l_.n (fun k2491 => [.int .u8 (c.l_.f k2491)]), .int .i64 c.at_]])
def Codes_Door_enc (p : SCodes × Int) : List AV × List Blk := Codes_Door_encC p.1 p.2
theorem Codes_Door_inj (p q : SCodes × Int) (h : Codes_Door_enc p = Codes_Door_enc q) : p = q :=
  (Prod.ext (SCodes.ext2 (Sq.av_inj intE_u8 (a := p.1.l_) (b := q.1.l_) (congrArg (fun x : List AV × List Blk => cellB x.2 0 0) h)) (show p.1.at_ = q.1.at_ from congrArg intA (congrArg (fun x : List AV × List Blk => cellB x.2 0 1) h))) (show p.2 = q.2 from congrArg intA (congrArg (fun x : List AV × List Blk => x.1.getD 1 .undef) h)))
def Codes_Door_l3_s (p : ((Sq Int) × Int) × (Int × Int × (Sq Int))) : St := ⟨[(0, .ptr 0 0), (4, .ptr 1 0), (5, .ptr 385 0), (6, .int .i64 p.2.1)], [(0, .var [.slc 1 p.1.1.n (fun k2492 => [.int .u8 (p.1.1.f k2492)]), .int .i64 p.2.2.1]), (1, .var [.int .i64 (0 : Int), .int .i64 (0 : Int), .own 2 0]), (2, .nilrow 0), (257, .row 0 1 p.2.2.2.n 3 (fun k2493 => [.int .i64 (p.2.2.2.f k2493)])), (385, .var [.int .i64 p.1.2, .int .i64 (-1 : Int), .own 257 0])], 705⟩
theorem Codes_Door_l3_inj (p q : ((Sq Int) × Int) × (Int × Int × (Sq Int))) (h : Codes_Door_l3_s p = Codes_Door_l3_s q) : p = q :=
  Prod.ext (Prod.ext (Sq.av_inj intE_u8 (a := p.1.1) (b := q.1.1) (congrArg (fun x : St => cellS x 0 0) h)) (show p.1.2 = q.1.2 from congrArg intA (congrArg (fun x : St => cellS x 385 0) h))) (Prod.ext (show p.2.1 = q.2.1 from congrArg intA (congrArg (fun x : St => aget x.tm 6) h)) (Prod.ext (show p.2.2.1 = q.2.2.1 from congrArg intA (congrArg (fun x : St => cellS x 0 1) h)) (Sq.row_inj intE_i64 (a := p.2.2.2) (b := q.2.2.2) (congrArg (fun x : St => blkS x 257) h))))
noncomputable def Codes_Door_l3_step (v3_1 : (Sq Int)) (_v3_4 : Int) (n_3_0 : Int) (v3_2 : Int) (v3_3 : (Sq Int)) : DT (LR (Int × Int × (Sq Int)) (Int × (Sq Int)) (Unit)) :=
  .ite (decide (n_3_0 > (0 : Int))) (
    .ite (decide ((0 : Int) ≤ (wr (((v3_3.n : Nat) : Int) - (1 : Int))) ∧ (wr (((v3_3.n : Nat) : Int) - (1 : Int))) < ((v3_3.n : Nat) : Int))) (
      .bind (Codes_Range (SCodes.mk v3_1 v3_2) (1 : Int) (60 : Int)) fun z674 =>
      .ite (decide ((v3_3.n + 1) * 8 ≤ 140737488355328 ∧ (v3_3.n + 1) ≤ 1099511627776)) (
        .leaf (.next ((wr (n_3_0 - (1 : Int))), z674.2, (Sq.mk (v3_3.n + 1) (fun k675 => (cond (Nat.blt k675 v3_3.n) (v3_3.f k675) (if (0 : Int) < (wr ((v3_3.f (Int.toNat (wr (((v3_3.n : Nat) : Int) - (1 : Int))))) - z674.1)) then (wr ((v3_3.f (Int.toNat (wr (((v3_3.n : Nat) : Int) - (1 : Int))))) - z674.1)) else (0 : Int)))))))) (
        .fail)) (
      .fail)) (
    .leaf (.l (v3_2, v3_3)))
def Codes_Door_l3_el (x : St) (a : Int × (Sq Int)) : St := ⟨[(4, .ptr 1 0), (5, .ptr 385 0)], [(0, .var [cellS x 0 0, .int .i64 a.1]), (1, .var [.int .i64 (0 : Int), .int .i64 (0 : Int), .own 2 0]), (2, .nilrow 0), (257, .row 0 1 a.2.n 3 (fun k2494 => [.int .i64 (a.2.f k2494)])), (385, blkS x 385)], 705⟩
def Codes_Door_l3_er (_ : St) (_ : Unit) : St := ⟨[], [], 0⟩
noncomputable def Codes_Door_l3_f (p : ((Sq Int) × Int) × (Int × Int × (Sq Int))) : Option ((Int × (Sq Int)) ⊕ (Unit)) := fixO (fun v : Int × Int × (Sq Int) => Codes_Door_l3_step p.1.1 p.1.2 v.1 v.2.1 v.2.2) p.2
noncomputable def Codes_Door_l3_c : St → Option LRes := loopM Codes_Door_l3_s Codes_Door_l3_f true (.exit 0) Codes_Door_l3_el .ret Codes_Door_l3_er
noncomputable def Codes_Door_l3 (v3_1 : (Sq Int)) (v3_4 : Int) (n_3_0 : Int) (v3_2 : Int) (v3_3 : (Sq Int)) : Option ((Int × (Sq Int)) ⊕ (Unit)) := gOfS Codes_Door_l3_s Codes_Door_l3_f (Codes_Door_l3_s ((v3_1, v3_4), (n_3_0, v3_2, v3_3)))
theorem Codes_Door_l3_eq (v3_1 : (Sq Int)) (v3_4 : Int) (n_3_0 : Int) (v3_2 : Int) (v3_3 : (Sq Int)) : Codes_Door_l3 v3_1 v3_4 n_3_0 v3_2 v3_3 = fixO (fun v : Int × Int × (Sq Int) => Codes_Door_l3_step v3_1 v3_4 v.1 v.2.1 v.2.2) (n_3_0, v3_2, v3_3) := gOfS_eq Codes_Door_l3_inj Codes_Door_l3_f ((v3_1, v3_4), (n_3_0, v3_2, v3_3))
noncomputable def Codes_Door_t (c : SCodes) (road : Int) : DT (SDoor × Int) :=
  .bind (Codes_Range c (200 : Int) (900 : Int)) fun z669 =>
  .bind (Codes_Range (SCodes.mk c.l_ z669.2) (1 : Int) (3 : Int)) fun z670 =>
  .sum (Codes_Door_l3 c.l_ road z670.1 z670.2 (Sq.mk 1 (fun _ => z669.1))) (fun y676 =>
    .leaf ((SDoor.mk road (-1 : Int) y676.2), y676.1)) (fun _ =>
    .fail)
def Codes_Door_av (r : SDoor × Int) : AV := .agg [.int .i64 r.1.Road, .int .i64 r.1.Other, .own 1 0]
def Codes_Door_outs (ins : List Blk) (r : SDoor × Int) : List Blk := [.var [cellB ins 0 0, .int .i64 r.2], .row 0 1 r.1.Rests.n 3 (fun k2495 => [.int .i64 (r.1.Rests.f k2495)])]
noncomputable def c_Codes_Door : List AV → List Blk → Option Ans := told Codes_Door_enc (fun p => (Codes_Door_t p.1 p.2).get) Codes_Door_av Codes_Door_outs false (fun h => by cases h)
noncomputable def Codes_Door_env : Env := { envS (fun f => match f with
  | 30 => c_Codes_Range
  | _ => fun _ _ => none) (fun r => match r with | 3 => some ([0, 4, 5, 6], [4, 5]) | _ => none) with loops := fun r => match r with | 3 => some Codes_Door_l3_c | _ => none, gc := fun r => match r with | 3 => some [0, 1, 2, 257, 385] | _ => none, mm := some 1 }
theorem Codes_Door_env_ok : ∀ f, Tells Try.prog f (Codes_Door_env.fs f) := by
  intro f
  by_cases h0 : f = 30
  · subst h0; exact Codes_Range_tells
  have : Codes_Door_env.fs f = fun _ _ => none := by
    unfold Codes_Door_env envS
    dsimp only
    split
    · exact absurd rfl h0
    · rfl
  rw [this]
  exact Tells.none_ f
noncomputable def Codes_Door_e : Env := { Codes_Door_env with nt := 36 }
noncomputable def Codes_Door_l3_b : Code := loopOf 3 Try.f14
theorem Codes_Door_l3_round {R : Type} (fx : (Sq Int) × Int) (v : Int × Int × (Sq Int)) (N : Nat) (K : AX → St → Option R) : aloop (fun s j => aexec Codes_Door_e Codes_Door_l3_b s j) (headOf Codes_Door_e Codes_Door_l3_b 705) (exitOf Codes_Door_e Codes_Door_l3_b 705) (N + 1) (Codes_Door_l3_s (fx, v)) K = (Codes_Door_l3_step fx.1 fx.2 v.1 v.2.1 v.2.2).run (LR.elim
    (fun v' => aloop (fun s j => aexec Codes_Door_e Codes_Door_l3_b s j) (headOf Codes_Door_e Codes_Door_l3_b 705) (exitOf Codes_Door_e Codes_Door_l3_b 705) N (Codes_Door_l3_s (fx, v')) K)
    (fun a => K (.exit 0) (Codes_Door_l3_el (Codes_Door_l3_s (fx, v)) a))
    (fun a => K .ret (Codes_Door_l3_er (Codes_Door_l3_s (fx, v)) a))) := by kernel_rfl
theorem Codes_Door_l3_tells : LoopTells Codes_Door_e Codes_Door_l3_b Codes_Door_l3_c :=
  loopM_tells (s := Codes_Door_l3_s) (stl := Codes_Door_l3_el) (str := Codes_Door_l3_er) (step := fun (fx : (Sq Int) × Int) (v : Int × Int × (Sq Int)) => Codes_Door_l3_step fx.1 fx.2 v.1 v.2.1 v.2.2) (n := 705) (fun _ => rfl) (fun _ _ _ _ => rfl) (fun _ _ _ _ => rfl) Codes_Door_l3_round
theorem Codes_Door_run (p : SCodes × Int) : arun Codes_Door_env Try.f14 (Codes_Door_enc p).1 (Codes_Door_enc p).2 = (Codes_Door_t p.1 p.2).run fun r => some (Codes_Door_av r, Codes_Door_outs (Codes_Door_enc p).2 r) := by kernel_rfl
theorem Codes_Door_loops : ∀ c, Try.f14.body = some c → LoopsOK { Codes_Door_env with nt := Try.f14.ntmps } c := by
  intro c hc
  refine loops_of c fun c' hc' f hf => ?_
  have hb : loopsOf c = [Codes_Door_l3_b] := by
    have : Try.f14.body.map loopsOf = some [Codes_Door_l3_b] := by kernel_rfl
    rw [hc] at this
    injection this
  rw [hb] at hc'
  clear hb
  obtain rfl := List.mem_singleton.1 hc'
  have h6 : firstReg Codes_Door_l3_b = 3 := by kernel_rfl
  rw [h6] at hf
  obtain rfl := Option.some.inj hf
  exact Codes_Door_l3_tells
attribute [local irreducible] arun in
theorem Codes_Door_tells : Tells Try.prog 14 c_Codes_Door :=
  told_tells (E := Codes_Door_env) (enc := Codes_Door_enc) (av := Codes_Door_av) (outs := Codes_Door_outs) (t := fun p : SCodes × Int => Codes_Door_t p.1 p.2) (by kernel_rfl) Codes_Door_env_ok Try.func14 Codes_Door_loops Codes_Door_run
noncomputable def Codes_Door (c : SCodes) (road : Int) : Option (SDoor × Int) := gOfA Codes_Door_enc (fun p => (Codes_Door_t p.1 p.2).get) (Codes_Door_encC c road).1 (Codes_Door_encC c road).2
theorem Codes_Door_eq (c : SCodes) (road : Int) : Codes_Door c road = (Codes_Door_t c road).get := congrFun (gOfA_eq Codes_Door_inj (fun p => (Codes_Door_t p.1 p.2).get)) (c, road)

/-! ### (*minecontrol/minecontroldraw.Codes).equipped -/
def Codes_equipped_encC (c : SCodes) (a : SAir) : List AV × List Blk := ([.ptr 0 0, .ptr 1 0], [.var [.slc 1 c.l_.n (fun k2496 => [.int .u8 (c.l_.f k2496)]), .int .i64 c.at_], .var [.own 2 0, .own 3 0, .own 4 0, .own 5 0], .row 0 2 a.Mine.Places.n 70 (fun k2497 => (SPlace.enc (a.Mine.Places.f k2497))), .row 0 10 a.Mine.Roads.n 64 (fun k2498 => (SRoad.enc (a.Mine.Roads.f k2498))), .row 0 4 a.Fans.n 44 (fun k2499 => (SFan.enc (a.Fans.f k2499))), .row 0 3 a.Doors.n 46 (fun k2500 => (SDoor.enc (a.Doors.f k2500)))])
def Codes_equipped_enc (p : SCodes × SAir) : List AV × List Blk := Codes_equipped_encC p.1 p.2
theorem Codes_equipped_inj (p q : SCodes × SAir) (h : Codes_equipped_enc p = Codes_equipped_enc q) : p = q :=
  (Prod.ext (SCodes.ext2 (Sq.av_inj intE_u8 (a := p.1.l_) (b := q.1.l_) (congrArg (fun x : List AV × List Blk => cellB x.2 0 0) h)) (show p.1.at_ = q.1.at_ from congrArg intA (congrArg (fun x : List AV × List Blk => cellB x.2 0 1) h))) (SAir.ext2 (SMine.ext2 (Sq.row_inj SPlace.inj (a := p.2.Mine.Places) (b := q.2.Mine.Places) (congrArg (fun x : List AV × List Blk => x.2.getD 2 (.dead 0)) h)) (Sq.row_inj SRoad.inj (a := p.2.Mine.Roads) (b := q.2.Mine.Roads) (congrArg (fun x : List AV × List Blk => x.2.getD 3 (.dead 0)) h))) (Sq.row_inj SFan.inj (a := p.2.Fans) (b := q.2.Fans) (congrArg (fun x : List AV × List Blk => x.2.getD 4 (.dead 0)) h)) (Sq.row_inj SDoor.inj (a := p.2.Doors) (b := q.2.Doors) (congrArg (fun x : List AV × List Blk => x.2.getD 5 (.dead 0)) h))))
def Codes_equipped_l4_s (p : ((Sq Int) × (Sq SPlace) × (Sq SRoad) × (Sq SDoor)) × (Int × Int × (Sq SFan) × (Sq Int))) : St := ⟨[(0, .ptr 0 0), (1, .ptr 1 0), (4, .ptr 6 0), (5, .ptr 70 0), (6, .int .i64 ((p.1.2.2.1.n : Nat) : Int)), (7, .int .i64 p.2.1)], [(0, .var [.slc 1 p.1.1.n (fun k2501 => [.int .u8 (p.1.1.f k2501)]), .int .i64 p.2.2.1]), (1, .var [.own 2 0, .own 3 0, .own 4 0, .own 5 0]), (2, .row 0 2 p.1.2.1.n 70 (fun k2502 => (SPlace.enc (p.1.2.1.f k2502)))), (3, .row 0 10 p.1.2.2.1.n 64 (fun k2503 => (SRoad.enc (p.1.2.2.1.f k2503)))), (4, .row 0 4 p.2.2.2.1.n 44 (fun k2504 => (SFan.enc (p.2.2.2.1.f k2504)))), (5, .row 0 3 p.1.2.2.2.n 46 (fun k2505 => (SDoor.enc (p.1.2.2.2.f k2505)))), (6, .var [.own 7 0, .own 8 0]), (7, .nilrow 0), (8, .nilrow 0), (70, .var [.own 71 0, .own 72 0]), (71, .row 0 1 p.2.2.2.2.n 3 (fun k2506 => [.int .i64 (p.2.2.2.2.f k2506)])), (72, .nilrow 0)], 774⟩
theorem Codes_equipped_l4_inj (p q : ((Sq Int) × (Sq SPlace) × (Sq SRoad) × (Sq SDoor)) × (Int × Int × (Sq SFan) × (Sq Int))) (h : Codes_equipped_l4_s p = Codes_equipped_l4_s q) : p = q :=
  Prod.ext (Prod.ext (Sq.av_inj intE_u8 (a := p.1.1) (b := q.1.1) (congrArg (fun x : St => cellS x 0 0) h)) (Prod.ext (Sq.row_inj SPlace.inj (a := p.1.2.1) (b := q.1.2.1) (congrArg (fun x : St => blkS x 2) h)) (Prod.ext (Sq.row_inj SRoad.inj (a := p.1.2.2.1) (b := q.1.2.2.1) (congrArg (fun x : St => blkS x 3) h)) (Sq.row_inj SDoor.inj (a := p.1.2.2.2) (b := q.1.2.2.2) (congrArg (fun x : St => blkS x 5) h))))) (Prod.ext (show p.2.1 = q.2.1 from congrArg intA (congrArg (fun x : St => aget x.tm 7) h)) (Prod.ext (show p.2.2.1 = q.2.2.1 from congrArg intA (congrArg (fun x : St => cellS x 0 1) h)) (Prod.ext (Sq.row_inj SFan.inj (a := p.2.2.2.1) (b := q.2.2.2.1) (congrArg (fun x : St => blkS x 4) h)) (Sq.row_inj intE_i64 (a := p.2.2.2.2) (b := q.2.2.2.2) (congrArg (fun x : St => blkS x 71) h)))))
noncomputable def Codes_equipped_l4_step (v4_2 : (Sq Int)) (_v4_4 : (Sq SPlace)) (v4_5 : (Sq SRoad)) (_v4_7 : (Sq SDoor)) (n_4_1 : Int) (v4_3 : Int) (v4_6 : (Sq SFan)) (v4_8 : (Sq Int)) : DT (LR (Int × Int × (Sq SFan) × (Sq Int)) (Int × (Sq SFan) × (Sq Int)) (Unit)) :=
  .ite (decide (n_4_1 > (0 : Int))) (
    .ite (decide (((v4_5.n : Nat) : Int) > (0 : Int))) (
      .bind (Codes_Next (SCodes.mk v4_2 v4_3) ((v4_5.n : Nat) : Int)) fun z764 =>
      .bind (Codes_One (SCodes.mk v4_2 z764.2) (3 : Int)) fun z765 =>
      .bind (Codes_One (SCodes.mk v4_2 z765.2) (3 : Int)) fun z766 =>
      .bind (Codes_Curve (SCodes.mk v4_2 z766.2)) fun z767 =>
      .ite (decide ((v4_6.n + 1) * 40 ≤ 140737488355328 ∧ (v4_6.n + 1) ≤ 1099511627776)) (
        .bind (Codes_Next (SCodes.mk v4_2 z767.2) (3 : Int)) fun z768 =>
        .ite (decide ((v4_8.n + 1) * 8 ≤ 140737488355328 ∧ (v4_8.n + 1) ≤ 1099511627776)) (
          .leaf (.next ((wr (n_4_1 - (1 : Int))), z768.2, (Sq.mk (v4_6.n + 1) (fun k769 => (SFan.mk (cond (Nat.blt k769 v4_6.n) (v4_6.f k769).Road z764.1) (cond (Nat.blt k769 v4_6.n) (v4_6.f k769).Back z765.1) (cond (Nat.blt k769 v4_6.n) (v4_6.f k769).Auxiliary z766.1) (Sq.mk (cond (Nat.blt k769 v4_6.n) (v4_6.f k769).Curve.n z767.1.n) (fun k770 => (SPoint.mk (cond (Nat.blt k769 v4_6.n) ((v4_6.f k769).Curve.f k770).Flow (z767.1.f k770).Flow) (cond (Nat.blt k769 v4_6.n) ((v4_6.f k769).Curve.f k770).Pressure (z767.1.f k770).Pressure))))))), (Sq.mk (v4_8.n + 1) (fun k771 => (cond (Nat.blt k771 v4_8.n) (v4_8.f k771) z768.1)))))) (
          .fail)) (
        .fail)) (
      .leaf (.l (v4_3, v4_6, v4_8)))) (
    .leaf (.l (v4_3, v4_6, v4_8)))
def Codes_equipped_l4_el (x : St) (a : Int × (Sq SFan) × (Sq Int)) : St := ⟨[(0, .ptr 0 0), (1, .ptr 1 0), (4, .ptr 6 0), (5, .ptr 70 0), (6, aget x.tm 6)], [(0, .var [cellS x 0 0, .int .i64 a.1]), (1, .var [.own 2 0, .own 3 0, .own 4 0, .own 5 0]), (2, blkS x 2), (3, blkS x 3), (4, .row 0 4 a.2.1.n 44 (fun k2507 => (SFan.enc (a.2.1.f k2507)))), (5, blkS x 5), (6, .var [.own 7 0, .own 8 0]), (7, .nilrow 0), (8, .nilrow 0), (70, .var [.own 71 0, .own 72 0]), (71, .row 0 1 a.2.2.n 3 (fun k2508 => [.int .i64 (a.2.2.f k2508)])), (72, .nilrow 0)], 774⟩
def Codes_equipped_l4_er (_ : St) (_ : Unit) : St := ⟨[], [], 0⟩
noncomputable def Codes_equipped_l4_f (p : ((Sq Int) × (Sq SPlace) × (Sq SRoad) × (Sq SDoor)) × (Int × Int × (Sq SFan) × (Sq Int))) : Option ((Int × (Sq SFan) × (Sq Int)) ⊕ (Unit)) := fixO (fun v : Int × Int × (Sq SFan) × (Sq Int) => Codes_equipped_l4_step p.1.1 p.1.2.1 p.1.2.2.1 p.1.2.2.2 v.1 v.2.1 v.2.2.1 v.2.2.2) p.2
noncomputable def Codes_equipped_l4_c : St → Option LRes := loopM Codes_equipped_l4_s Codes_equipped_l4_f true (.exit 0) Codes_equipped_l4_el .ret Codes_equipped_l4_er
noncomputable def Codes_equipped_l4 (v4_2 : (Sq Int)) (v4_4 : (Sq SPlace)) (v4_5 : (Sq SRoad)) (v4_7 : (Sq SDoor)) (n_4_1 : Int) (v4_3 : Int) (v4_6 : (Sq SFan)) (v4_8 : (Sq Int)) : Option ((Int × (Sq SFan) × (Sq Int)) ⊕ (Unit)) := gOfS Codes_equipped_l4_s Codes_equipped_l4_f (Codes_equipped_l4_s ((v4_2, v4_4, v4_5, v4_7), (n_4_1, v4_3, v4_6, v4_8)))
theorem Codes_equipped_l4_eq (v4_2 : (Sq Int)) (v4_4 : (Sq SPlace)) (v4_5 : (Sq SRoad)) (v4_7 : (Sq SDoor)) (n_4_1 : Int) (v4_3 : Int) (v4_6 : (Sq SFan)) (v4_8 : (Sq Int)) : Codes_equipped_l4 v4_2 v4_4 v4_5 v4_7 n_4_1 v4_3 v4_6 v4_8 = fixO (fun v : Int × Int × (Sq SFan) × (Sq Int) => Codes_equipped_l4_step v4_2 v4_4 v4_5 v4_7 v.1 v.2.1 v.2.2.1 v.2.2.2) (n_4_1, v4_3, v4_6, v4_8) := gOfS_eq Codes_equipped_l4_inj Codes_equipped_l4_f ((v4_2, v4_4, v4_5, v4_7), (n_4_1, v4_3, v4_6, v4_8))
def Codes_equipped_l9_s (p : ((Sq Int) × (Sq SPlace) × (Sq SRoad) × (Sq SFan) × (Sq Int)) × (Int × Int × (Sq SDoor) × (Sq Int))) : St := ⟨[(0, .ptr 0 0), (1, .ptr 1 0), (4, .ptr 6 0), (5, .ptr 70 0), (6, .int .i64 ((p.1.2.2.1.n : Nat) : Int)), (8, .int .i64 p.2.1)], [(0, .var [.slc 1 p.1.1.n (fun k2509 => [.int .u8 (p.1.1.f k2509)]), .int .i64 p.2.2.1]), (1, .var [.own 2 0, .own 3 0, .own 4 0, .own 5 0]), (2, .row 0 2 p.1.2.1.n 70 (fun k2510 => (SPlace.enc (p.1.2.1.f k2510)))), (3, .row 0 10 p.1.2.2.1.n 64 (fun k2511 => (SRoad.enc (p.1.2.2.1.f k2511)))), (4, .row 0 4 p.1.2.2.2.1.n 44 (fun k2512 => (SFan.enc (p.1.2.2.2.1.f k2512)))), (5, .row 0 3 p.2.2.2.1.n 46 (fun k2513 => (SDoor.enc (p.2.2.2.1.f k2513)))), (6, .var [.own 7 0, .own 8 0]), (7, .nilrow 0), (8, .nilrow 0), (70, .var [.own 71 0, .own 72 0]), (71, .row 0 1 p.1.2.2.2.2.n 3 (fun k2514 => [.int .i64 (p.1.2.2.2.2.f k2514)])), (72, .row 0 1 p.2.2.2.2.n 3 (fun k2515 => [.int .i64 (p.2.2.2.2.f k2515)]))], 966⟩
theorem Codes_equipped_l9_inj (p q : ((Sq Int) × (Sq SPlace) × (Sq SRoad) × (Sq SFan) × (Sq Int)) × (Int × Int × (Sq SDoor) × (Sq Int))) (h : Codes_equipped_l9_s p = Codes_equipped_l9_s q) : p = q :=
  Prod.ext (Prod.ext (Sq.av_inj intE_u8 (a := p.1.1) (b := q.1.1) (congrArg (fun x : St => cellS x 0 0) h)) (Prod.ext (Sq.row_inj SPlace.inj (a := p.1.2.1) (b := q.1.2.1) (congrArg (fun x : St => blkS x 2) h)) (Prod.ext (Sq.row_inj SRoad.inj (a := p.1.2.2.1) (b := q.1.2.2.1) (congrArg (fun x : St => blkS x 3) h)) (Prod.ext (Sq.row_inj SFan.inj (a := p.1.2.2.2.1) (b := q.1.2.2.2.1) (congrArg (fun x : St => blkS x 4) h)) (Sq.row_inj intE_i64 (a := p.1.2.2.2.2) (b := q.1.2.2.2.2) (congrArg (fun x : St => blkS x 71) h)))))) (Prod.ext (show p.2.1 = q.2.1 from congrArg intA (congrArg (fun x : St => aget x.tm 8) h)) (Prod.ext (show p.2.2.1 = q.2.2.1 from congrArg intA (congrArg (fun x : St => cellS x 0 1) h)) (Prod.ext (Sq.row_inj SDoor.inj (a := p.2.2.2.1) (b := q.2.2.2.1) (congrArg (fun x : St => blkS x 5) h)) (Sq.row_inj intE_i64 (a := p.2.2.2.2) (b := q.2.2.2.2) (congrArg (fun x : St => blkS x 72) h)))))
noncomputable def Codes_equipped_l9_step (v9_2 : (Sq Int)) (_v9_4 : (Sq SPlace)) (v9_5 : (Sq SRoad)) (_v9_6 : (Sq SFan)) (_v9_8 : (Sq Int)) (n_9_1 : Int) (v9_3 : Int) (v9_7 : (Sq SDoor)) (v9_9 : (Sq Int)) : DT (LR (Int × Int × (Sq SDoor) × (Sq Int)) (Int × (Sq SDoor) × (Sq Int)) (Unit)) :=
  .ite (decide (n_9_1 > (0 : Int))) (
    .ite (decide (((v9_5.n : Nat) : Int) > (0 : Int))) (
      .bind (Codes_Next (SCodes.mk v9_2 v9_3) ((v9_5.n : Nat) : Int)) fun z774 =>
      .bind (Codes_Door (SCodes.mk v9_2 z774.2) z774.1) fun z775 =>
      .ite (decide ((v9_7.n + 1) * 40 ≤ 140737488355328 ∧ (v9_7.n + 1) ≤ 1099511627776)) (
        .bind (Codes_Next (SCodes.mk v9_2 z775.2) ((z775.1.Rests.n : Nat) : Int)) fun z776 =>
        .ite (decide ((v9_9.n + 1) * 8 ≤ 140737488355328 ∧ (v9_9.n + 1) ≤ 1099511627776)) (
          .leaf (.next ((wr (n_9_1 - (1 : Int))), z776.2, (Sq.mk (v9_7.n + 1) (fun k777 => (SDoor.mk (cond (Nat.blt k777 v9_7.n) (v9_7.f k777).Road z775.1.Road) (cond (Nat.blt k777 v9_7.n) (v9_7.f k777).Other z775.1.Other) (Sq.mk (cond (Nat.blt k777 v9_7.n) (v9_7.f k777).Rests.n z775.1.Rests.n) (fun k778 => (cond (Nat.blt k777 v9_7.n) ((v9_7.f k777).Rests.f k778) (z775.1.Rests.f k778))))))), (Sq.mk (v9_9.n + 1) (fun k779 => (cond (Nat.blt k779 v9_9.n) (v9_9.f k779) z776.1)))))) (
          .fail)) (
        .fail)) (
      .leaf (.l (v9_3, v9_7, v9_9)))) (
    .leaf (.l (v9_3, v9_7, v9_9)))
def Codes_equipped_l9_el (x : St) (a : Int × (Sq SDoor) × (Sq Int)) : St := ⟨[(4, .ptr 6 0), (5, .ptr 70 0)], [(0, .var [cellS x 0 0, .int .i64 a.1]), (1, .var [.own 2 0, .own 3 0, .own 4 0, .own 5 0]), (2, blkS x 2), (3, blkS x 3), (4, blkS x 4), (5, .row 0 3 a.2.1.n 46 (fun k2516 => (SDoor.enc (a.2.1.f k2516)))), (6, .var [.own 7 0, .own 8 0]), (7, .nilrow 0), (8, .nilrow 0), (70, .var [.own 71 0, .own 72 0]), (71, blkS x 71), (72, .row 0 1 a.2.2.n 3 (fun k2517 => [.int .i64 (a.2.2.f k2517)]))], 966⟩
def Codes_equipped_l9_er (_ : St) (_ : Unit) : St := ⟨[], [], 0⟩
noncomputable def Codes_equipped_l9_f (p : ((Sq Int) × (Sq SPlace) × (Sq SRoad) × (Sq SFan) × (Sq Int)) × (Int × Int × (Sq SDoor) × (Sq Int))) : Option ((Int × (Sq SDoor) × (Sq Int)) ⊕ (Unit)) := fixO (fun v : Int × Int × (Sq SDoor) × (Sq Int) => Codes_equipped_l9_step p.1.1 p.1.2.1 p.1.2.2.1 p.1.2.2.2.1 p.1.2.2.2.2 v.1 v.2.1 v.2.2.1 v.2.2.2) p.2
noncomputable def Codes_equipped_l9_c : St → Option LRes := loopM Codes_equipped_l9_s Codes_equipped_l9_f true (.exit 2) Codes_equipped_l9_el .ret Codes_equipped_l9_er
noncomputable def Codes_equipped_l9 (v9_2 : (Sq Int)) (v9_4 : (Sq SPlace)) (v9_5 : (Sq SRoad)) (v9_6 : (Sq SFan)) (v9_8 : (Sq Int)) (n_9_1 : Int) (v9_3 : Int) (v9_7 : (Sq SDoor)) (v9_9 : (Sq Int)) : Option ((Int × (Sq SDoor) × (Sq Int)) ⊕ (Unit)) := gOfS Codes_equipped_l9_s Codes_equipped_l9_f (Codes_equipped_l9_s ((v9_2, v9_4, v9_5, v9_6, v9_8), (n_9_1, v9_3, v9_7, v9_9)))
theorem Codes_equipped_l9_eq (v9_2 : (Sq Int)) (v9_4 : (Sq SPlace)) (v9_5 : (Sq SRoad)) (v9_6 : (Sq SFan)) (v9_8 : (Sq Int)) (n_9_1 : Int) (v9_3 : Int) (v9_7 : (Sq SDoor)) (v9_9 : (Sq Int)) : Codes_equipped_l9 v9_2 v9_4 v9_5 v9_6 v9_8 n_9_1 v9_3 v9_7 v9_9 = fixO (fun v : Int × Int × (Sq SDoor) × (Sq Int) => Codes_equipped_l9_step v9_2 v9_4 v9_5 v9_6 v9_8 v.1 v.2.1 v.2.2.1 v.2.2.2) (n_9_1, v9_3, v9_7, v9_9) := gOfS_eq Codes_equipped_l9_inj Codes_equipped_l9_f ((v9_2, v9_4, v9_5, v9_6, v9_8), (n_9_1, v9_3, v9_7, v9_9))
noncomputable def Codes_equipped_t (c : SCodes) (a : SAir) : DT (SSetting × Int × (Sq SFan) × (Sq SDoor)) :=
  .bind (Codes_Next c (3 : Int)) fun z763 =>
  .sum (Codes_equipped_l4 c.l_ a.Mine.Places a.Mine.Roads a.Doors z763.1 z763.2 a.Fans (Sq.mk 0 (fun _ => (0 : Int)))) (fun y772 =>
    .bind (Codes_Next (SCodes.mk c.l_ y772.1) (3 : Int)) fun z773 =>
    .sum (Codes_equipped_l9 c.l_ a.Mine.Places a.Mine.Roads y772.2.1 y772.2.2 z773.1 z773.2 a.Doors (Sq.mk 0 (fun _ => (0 : Int)))) (fun y780 =>
      .leaf ((SSetting.mk y772.2.2 y780.2.2), y780.1, y772.2.1, y780.2.1)) (fun _ =>
      .fail)) (fun _ =>
    .fail)
def Codes_equipped_av (_ : SSetting × Int × (Sq SFan) × (Sq SDoor)) : AV := .agg [.own 6 0, .own 7 0]
def Codes_equipped_outs (ins : List Blk) (r : SSetting × Int × (Sq SFan) × (Sq SDoor)) : List Blk := [.var [cellB ins 0 0, .int .i64 r.2.1], ins.getD 1 (.dead 0), ins.getD 2 (.dead 0), ins.getD 3 (.dead 0), .row 0 4 r.2.2.1.n 44 (fun k2518 => (SFan.enc (r.2.2.1.f k2518))), .row 0 3 r.2.2.2.n 46 (fun k2519 => (SDoor.enc (r.2.2.2.f k2519))), .row 0 1 r.1.Fans.n 3 (fun k2520 => [.int .i64 (r.1.Fans.f k2520)]), .row 0 1 r.1.Doors.n 3 (fun k2521 => [.int .i64 (r.1.Doors.f k2521)])]
noncomputable def c_Codes_equipped : List AV → List Blk → Option Ans := told Codes_equipped_enc (fun p => (Codes_equipped_t p.1 p.2).get) Codes_equipped_av Codes_equipped_outs false (fun h => by cases h)
noncomputable def Codes_equipped_env : Env := { envS (fun f => match f with
  | 12 => c_Codes_Next
  | 29 => c_Codes_One
  | 13 => c_Codes_Curve
  | 14 => c_Codes_Door
  | _ => fun _ _ => none) (fun r => match r with | 4 => some ([0, 1, 4, 5, 6, 7], [0, 1, 4, 5, 6]) | 9 => some ([0, 1, 4, 5, 6, 8], [4, 5]) | _ => none) with loops := fun r => match r with | 4 => some Codes_equipped_l4_c | 9 => some Codes_equipped_l9_c | _ => none, pre := fun r => match r with | 1000004 => [.asrow 71 3 1 (fun _ => [.int .i64 (0 : Int)])] | 12 => [.freeze 1606] | 1000009 => [.asrow 72 3 1 (fun _ => [.int .i64 (0 : Int)])] | _ => [], gc := fun r => match r with | 4 => some [0, 1, 2, 3, 4, 5, 6, 7, 8, 70, 71, 72] | 9 => some [0, 1, 2, 3, 4, 5, 6, 7, 8, 70, 71, 72] | _ => none, mm := some 6 }
theorem Codes_equipped_env_ok : ∀ f, Tells Try.prog f (Codes_equipped_env.fs f) := by
  intro f
  by_cases h0 : f = 12
  · subst h0; exact Codes_Next_tells
  by_cases h1 : f = 29
  · subst h1; exact Codes_One_tells
  by_cases h2 : f = 13
  · subst h2; exact Codes_Curve_tells
  by_cases h3 : f = 14
  · subst h3; exact Codes_Door_tells
  have : Codes_equipped_env.fs f = fun _ _ => none := by
    unfold Codes_equipped_env envS
    dsimp only
    split
    · exact absurd rfl h0
    · exact absurd rfl h1
    · exact absurd rfl h2
    · exact absurd rfl h3
    · rfl
  rw [this]
  exact Tells.none_ f
noncomputable def Codes_equipped_e : Env := { Codes_equipped_env with nt := 88 }
noncomputable def Codes_equipped_l4_b : Code := loopOf 4 Try.f32
theorem Codes_equipped_l4_round {R : Type} (fx : (Sq Int) × (Sq SPlace) × (Sq SRoad) × (Sq SDoor)) (v : Int × Int × (Sq SFan) × (Sq Int)) (N : Nat) (K : AX → St → Option R) : aloop (fun s j => aexec Codes_equipped_e Codes_equipped_l4_b s j) (headOf Codes_equipped_e Codes_equipped_l4_b 774) (exitOf Codes_equipped_e Codes_equipped_l4_b 774) (N + 1) (Codes_equipped_l4_s (fx, v)) K = (Codes_equipped_l4_step fx.1 fx.2.1 fx.2.2.1 fx.2.2.2 v.1 v.2.1 v.2.2.1 v.2.2.2).run (LR.elim
    (fun v' => aloop (fun s j => aexec Codes_equipped_e Codes_equipped_l4_b s j) (headOf Codes_equipped_e Codes_equipped_l4_b 774) (exitOf Codes_equipped_e Codes_equipped_l4_b 774) N (Codes_equipped_l4_s (fx, v')) K)
    (fun a => K (.exit 0) (Codes_equipped_l4_el (Codes_equipped_l4_s (fx, v)) a))
    (fun a => K .ret (Codes_equipped_l4_er (Codes_equipped_l4_s (fx, v)) a))) := by kernel_rfl
theorem Codes_equipped_l4_tells : LoopTells Codes_equipped_e Codes_equipped_l4_b Codes_equipped_l4_c :=
  loopM_tells (s := Codes_equipped_l4_s) (stl := Codes_equipped_l4_el) (str := Codes_equipped_l4_er) (step := fun (fx : (Sq Int) × (Sq SPlace) × (Sq SRoad) × (Sq SDoor)) (v : Int × Int × (Sq SFan) × (Sq Int)) => Codes_equipped_l4_step fx.1 fx.2.1 fx.2.2.1 fx.2.2.2 v.1 v.2.1 v.2.2.1 v.2.2.2) (n := 774) (fun _ => rfl) (fun _ _ _ _ => rfl) (fun _ _ _ _ => rfl) Codes_equipped_l4_round
noncomputable def Codes_equipped_l9_b : Code := loopOf 9 Try.f32
theorem Codes_equipped_l9_round {R : Type} (fx : (Sq Int) × (Sq SPlace) × (Sq SRoad) × (Sq SFan) × (Sq Int)) (v : Int × Int × (Sq SDoor) × (Sq Int)) (N : Nat) (K : AX → St → Option R) : aloop (fun s j => aexec Codes_equipped_e Codes_equipped_l9_b s j) (headOf Codes_equipped_e Codes_equipped_l9_b 966) (exitOf Codes_equipped_e Codes_equipped_l9_b 966) (N + 1) (Codes_equipped_l9_s (fx, v)) K = (Codes_equipped_l9_step fx.1 fx.2.1 fx.2.2.1 fx.2.2.2.1 fx.2.2.2.2 v.1 v.2.1 v.2.2.1 v.2.2.2).run (LR.elim
    (fun v' => aloop (fun s j => aexec Codes_equipped_e Codes_equipped_l9_b s j) (headOf Codes_equipped_e Codes_equipped_l9_b 966) (exitOf Codes_equipped_e Codes_equipped_l9_b 966) N (Codes_equipped_l9_s (fx, v')) K)
    (fun a => K (.exit 2) (Codes_equipped_l9_el (Codes_equipped_l9_s (fx, v)) a))
    (fun a => K .ret (Codes_equipped_l9_er (Codes_equipped_l9_s (fx, v)) a))) := by kernel_rfl
theorem Codes_equipped_l9_tells : LoopTells Codes_equipped_e Codes_equipped_l9_b Codes_equipped_l9_c :=
  loopM_tells (s := Codes_equipped_l9_s) (stl := Codes_equipped_l9_el) (str := Codes_equipped_l9_er) (step := fun (fx : (Sq Int) × (Sq SPlace) × (Sq SRoad) × (Sq SFan) × (Sq Int)) (v : Int × Int × (Sq SDoor) × (Sq Int)) => Codes_equipped_l9_step fx.1 fx.2.1 fx.2.2.1 fx.2.2.2.1 fx.2.2.2.2 v.1 v.2.1 v.2.2.1 v.2.2.2) (n := 966) (fun _ => rfl) (fun _ _ _ _ => rfl) (fun _ _ _ _ => rfl) Codes_equipped_l9_round
theorem Codes_equipped_run (p : SCodes × SAir) : arun Codes_equipped_env Try.f32 (Codes_equipped_enc p).1 (Codes_equipped_enc p).2 = (Codes_equipped_t p.1 p.2).run fun r => some (Codes_equipped_av r, Codes_equipped_outs (Codes_equipped_enc p).2 r) := by kernel_rfl
theorem Codes_equipped_loops : ∀ c, Try.f32.body = some c → LoopsOK { Codes_equipped_env with nt := Try.f32.ntmps } c := by
  intro c hc
  refine loops_of c fun c' hc' f hf => ?_
  have hb : loopsOf c = [Codes_equipped_l4_b, Codes_equipped_l9_b] := by
    have : Try.f32.body.map loopsOf = some [Codes_equipped_l4_b, Codes_equipped_l9_b] := by kernel_rfl
    rw [hc] at this
    injection this
  rw [hb] at hc'
  clear hb
  rcases List.mem_cons.1 hc' with rfl | hc'
  ·
    have h6 : firstReg Codes_equipped_l4_b = 4 := by kernel_rfl
    rw [h6] at hf
    obtain rfl := Option.some.inj hf
    exact Codes_equipped_l4_tells
  obtain rfl := List.mem_singleton.1 hc'
  have h6 : firstReg Codes_equipped_l9_b = 9 := by kernel_rfl
  rw [h6] at hf
  obtain rfl := Option.some.inj hf
  exact Codes_equipped_l9_tells
attribute [local irreducible] arun in
theorem Codes_equipped_tells : Tells Try.prog 32 c_Codes_equipped :=
  told_tells (E := Codes_equipped_env) (enc := Codes_equipped_enc) (av := Codes_equipped_av) (outs := Codes_equipped_outs) (t := fun p : SCodes × SAir => Codes_equipped_t p.1 p.2) (by kernel_rfl) Codes_equipped_env_ok Try.func32 Codes_equipped_loops Codes_equipped_run
noncomputable def Codes_equipped (c : SCodes) (a : SAir) : Option (SSetting × Int × (Sq SFan) × (Sq SDoor)) := gOfA Codes_equipped_enc (fun p => (Codes_equipped_t p.1 p.2).get) (Codes_equipped_encC c a).1 (Codes_equipped_encC c a).2
theorem Codes_equipped_eq (c : SCodes) (a : SAir) : Codes_equipped c a = (Codes_equipped_t c a).get := congrFun (gOfA_eq Codes_equipped_inj (fun p => (Codes_equipped_t p.1 p.2).get)) (c, a)

/-! ### minecontrol/minecontrolref08.Rest -/
def ref08_Rest_encC (d : SDoor) (state : Int) : List AV × List Blk := ([.agg [.int .i64 d.Road, .int .i64 d.Other, .slc 1 d.Rests.n (fun k2522 => [.int .i64 (d.Rests.f k2522)])], .int .i64 state], [])
def ref08_Rest_enc (p : SDoor × Int) : List AV × List Blk := ref08_Rest_encC p.1 p.2
theorem ref08_Rest_inj (p q : SDoor × Int) (h : ref08_Rest_enc p = ref08_Rest_enc q) : p = q :=
  (Prod.ext (SDoor.ext2 (show p.1.Road = q.1.Road from congrArg intA (congrArg (fun x : List AV × List Blk => argC x.1 0 0) h)) (show p.1.Other = q.1.Other from congrArg intA (congrArg (fun x : List AV × List Blk => argC x.1 0 1) h)) (Sq.av_inj intE_i64 (a := p.1.Rests) (b := q.1.Rests) (congrArg (fun x : List AV × List Blk => argC x.1 0 2) h))) (show p.2 = q.2 from congrArg intA (congrArg (fun x : List AV × List Blk => x.1.getD 1 .undef) h)))
def ref08_Rest_l7_s (p : (Int × Int × (Sq Int)) × (Int × Int × Int)) : St := ⟨[(2, .ptr 0 0), (4, .ptr 64 0), (5, .ptr 2688 0), (6, .int .i64 p.2.2.1)], [(0, .var [.int .i64 p.1.1, .int .i64 p.1.2.1, .slc 1 p.1.2.2.n (fun k2523 => [.int .i64 (p.1.2.2.f k2523)])]), (64, .var [.int .i64 (0 : Int), .int .i64 (0 : Int)]), (2688, .var [.int .i64 p.2.1, .int .i64 p.2.2.2])], 2880⟩
theorem ref08_Rest_l7_inj (p q : (Int × Int × (Sq Int)) × (Int × Int × Int)) (h : ref08_Rest_l7_s p = ref08_Rest_l7_s q) : p = q :=
  Prod.ext (Prod.ext (show p.1.1 = q.1.1 from congrArg intA (congrArg (fun x : St => cellS x 0 0) h)) (Prod.ext (show p.1.2.1 = q.1.2.1 from congrArg intA (congrArg (fun x : St => cellS x 0 1) h)) (Sq.av_inj intE_i64 (a := p.1.2.2) (b := q.1.2.2) (congrArg (fun x : St => cellS x 0 2) h)))) (Prod.ext (show p.2.1 = q.2.1 from congrArg intA (congrArg (fun x : St => cellS x 2688 0) h)) (Prod.ext (show p.2.2.1 = q.2.2.1 from congrArg intA (congrArg (fun x : St => aget x.tm 6) h)) (show p.2.2.2 = q.2.2.2 from congrArg intA (congrArg (fun x : St => cellS x 2688 1) h))))
noncomputable def ref08_Rest_l7_step (_v7_0 : Int) (_v7_1 : Int) (v7_2 : (Sq Int)) (v7_3 : Int) (i_7_4 : Int) (v7_5 : Int) : DT (LR (Int × Int × Int) (Int × Int) (Unit)) :=
  .ite (decide (i_7_4 < ((v7_2.n : Nat) : Int))) (
    .ite (decide ((0 : Int) ≤ i_7_4 ∧ i_7_4 < ((v7_2.n : Nat) : Int))) (
      .ite (decide ((0 : Int) ≤ i_7_4 ∧ i_7_4 < ((v7_2.n : Nat) : Int))) (
        .leaf (.next ((if (v7_2.f (Int.toNat i_7_4)) < v7_3 then (v7_2.f (Int.toNat i_7_4)) else v7_3), (wr (i_7_4 + (1 : Int))), (if v7_5 < (v7_2.f (Int.toNat i_7_4)) then (v7_2.f (Int.toNat i_7_4)) else v7_5)))) (
        .fail)) (
      .fail)) (
    .leaf (.l (v7_3, v7_5)))
def ref08_Rest_l7_el (x : St) (a : Int × Int) : St := ⟨[(4, .ptr 64 0), (5, .ptr 2688 0)], [(0, blkS x 0), (64, .var [.int .i64 (0 : Int), .int .i64 (0 : Int)]), (2688, .var [.int .i64 a.1, .int .i64 a.2])], 2880⟩
def ref08_Rest_l7_er (_ : St) (_ : Unit) : St := ⟨[], [], 0⟩
noncomputable def ref08_Rest_l7_f (p : (Int × Int × (Sq Int)) × (Int × Int × Int)) : Option ((Int × Int) ⊕ (Unit)) := fixO (fun v : Int × Int × Int => ref08_Rest_l7_step p.1.1 p.1.2.1 p.1.2.2 v.1 v.2.1 v.2.2) p.2
noncomputable def ref08_Rest_l7_c : St → Option LRes := loopM ref08_Rest_l7_s ref08_Rest_l7_f true (.exit 0) ref08_Rest_l7_el .ret ref08_Rest_l7_er
noncomputable def ref08_Rest_l7 (v7_0 : Int) (v7_1 : Int) (v7_2 : (Sq Int)) (v7_3 : Int) (i_7_4 : Int) (v7_5 : Int) : Option ((Int × Int) ⊕ (Unit)) := gOfS ref08_Rest_l7_s ref08_Rest_l7_f (ref08_Rest_l7_s ((v7_0, v7_1, v7_2), (v7_3, i_7_4, v7_5)))
theorem ref08_Rest_l7_eq (v7_0 : Int) (v7_1 : Int) (v7_2 : (Sq Int)) (v7_3 : Int) (i_7_4 : Int) (v7_5 : Int) : ref08_Rest_l7 v7_0 v7_1 v7_2 v7_3 i_7_4 v7_5 = fixO (fun v : Int × Int × Int => ref08_Rest_l7_step v7_0 v7_1 v7_2 v.1 v.2.1 v.2.2) (v7_3, i_7_4, v7_5) := gOfS_eq ref08_Rest_l7_inj ref08_Rest_l7_f ((v7_0, v7_1, v7_2), (v7_3, i_7_4, v7_5))
noncomputable def ref08_Rest_t (d : SDoor) (state : Int) : DT (SSpan) :=
  .ite (((d.Rests.n : Nat) : Int) == (0 : Int)) (
    .leaf (SSpan.mk (0 : Int) (0 : Int))) (
    .ite (decide (state < (-1 : Int))) (
      .leaf (SSpan.mk (0 : Int) (0 : Int))) (
      .ite (decide (state ≥ ((d.Rests.n : Nat) : Int))) (
        .leaf (SSpan.mk (0 : Int) (0 : Int))) (
        .ite (decide (state ≥ (0 : Int))) (
          .ite (decide ((0 : Int) ≤ state ∧ state < ((d.Rests.n : Nat) : Int))) (
            .ite (decide ((0 : Int) ≤ state ∧ state < ((d.Rests.n : Nat) : Int))) (
              .leaf (SSpan.mk (d.Rests.f (Int.toNat state)) (d.Rests.f (Int.toNat state)))) (
              .fail)) (
            .fail)) (
          .ite (decide ((0 : Int) ≤ (0 : Int) ∧ (0 : Int) < ((d.Rests.n : Nat) : Int))) (
            .ite (decide ((0 : Int) ≤ (0 : Int) ∧ (0 : Int) < ((d.Rests.n : Nat) : Int))) (
              .sum (ref08_Rest_l7 d.Road d.Other d.Rests (d.Rests.f 0) (0 : Int) (d.Rests.f 0)) (fun y783 =>
                .leaf (SSpan.mk y783.1 y783.2)) (fun _ =>
                .fail)) (
              .fail)) (
            .fail)))))
def ref08_Rest_av (r : SSpan) : AV := .agg [.int .i64 r.Low, .int .i64 r.High]
def ref08_Rest_outs (_ : List Blk) (_ : SSpan) : List Blk := []
noncomputable def c_ref08_Rest : List AV → List Blk → Option Ans := told ref08_Rest_enc (fun p => (ref08_Rest_t p.1 p.2).get) ref08_Rest_av ref08_Rest_outs true (fun _ _ _ => ⟨rfl, fun b hb => by cases hb⟩)
noncomputable def ref08_Rest_env : Env := { envS (fun _ _ _ => none) (fun r => match r with | 7 => some ([2, 4, 5, 6], [4, 5]) | _ => none) with loops := fun r => match r with | 7 => some ref08_Rest_l7_c | _ => none, gc := fun r => match r with | 7 => some [0, 64, 2688] | _ => none, mm := some 0 }
theorem ref08_Rest_env_ok : ∀ f, Tells Try.prog f (ref08_Rest_env.fs f) := fun f => Tells.none_ f

noncomputable def ref08_Rest_e : Env := { ref08_Rest_env with nt := 71 }
noncomputable def ref08_Rest_l7_b : Code := loopOf 7 Try.f56
theorem ref08_Rest_l7_round {R : Type} (fx : Int × Int × (Sq Int)) (v : Int × Int × Int) (N : Nat) (K : AX → St → Option R) : aloop (fun s j => aexec ref08_Rest_e ref08_Rest_l7_b s j) (headOf ref08_Rest_e ref08_Rest_l7_b 2880) (exitOf ref08_Rest_e ref08_Rest_l7_b 2880) (N + 1) (ref08_Rest_l7_s (fx, v)) K = (ref08_Rest_l7_step fx.1 fx.2.1 fx.2.2 v.1 v.2.1 v.2.2).run (LR.elim
    (fun v' => aloop (fun s j => aexec ref08_Rest_e ref08_Rest_l7_b s j) (headOf ref08_Rest_e ref08_Rest_l7_b 2880) (exitOf ref08_Rest_e ref08_Rest_l7_b 2880) N (ref08_Rest_l7_s (fx, v')) K)
    (fun a => K (.exit 0) (ref08_Rest_l7_el (ref08_Rest_l7_s (fx, v)) a))
    (fun a => K .ret (ref08_Rest_l7_er (ref08_Rest_l7_s (fx, v)) a))) := by kernel_rfl
theorem ref08_Rest_l7_tells : LoopTells ref08_Rest_e ref08_Rest_l7_b ref08_Rest_l7_c :=
  loopM_tells (s := ref08_Rest_l7_s) (stl := ref08_Rest_l7_el) (str := ref08_Rest_l7_er) (step := fun (fx : Int × Int × (Sq Int)) (v : Int × Int × Int) => ref08_Rest_l7_step fx.1 fx.2.1 fx.2.2 v.1 v.2.1 v.2.2) (n := 2880) (fun _ => rfl) (fun _ _ _ _ => rfl) (fun _ _ _ _ => rfl) ref08_Rest_l7_round
theorem ref08_Rest_run (p : SDoor × Int) : arun ref08_Rest_env Try.f56 (ref08_Rest_enc p).1 (ref08_Rest_enc p).2 = (ref08_Rest_t p.1 p.2).run fun r => some (ref08_Rest_av r, ref08_Rest_outs (ref08_Rest_enc p).2 r) := by kernel_rfl
theorem ref08_Rest_loops : ∀ c, Try.f56.body = some c → LoopsOK { ref08_Rest_env with nt := Try.f56.ntmps } c := by
  intro c hc
  refine loops_of c fun c' hc' f hf => ?_
  have hb : loopsOf c = [ref08_Rest_l7_b] := by
    have : Try.f56.body.map loopsOf = some [ref08_Rest_l7_b] := by kernel_rfl
    rw [hc] at this
    injection this
  rw [hb] at hc'
  clear hb
  obtain rfl := List.mem_singleton.1 hc'
  have h6 : firstReg ref08_Rest_l7_b = 7 := by kernel_rfl
  rw [h6] at hf
  obtain rfl := Option.some.inj hf
  exact ref08_Rest_l7_tells
attribute [local irreducible] arun in
theorem ref08_Rest_tells : Tells Try.prog 56 c_ref08_Rest :=
  told_tells (E := ref08_Rest_env) (enc := ref08_Rest_enc) (av := ref08_Rest_av) (outs := ref08_Rest_outs) (t := fun p : SDoor × Int => ref08_Rest_t p.1 p.2) (by kernel_rfl) ref08_Rest_env_ok Try.func56 ref08_Rest_loops ref08_Rest_run
noncomputable def ref08_Rest (d : SDoor) (state : Int) : Option (SSpan) := gOfA ref08_Rest_enc (fun p => (ref08_Rest_t p.1 p.2).get) (ref08_Rest_encC d state).1 (ref08_Rest_encC d state).2
theorem ref08_Rest_eq (d : SDoor) (state : Int) : ref08_Rest d state = (ref08_Rest_t d state).get := congrFun (gOfA_eq ref08_Rest_inj (fun p => (ref08_Rest_t p.1 p.2).get)) (d, state)

/-! ### minecontrol/minecontrolref05.Floor -/
def ref05_Floor_encC (a : Int) (b : Int) : List AV × List Blk := ([.int .i64 a, .int .i64 b], [])
def ref05_Floor_enc (p : Int × Int) : List AV × List Blk := ref05_Floor_encC p.1 p.2
theorem ref05_Floor_inj (p q : Int × Int) (h : ref05_Floor_enc p = ref05_Floor_enc q) : p = q :=
  (Prod.ext (show p.1 = q.1 from congrArg intA (congrArg (fun x : List AV × List Blk => x.1.getD 0 .undef) h)) (show p.2 = q.2 from congrArg intA (congrArg (fun x : List AV × List Blk => x.1.getD 1 .undef) h)))
noncomputable def ref05_Floor_t (a : Int) (b : Int) : DT (Int) :=
  .ite (b != 0) (
    .ite (b != 0) (
      .ite (decide ((Int.tmod a b) < (0 : Int))) (
        .leaf (wr ((wr (Int.tdiv a b)) - (1 : Int)))) (
        .leaf (wr (Int.tdiv a b)))) (
      .fail)) (
    .fail)
def ref05_Floor_av (r : Int) : AV := .int .i64 r
def ref05_Floor_outs (_ : List Blk) (_ : Int) : List Blk := []
noncomputable def c_ref05_Floor : List AV → List Blk → Option Ans := told ref05_Floor_enc (fun p => (ref05_Floor_t p.1 p.2).get) ref05_Floor_av ref05_Floor_outs true (fun _ _ _ => ⟨rfl, fun b hb => by cases hb⟩)
noncomputable def ref05_Floor_env : Env := { envS (fun _ _ _ => none) with mm := some 0 }
theorem ref05_Floor_env_ok : ∀ f, Tells Try.prog f (ref05_Floor_env.fs f) := fun f => Tells.none_ f

theorem ref05_Floor_run (p : Int × Int) : arun ref05_Floor_env Try.f87 (ref05_Floor_enc p).1 (ref05_Floor_enc p).2 = (ref05_Floor_t p.1 p.2).run fun r => some (ref05_Floor_av r, ref05_Floor_outs (ref05_Floor_enc p).2 r) := by kernel_rfl
attribute [local irreducible] arun in
theorem ref05_Floor_tells : Tells Try.prog 87 c_ref05_Floor :=
  told_tells (E := ref05_Floor_env) (enc := ref05_Floor_enc) (av := ref05_Floor_av) (outs := ref05_Floor_outs) (t := fun p : Int × Int => ref05_Floor_t p.1 p.2) (by kernel_rfl) ref05_Floor_env_ok Try.func87 (fun c _ => loops_none (E := { ref05_Floor_env with nt := Try.f87.ntmps }) (fun _ => rfl) c) ref05_Floor_run
noncomputable def ref05_Floor (a : Int) (b : Int) : Option (Int) := gOfA ref05_Floor_enc (fun p => (ref05_Floor_t p.1 p.2).get) (ref05_Floor_encC a b).1 (ref05_Floor_encC a b).2
theorem ref05_Floor_eq (a : Int) (b : Int) : ref05_Floor a b = (ref05_Floor_t a b).get := congrFun (gOfA_eq ref05_Floor_inj (fun p => (ref05_Floor_t p.1 p.2).get)) (a, b)

/-! ### minecontrol/minecontrolref05.Ceil -/
def ref05_Ceil_encC (a : Int) (b : Int) : List AV × List Blk := ([.int .i64 a, .int .i64 b], [])
def ref05_Ceil_enc (p : Int × Int) : List AV × List Blk := ref05_Ceil_encC p.1 p.2
theorem ref05_Ceil_inj (p q : Int × Int) (h : ref05_Ceil_enc p = ref05_Ceil_enc q) : p = q :=
  (Prod.ext (show p.1 = q.1 from congrArg intA (congrArg (fun x : List AV × List Blk => x.1.getD 0 .undef) h)) (show p.2 = q.2 from congrArg intA (congrArg (fun x : List AV × List Blk => x.1.getD 1 .undef) h)))
noncomputable def ref05_Ceil_t (a : Int) (b : Int) : DT (Int) :=
  .bind (ref05_Floor (wr (0 - a)) b) fun z794 =>
  .leaf (wr (0 - z794))
def ref05_Ceil_av (r : Int) : AV := .int .i64 r
def ref05_Ceil_outs (_ : List Blk) (_ : Int) : List Blk := []
noncomputable def c_ref05_Ceil : List AV → List Blk → Option Ans := told ref05_Ceil_enc (fun p => (ref05_Ceil_t p.1 p.2).get) ref05_Ceil_av ref05_Ceil_outs true (fun _ _ _ => ⟨rfl, fun b hb => by cases hb⟩)
noncomputable def ref05_Ceil_env : Env := { envS (fun f => match f with
  | 87 => c_ref05_Floor
  | _ => fun _ _ => none) with mm := some 0 }
theorem ref05_Ceil_env_ok : ∀ f, Tells Try.prog f (ref05_Ceil_env.fs f) := by
  intro f
  by_cases h0 : f = 87
  · subst h0; exact ref05_Floor_tells
  have : ref05_Ceil_env.fs f = fun _ _ => none := by
    unfold ref05_Ceil_env envS
    dsimp only
    split
    · exact absurd rfl h0
    · rfl
  rw [this]
  exact Tells.none_ f
theorem ref05_Ceil_run (p : Int × Int) : arun ref05_Ceil_env Try.f88 (ref05_Ceil_enc p).1 (ref05_Ceil_enc p).2 = (ref05_Ceil_t p.1 p.2).run fun r => some (ref05_Ceil_av r, ref05_Ceil_outs (ref05_Ceil_enc p).2 r) := by kernel_rfl
attribute [local irreducible] arun in
theorem ref05_Ceil_tells : Tells Try.prog 88 c_ref05_Ceil :=
  told_tells (E := ref05_Ceil_env) (enc := ref05_Ceil_enc) (av := ref05_Ceil_av) (outs := ref05_Ceil_outs) (t := fun p : Int × Int => ref05_Ceil_t p.1 p.2) (by kernel_rfl) ref05_Ceil_env_ok Try.func88 (fun c _ => loops_none (E := { ref05_Ceil_env with nt := Try.f88.ntmps }) (fun _ => rfl) c) ref05_Ceil_run
noncomputable def ref05_Ceil (a : Int) (b : Int) : Option (Int) := gOfA ref05_Ceil_enc (fun p => (ref05_Ceil_t p.1 p.2).get) (ref05_Ceil_encC a b).1 (ref05_Ceil_encC a b).2
theorem ref05_Ceil_eq (a : Int) (b : Int) : ref05_Ceil a b = (ref05_Ceil_t a b).get := congrFun (gOfA_eq ref05_Ceil_inj (fun p => (ref05_Ceil_t p.1 p.2).get)) (a, b)

/-! ### minecontrol/minecontrolref07.Inner -/
def ref07_Inner_encC (f : SFan) (flow : Int) : List AV × List Blk := ([.agg [.int .i64 f.Road, .bool f.Back, .bool f.Auxiliary, .slc 2 f.Curve.n (fun k2524 => (SPoint.enc (f.Curve.f k2524)))], .int .i64 flow], [])
def ref07_Inner_enc (p : SFan × Int) : List AV × List Blk := ref07_Inner_encC p.1 p.2
theorem ref07_Inner_inj (p q : SFan × Int) (h : ref07_Inner_enc p = ref07_Inner_enc q) : p = q :=
  (Prod.ext (SFan.ext2 (show p.1.Road = q.1.Road from congrArg intA (congrArg (fun x : List AV × List Blk => argC x.1 0 0) h)) (show p.1.Back = q.1.Back from congrArg boolA (congrArg (fun x : List AV × List Blk => argC x.1 0 1) h)) (show p.1.Auxiliary = q.1.Auxiliary from congrArg boolA (congrArg (fun x : List AV × List Blk => argC x.1 0 2) h)) (Sq.av_inj SPoint.inj (a := p.1.Curve) (b := q.1.Curve) (congrArg (fun x : List AV × List Blk => argC x.1 0 3) h))) (show p.2 = q.2 from congrArg intA (congrArg (fun x : List AV × List Blk => x.1.getD 1 .undef) h)))
def ref07_Inner_l7_s (p : (Int × Int × Bool × Bool × (Sq SPoint)) × (Int)) : St := ⟨[(1, .int .i64 p.1.1), (2, .ptr 0 0), (4, .ptr 64 0), (6, .int .i64 p.2)], [(0, .var [.int .i64 p.1.2.1, .bool p.1.2.2.1, .bool p.1.2.2.2.1, .slc 2 p.1.2.2.2.2.n (fun k2525 => (SPoint.enc (p.1.2.2.2.2.f k2525)))]), (64, .var [.int .i64 (0 : Int), .int .i64 (0 : Int)])], 3264⟩
theorem ref07_Inner_l7_inj (p q : (Int × Int × Bool × Bool × (Sq SPoint)) × (Int)) (h : ref07_Inner_l7_s p = ref07_Inner_l7_s q) : p = q :=
  Prod.ext (Prod.ext (show p.1.1 = q.1.1 from congrArg intA (congrArg (fun x : St => aget x.tm 1) h)) (Prod.ext (show p.1.2.1 = q.1.2.1 from congrArg intA (congrArg (fun x : St => cellS x 0 0) h)) (Prod.ext (show p.1.2.2.1 = q.1.2.2.1 from congrArg boolA (congrArg (fun x : St => cellS x 0 1) h)) (Prod.ext (show p.1.2.2.2.1 = q.1.2.2.2.1 from congrArg boolA (congrArg (fun x : St => cellS x 0 2) h)) (Sq.av_inj SPoint.inj (a := p.1.2.2.2.2) (b := q.1.2.2.2.2) (congrArg (fun x : St => cellS x 0 3) h)))))) (show p.2 = q.2 from congrArg intA (congrArg (fun x : St => aget x.tm 6) h))
noncomputable def ref07_Inner_l7_step (flow_7_0 : Int) (_v7_1 : Int) (_v7_2 : Bool) (_v7_3 : Bool) (v7_4 : (Sq SPoint)) (k_7_5 : Int) : DT (LR (Int) (Int) (Unit)) :=
  .ite (decide ((0 : Int) ≤ (wr (k_7_5 + (1 : Int))) ∧ (wr (k_7_5 + (1 : Int))) < ((v7_4.n : Nat) : Int))) (
    .ite (decide ((v7_4.f (Int.toNat (wr (k_7_5 + (1 : Int))))).Flow ≤ flow_7_0)) (
      .leaf (.next (wr (k_7_5 + (1 : Int))))) (
      .leaf (.l k_7_5))) (
    .fail)
def ref07_Inner_l7_el (x : St) (a : Int) : St := ⟨[(1, aget x.tm 1), (2, .ptr 0 0), (4, .ptr 64 0), (6, .int .i64 a)], [(0, blkS x 0), (64, .var [.int .i64 (0 : Int), .int .i64 (0 : Int)])], 3264⟩
def ref07_Inner_l7_er (_ : St) (_ : Unit) : St := ⟨[], [], 0⟩
noncomputable def ref07_Inner_l7_f (p : (Int × Int × Bool × Bool × (Sq SPoint)) × (Int)) : Option ((Int) ⊕ (Unit)) := fixO (fun v : Int => ref07_Inner_l7_step p.1.1 p.1.2.1 p.1.2.2.1 p.1.2.2.2.1 p.1.2.2.2.2 v) p.2
noncomputable def ref07_Inner_l7_c : St → Option LRes := loopM ref07_Inner_l7_s ref07_Inner_l7_f true (.exit 0) ref07_Inner_l7_el .ret ref07_Inner_l7_er
noncomputable def ref07_Inner_l7 (flow_7_0 : Int) (v7_1 : Int) (v7_2 : Bool) (v7_3 : Bool) (v7_4 : (Sq SPoint)) (k_7_5 : Int) : Option ((Int) ⊕ (Unit)) := gOfS ref07_Inner_l7_s ref07_Inner_l7_f (ref07_Inner_l7_s ((flow_7_0, v7_1, v7_2, v7_3, v7_4), k_7_5))
theorem ref07_Inner_l7_eq (flow_7_0 : Int) (v7_1 : Int) (v7_2 : Bool) (v7_3 : Bool) (v7_4 : (Sq SPoint)) (k_7_5 : Int) : ref07_Inner_l7 flow_7_0 v7_1 v7_2 v7_3 v7_4 k_7_5 = fixO (fun v : Int => ref07_Inner_l7_step flow_7_0 v7_1 v7_2 v7_3 v7_4 v) k_7_5 := gOfS_eq ref07_Inner_l7_inj ref07_Inner_l7_f ((flow_7_0, v7_1, v7_2, v7_3, v7_4), k_7_5)
noncomputable def ref07_Inner_t (f : SFan) (flow : Int) : DT (SSpan) :=
  .ite (decide ((0 : Int) ≤ (0 : Int) ∧ (0 : Int) < ((f.Curve.n : Nat) : Int))) (
    .ite (decide (flow ≤ (f.Curve.f 0).Flow)) (
      .ite (decide ((0 : Int) ≤ (0 : Int) ∧ (0 : Int) < ((f.Curve.n : Nat) : Int))) (
        .ite (decide ((0 : Int) ≤ (0 : Int) ∧ (0 : Int) < ((f.Curve.n : Nat) : Int))) (
          .leaf (SSpan.mk (f.Curve.f 0).Pressure (f.Curve.f 0).Pressure)) (
          .fail)) (
        .fail)) (
      .ite (decide ((0 : Int) ≤ (wr (((f.Curve.n : Nat) : Int) - (1 : Int))) ∧ (wr (((f.Curve.n : Nat) : Int) - (1 : Int))) < ((f.Curve.n : Nat) : Int))) (
        .ite (decide (flow ≥ (f.Curve.f (Int.toNat (wr (((f.Curve.n : Nat) : Int) - (1 : Int))))).Flow)) (
          .ite (decide ((0 : Int) ≤ (wr (((f.Curve.n : Nat) : Int) - (1 : Int))) ∧ (wr (((f.Curve.n : Nat) : Int) - (1 : Int))) < ((f.Curve.n : Nat) : Int))) (
            .ite (decide ((0 : Int) ≤ (wr (((f.Curve.n : Nat) : Int) - (1 : Int))) ∧ (wr (((f.Curve.n : Nat) : Int) - (1 : Int))) < ((f.Curve.n : Nat) : Int))) (
              .leaf (SSpan.mk (f.Curve.f (Int.toNat (wr (((f.Curve.n : Nat) : Int) - (1 : Int))))).Pressure (f.Curve.f (Int.toNat (wr (((f.Curve.n : Nat) : Int) - (1 : Int))))).Pressure)) (
              .fail)) (
            .fail)) (
          .sum (ref07_Inner_l7 flow f.Road f.Back f.Auxiliary f.Curve (0 : Int)) (fun y792 =>
            .ite (decide ((0 : Int) ≤ y792 ∧ y792 < ((f.Curve.n : Nat) : Int))) (
              .ite (decide ((0 : Int) ≤ (wr (y792 + (1 : Int))) ∧ (wr (y792 + (1 : Int))) < ((f.Curve.n : Nat) : Int))) (
                .bind (ref05_Floor (wr ((wr ((f.Curve.f (Int.toNat (wr (y792 + (1 : Int))))).Pressure - (f.Curve.f (Int.toNat y792)).Pressure)) * (wr (flow - (f.Curve.f (Int.toNat y792)).Flow)))) (wr ((f.Curve.f (Int.toNat (wr (y792 + (1 : Int))))).Flow - (f.Curve.f (Int.toNat y792)).Flow))) fun z793 =>
                .bind (ref05_Ceil (wr ((wr ((f.Curve.f (Int.toNat (wr (y792 + (1 : Int))))).Pressure - (f.Curve.f (Int.toNat y792)).Pressure)) * (wr (flow - (f.Curve.f (Int.toNat y792)).Flow)))) (wr ((f.Curve.f (Int.toNat (wr (y792 + (1 : Int))))).Flow - (f.Curve.f (Int.toNat y792)).Flow))) fun z795 =>
                .leaf (SSpan.mk (wr ((f.Curve.f (Int.toNat y792)).Pressure + z793)) (wr ((f.Curve.f (Int.toNat y792)).Pressure + z795)))) (
                .fail)) (
              .fail)) (fun _ =>
            .fail))) (
        .fail))) (
    .fail)
def ref07_Inner_av (r : SSpan) : AV := .agg [.int .i64 r.Low, .int .i64 r.High]
def ref07_Inner_outs (_ : List Blk) (_ : SSpan) : List Blk := []
noncomputable def c_ref07_Inner : List AV → List Blk → Option Ans := told ref07_Inner_enc (fun p => (ref07_Inner_t p.1 p.2).get) ref07_Inner_av ref07_Inner_outs true (fun _ _ _ => ⟨rfl, fun b hb => by cases hb⟩)
noncomputable def ref07_Inner_env : Env := { envS (fun f => match f with
  | 87 => c_ref05_Floor
  | 88 => c_ref05_Ceil
  | _ => fun _ _ => none) (fun r => match r with | 7 => some ([1, 2, 4, 6], [1, 2, 4, 6]) | _ => none) with loops := fun r => match r with | 7 => some ref07_Inner_l7_c | _ => none, gc := fun r => match r with | 7 => some [0, 64] | _ => none, mm := some 0 }
theorem ref07_Inner_env_ok : ∀ f, Tells Try.prog f (ref07_Inner_env.fs f) := by
  intro f
  by_cases h0 : f = 87
  · subst h0; exact ref05_Floor_tells
  by_cases h1 : f = 88
  · subst h1; exact ref05_Ceil_tells
  have : ref07_Inner_env.fs f = fun _ _ => none := by
    unfold ref07_Inner_env envS
    dsimp only
    split
    · exact absurd rfl h0
    · exact absurd rfl h1
    · rfl
  rw [this]
  exact Tells.none_ f
noncomputable def ref07_Inner_e : Env := { ref07_Inner_env with nt := 106 }
noncomputable def ref07_Inner_l7_b : Code := loopOf 7 Try.f78
theorem ref07_Inner_l7_round {R : Type} (fx : Int × Int × Bool × Bool × (Sq SPoint)) (v : Int) (N : Nat) (K : AX → St → Option R) : aloop (fun s j => aexec ref07_Inner_e ref07_Inner_l7_b s j) (headOf ref07_Inner_e ref07_Inner_l7_b 3264) (exitOf ref07_Inner_e ref07_Inner_l7_b 3264) (N + 1) (ref07_Inner_l7_s (fx, v)) K = (ref07_Inner_l7_step fx.1 fx.2.1 fx.2.2.1 fx.2.2.2.1 fx.2.2.2.2 v).run (LR.elim
    (fun v' => aloop (fun s j => aexec ref07_Inner_e ref07_Inner_l7_b s j) (headOf ref07_Inner_e ref07_Inner_l7_b 3264) (exitOf ref07_Inner_e ref07_Inner_l7_b 3264) N (ref07_Inner_l7_s (fx, v')) K)
    (fun a => K (.exit 0) (ref07_Inner_l7_el (ref07_Inner_l7_s (fx, v)) a))
    (fun a => K .ret (ref07_Inner_l7_er (ref07_Inner_l7_s (fx, v)) a))) := by kernel_rfl
theorem ref07_Inner_l7_tells : LoopTells ref07_Inner_e ref07_Inner_l7_b ref07_Inner_l7_c :=
  loopM_tells (s := ref07_Inner_l7_s) (stl := ref07_Inner_l7_el) (str := ref07_Inner_l7_er) (step := fun (fx : Int × Int × Bool × Bool × (Sq SPoint)) (v : Int) => ref07_Inner_l7_step fx.1 fx.2.1 fx.2.2.1 fx.2.2.2.1 fx.2.2.2.2 v) (n := 3264) (fun _ => rfl) (fun _ _ _ _ => rfl) (fun _ _ _ _ => rfl) ref07_Inner_l7_round
theorem ref07_Inner_run (p : SFan × Int) : arun ref07_Inner_env Try.f78 (ref07_Inner_enc p).1 (ref07_Inner_enc p).2 = (ref07_Inner_t p.1 p.2).run fun r => some (ref07_Inner_av r, ref07_Inner_outs (ref07_Inner_enc p).2 r) := by kernel_rfl
theorem ref07_Inner_loops : ∀ c, Try.f78.body = some c → LoopsOK { ref07_Inner_env with nt := Try.f78.ntmps } c := by
  intro c hc
  refine loops_of c fun c' hc' f hf => ?_
  have hb : loopsOf c = [ref07_Inner_l7_b] := by
    have : Try.f78.body.map loopsOf = some [ref07_Inner_l7_b] := by kernel_rfl
    rw [hc] at this
    injection this
  rw [hb] at hc'
  clear hb
  obtain rfl := List.mem_singleton.1 hc'
  have h6 : firstReg ref07_Inner_l7_b = 7 := by kernel_rfl
  rw [h6] at hf
  obtain rfl := Option.some.inj hf
  exact ref07_Inner_l7_tells
attribute [local irreducible] arun in
theorem ref07_Inner_tells : Tells Try.prog 78 c_ref07_Inner :=
  told_tells (E := ref07_Inner_env) (enc := ref07_Inner_enc) (av := ref07_Inner_av) (outs := ref07_Inner_outs) (t := fun p : SFan × Int => ref07_Inner_t p.1 p.2) (by kernel_rfl) ref07_Inner_env_ok Try.func78 ref07_Inner_loops ref07_Inner_run
noncomputable def ref07_Inner (f : SFan) (flow : Int) : Option (SSpan) := gOfA ref07_Inner_enc (fun p => (ref07_Inner_t p.1 p.2).get) (ref07_Inner_encC f flow).1 (ref07_Inner_encC f flow).2
theorem ref07_Inner_eq (f : SFan) (flow : Int) : ref07_Inner f flow = (ref07_Inner_t f flow).get := congrFun (gOfA_eq ref07_Inner_inj (fun p => (ref07_Inner_t p.1 p.2).get)) (f, flow)

/-! ### minecontrol/minecontrolref07.Along -/
def ref07_Along_encC (f : SFan) (back : Bool) (flow : Int) : List AV × List Blk := ([.agg [.int .i64 f.Road, .bool f.Back, .bool f.Auxiliary, .slc 2 f.Curve.n (fun k2526 => (SPoint.enc (f.Curve.f k2526)))], .bool back, .int .i64 flow], [])
def ref07_Along_enc (p : SFan × Bool × Int) : List AV × List Blk := ref07_Along_encC p.1 p.2.1 p.2.2
theorem ref07_Along_inj (p q : SFan × Bool × Int) (h : ref07_Along_enc p = ref07_Along_enc q) : p = q :=
  (Prod.ext (SFan.ext2 (show p.1.Road = q.1.Road from congrArg intA (congrArg (fun x : List AV × List Blk => argC x.1 0 0) h)) (show p.1.Back = q.1.Back from congrArg boolA (congrArg (fun x : List AV × List Blk => argC x.1 0 1) h)) (show p.1.Auxiliary = q.1.Auxiliary from congrArg boolA (congrArg (fun x : List AV × List Blk => argC x.1 0 2) h)) (Sq.av_inj SPoint.inj (a := p.1.Curve) (b := q.1.Curve) (congrArg (fun x : List AV × List Blk => argC x.1 0 3) h))) (Prod.ext (show p.2.1 = q.2.1 from congrArg boolA (congrArg (fun x : List AV × List Blk => x.1.getD 1 .undef) h)) (show p.2.2 = q.2.2 from congrArg intA (congrArg (fun x : List AV × List Blk => x.1.getD 2 .undef) h))))
noncomputable def ref07_Along_t (f : SFan) (back : Bool) (flow : Int) : DT (SSpan) :=
  .ite back (
    .bind (ref07_Inner f (wr (0 - flow))) fun z796 =>
    .leaf (SSpan.mk (wr (0 - z796.High)) (wr (0 - z796.Low)))) (
    .bind (ref07_Inner f flow) fun z797 =>
    .leaf z797)
def ref07_Along_av (r : SSpan) : AV := .agg [.int .i64 r.Low, .int .i64 r.High]
def ref07_Along_outs (_ : List Blk) (_ : SSpan) : List Blk := []
noncomputable def c_ref07_Along : List AV → List Blk → Option Ans := told ref07_Along_enc (fun p => (ref07_Along_t p.1 p.2.1 p.2.2).get) ref07_Along_av ref07_Along_outs true (fun _ _ _ => ⟨rfl, fun b hb => by cases hb⟩)
noncomputable def ref07_Along_env : Env := { envS (fun f => match f with
  | 78 => c_ref07_Inner
  | _ => fun _ _ => none) with mm := some 0 }
theorem ref07_Along_env_ok : ∀ f, Tells Try.prog f (ref07_Along_env.fs f) := by
  intro f
  by_cases h0 : f = 78
  · subst h0; exact ref07_Inner_tells
  have : ref07_Along_env.fs f = fun _ _ => none := by
    unfold ref07_Along_env envS
    dsimp only
    split
    · exact absurd rfl h0
    · rfl
  rw [this]
  exact Tells.none_ f
theorem ref07_Along_run (p : SFan × Bool × Int) : arun ref07_Along_env Try.f70 (ref07_Along_enc p).1 (ref07_Along_enc p).2 = (ref07_Along_t p.1 p.2.1 p.2.2).run fun r => some (ref07_Along_av r, ref07_Along_outs (ref07_Along_enc p).2 r) := by kernel_rfl
attribute [local irreducible] arun in
theorem ref07_Along_tells : Tells Try.prog 70 c_ref07_Along :=
  told_tells (E := ref07_Along_env) (enc := ref07_Along_enc) (av := ref07_Along_av) (outs := ref07_Along_outs) (t := fun p : SFan × Bool × Int => ref07_Along_t p.1 p.2.1 p.2.2) (by kernel_rfl) ref07_Along_env_ok Try.func70 (fun c _ => loops_none (E := { ref07_Along_env with nt := Try.f70.ntmps }) (fun _ => rfl) c) ref07_Along_run
noncomputable def ref07_Along (f : SFan) (back : Bool) (flow : Int) : Option (SSpan) := gOfA ref07_Along_enc (fun p => (ref07_Along_t p.1 p.2.1 p.2.2).get) (ref07_Along_encC f back flow).1 (ref07_Along_encC f back flow).2
theorem ref07_Along_eq (f : SFan) (back : Bool) (flow : Int) : ref07_Along f back flow = (ref07_Along_t f back flow).get := congrFun (gOfA_eq ref07_Along_inj (fun p => (ref07_Along_t p.1 p.2.1 p.2.2).get)) (f, back, flow)

/-! ### minecontrol/minecontrolref07.State -/
def ref07_State_encC (f : SFan) (state : Int) (flow : Int) : List AV × List Blk := ([.agg [.int .i64 f.Road, .bool f.Back, .bool f.Auxiliary, .slc 2 f.Curve.n (fun k2527 => (SPoint.enc (f.Curve.f k2527)))], .int .i64 state, .int .i64 flow], [])
def ref07_State_enc (p : SFan × Int × Int) : List AV × List Blk := ref07_State_encC p.1 p.2.1 p.2.2
theorem ref07_State_inj (p q : SFan × Int × Int) (h : ref07_State_enc p = ref07_State_enc q) : p = q :=
  (Prod.ext (SFan.ext2 (show p.1.Road = q.1.Road from congrArg intA (congrArg (fun x : List AV × List Blk => argC x.1 0 0) h)) (show p.1.Back = q.1.Back from congrArg boolA (congrArg (fun x : List AV × List Blk => argC x.1 0 1) h)) (show p.1.Auxiliary = q.1.Auxiliary from congrArg boolA (congrArg (fun x : List AV × List Blk => argC x.1 0 2) h)) (Sq.av_inj SPoint.inj (a := p.1.Curve) (b := q.1.Curve) (congrArg (fun x : List AV × List Blk => argC x.1 0 3) h))) (Prod.ext (show p.2.1 = q.2.1 from congrArg intA (congrArg (fun x : List AV × List Blk => x.1.getD 1 .undef) h)) (show p.2.2 = q.2.2 from congrArg intA (congrArg (fun x : List AV × List Blk => x.1.getD 2 .undef) h))))
noncomputable def ref07_State_t (f : SFan) (state : Int) (flow : Int) : DT (SSpan) :=
  .ite (state == (0 : Int)) (
    .leaf (SSpan.mk (0 : Int) (0 : Int))) (
    .ite (state == (1 : Int)) (
      .bind (ref07_Along f f.Back flow) fun z798 =>
      .leaf z798) (
      .ite (state == (2 : Int)) (
        .bind (ref07_Along f (!f.Back) flow) fun z799 =>
        .leaf z799) (
        .bind (ref07_Along f false flow) fun z800 =>
        .bind (ref07_Along f true flow) fun z801 =>
        .leaf (SSpan.mk (if (0 : Int) < (if z801.Low < z800.Low then z801.Low else z800.Low) then (0 : Int) else (if z801.Low < z800.Low then z801.Low else z800.Low)) (if (if z800.High < z801.High then z801.High else z800.High) < (0 : Int) then (0 : Int) else (if z800.High < z801.High then z801.High else z800.High))))))
def ref07_State_av (r : SSpan) : AV := .agg [.int .i64 r.Low, .int .i64 r.High]
def ref07_State_outs (_ : List Blk) (_ : SSpan) : List Blk := []
noncomputable def c_ref07_State : List AV → List Blk → Option Ans := told ref07_State_enc (fun p => (ref07_State_t p.1 p.2.1 p.2.2).get) ref07_State_av ref07_State_outs true (fun _ _ _ => ⟨rfl, fun b hb => by cases hb⟩)
noncomputable def ref07_State_env : Env := { envS (fun f => match f with
  | 70 => c_ref07_Along
  | _ => fun _ _ => none) with mm := some 0 }
theorem ref07_State_env_ok : ∀ f, Tells Try.prog f (ref07_State_env.fs f) := by
  intro f
  by_cases h0 : f = 70
  · subst h0; exact ref07_Along_tells
  have : ref07_State_env.fs f = fun _ _ => none := by
    unfold ref07_State_env envS
    dsimp only
    split
    · exact absurd rfl h0
    · rfl
  rw [this]
  exact Tells.none_ f
theorem ref07_State_run (p : SFan × Int × Int) : arun ref07_State_env Try.f57 (ref07_State_enc p).1 (ref07_State_enc p).2 = (ref07_State_t p.1 p.2.1 p.2.2).run fun r => some (ref07_State_av r, ref07_State_outs (ref07_State_enc p).2 r) := by kernel_rfl
attribute [local irreducible] arun in
theorem ref07_State_tells : Tells Try.prog 57 c_ref07_State :=
  told_tells (E := ref07_State_env) (enc := ref07_State_enc) (av := ref07_State_av) (outs := ref07_State_outs) (t := fun p : SFan × Int × Int => ref07_State_t p.1 p.2.1 p.2.2) (by kernel_rfl) ref07_State_env_ok Try.func57 (fun c _ => loops_none (E := { ref07_State_env with nt := Try.f57.ntmps }) (fun _ => rfl) c) ref07_State_run
noncomputable def ref07_State (f : SFan) (state : Int) (flow : Int) : Option (SSpan) := gOfA ref07_State_enc (fun p => (ref07_State_t p.1 p.2.1 p.2.2).get) (ref07_State_encC f state flow).1 (ref07_State_encC f state flow).2
theorem ref07_State_eq (f : SFan) (state : Int) (flow : Int) : ref07_State f state flow = (ref07_State_t f state flow).get := congrFun (gOfA_eq ref07_State_inj (fun p => (ref07_State_t p.1 p.2.1 p.2.2).get)) (f, state, flow)

/-! ### (*minecontrol/minecontroldraw.Codes).fit -/
def Codes_fit_encC (c : SCodes) (a : SAir) (s : SSetting) (x : SState) : List AV × List Blk := ([.ptr 0 0, .ptr 1 0, .agg [.slc 1 s.Fans.n (fun k2528 => [.int .i64 (s.Fans.f k2528)]), .slc 1 s.Doors.n (fun k2529 => [.int .i64 (s.Doors.f k2529)])], .agg [.slc 1 x.Pressures.n (fun k2530 => [.int .i64 (x.Pressures.f k2530)]), .slc 1 x.Flows.n (fun k2531 => [.int .i64 (x.Flows.f k2531)])]], [.var [.slc 1 c.l_.n (fun k2532 => [.int .u8 (c.l_.f k2532)]), .int .i64 c.at_], .var [.own 2 0, .own 3 0, .own 4 0, .own 5 0], .row 0 2 a.Mine.Places.n 70 (fun k2533 => (SPlace.enc (a.Mine.Places.f k2533))), .row 0 10 a.Mine.Roads.n 64 (fun k2534 => (SRoad.enc (a.Mine.Roads.f k2534))), .row 0 4 a.Fans.n 44 (fun k2535 => (SFan.enc (a.Fans.f k2535))), .row 0 3 a.Doors.n 46 (fun k2536 => (SDoor.enc (a.Doors.f k2536)))])
def Codes_fit_enc (p : SCodes × SAir × SSetting × SState) : List AV × List Blk := Codes_fit_encC p.1 p.2.1 p.2.2.1 p.2.2.2
theorem Codes_fit_inj (p q : SCodes × SAir × SSetting × SState) (h : Codes_fit_enc p = Codes_fit_enc q) : p = q :=
  (Prod.ext (SCodes.ext2 (Sq.av_inj intE_u8 (a := p.1.l_) (b := q.1.l_) (congrArg (fun x : List AV × List Blk => cellB x.2 0 0) h)) (show p.1.at_ = q.1.at_ from congrArg intA (congrArg (fun x : List AV × List Blk => cellB x.2 0 1) h))) (Prod.ext (SAir.ext2 (SMine.ext2 (Sq.row_inj SPlace.inj (a := p.2.1.Mine.Places) (b := q.2.1.Mine.Places) (congrArg (fun x : List AV × List Blk => x.2.getD 2 (.dead 0)) h)) (Sq.row_inj SRoad.inj (a := p.2.1.Mine.Roads) (b := q.2.1.Mine.Roads) (congrArg (fun x : List AV × List Blk => x.2.getD 3 (.dead 0)) h))) (Sq.row_inj SFan.inj (a := p.2.1.Fans) (b := q.2.1.Fans) (congrArg (fun x : List AV × List Blk => x.2.getD 4 (.dead 0)) h)) (Sq.row_inj SDoor.inj (a := p.2.1.Doors) (b := q.2.1.Doors) (congrArg (fun x : List AV × List Blk => x.2.getD 5 (.dead 0)) h))) (Prod.ext (SSetting.ext2 (Sq.av_inj intE_i64 (a := p.2.2.1.Fans) (b := q.2.2.1.Fans) (congrArg (fun x : List AV × List Blk => argC x.1 2 0) h)) (Sq.av_inj intE_i64 (a := p.2.2.1.Doors) (b := q.2.2.1.Doors) (congrArg (fun x : List AV × List Blk => argC x.1 2 1) h))) (SState.ext2 (Sq.av_inj intE_i64 (a := p.2.2.2.Pressures) (b := q.2.2.2.Pressures) (congrArg (fun x : List AV × List Blk => argC x.1 3 0) h)) (Sq.av_inj intE_i64 (a := p.2.2.2.Flows) (b := q.2.2.2.Flows) (congrArg (fun x : List AV × List Blk => argC x.1 3 1) h))))))
def Codes_fit_l8_s (p : (Int × (Sq Int) × Int × (Sq SPlace) × (Sq SRoad) × (Sq SFan) × (Sq SDoor) × (Sq Int) × (Sq Int) × (Sq Int) × (Sq Int) × Int × Nat) × (Int × Int)) : St := ⟨[(0, .ptr 0 0), (1, .ptr 1 0), (6, .ptr 6 0), (7, .ptr 70 0), (8, .int .i64 p.1.2.2.2.2.2.2.2.2.2.2.2.1), (9, .rptr 3 0 10 p.1.2.2.2.2.2.2.2.2.2.2.2.2 0), (10, .int .i64 p.1.1), (11, .int .i64 p.2.1), (12, .int .i64 p.2.2)], [(0, .var [.slc 1 p.1.2.1.n (fun k2537 => [.int .u8 (p.1.2.1.f k2537)]), .int .i64 p.1.2.2.1]), (1, .var [.own 2 0, .own 3 0, .own 4 0, .own 5 0]), (2, .row 0 2 p.1.2.2.2.1.n 70 (fun k2538 => (SPlace.enc (p.1.2.2.2.1.f k2538)))), (3, .row 0 10 p.1.2.2.2.2.1.n 64 (fun k2539 => (SRoad.enc (p.1.2.2.2.2.1.f k2539)))), (4, .row 0 4 p.1.2.2.2.2.2.1.n 44 (fun k2540 => (SFan.enc (p.1.2.2.2.2.2.1.f k2540)))), (5, .row 0 3 p.1.2.2.2.2.2.2.1.n 46 (fun k2541 => (SDoor.enc (p.1.2.2.2.2.2.2.1.f k2541)))), (6, .var [.slc 1 p.1.2.2.2.2.2.2.2.1.n (fun k2542 => [.int .i64 (p.1.2.2.2.2.2.2.2.1.f k2542)]), .slc 1 p.1.2.2.2.2.2.2.2.2.1.n (fun k2543 => [.int .i64 (p.1.2.2.2.2.2.2.2.2.1.f k2543)])]), (70, .var [.slc 1 p.1.2.2.2.2.2.2.2.2.2.1.n (fun k2544 => [.int .i64 (p.1.2.2.2.2.2.2.2.2.2.1.f k2544)]), .slc 1 p.1.2.2.2.2.2.2.2.2.2.2.1.n (fun k2545 => [.int .i64 (p.1.2.2.2.2.2.2.2.2.2.2.1.f k2545)])])], 3014⟩
theorem Codes_fit_l8_inj (p q : (Int × (Sq Int) × Int × (Sq SPlace) × (Sq SRoad) × (Sq SFan) × (Sq SDoor) × (Sq Int) × (Sq Int) × (Sq Int) × (Sq Int) × Int × Nat) × (Int × Int)) (h : Codes_fit_l8_s p = Codes_fit_l8_s q) : p = q :=
  Prod.ext (Prod.ext (show p.1.1 = q.1.1 from congrArg intA (congrArg (fun x : St => aget x.tm 10) h)) (Prod.ext (Sq.av_inj intE_u8 (a := p.1.2.1) (b := q.1.2.1) (congrArg (fun x : St => cellS x 0 0) h)) (Prod.ext (show p.1.2.2.1 = q.1.2.2.1 from congrArg intA (congrArg (fun x : St => cellS x 0 1) h)) (Prod.ext (Sq.row_inj SPlace.inj (a := p.1.2.2.2.1) (b := q.1.2.2.2.1) (congrArg (fun x : St => blkS x 2) h)) (Prod.ext (Sq.row_inj SRoad.inj (a := p.1.2.2.2.2.1) (b := q.1.2.2.2.2.1) (congrArg (fun x : St => blkS x 3) h)) (Prod.ext (Sq.row_inj SFan.inj (a := p.1.2.2.2.2.2.1) (b := q.1.2.2.2.2.2.1) (congrArg (fun x : St => blkS x 4) h)) (Prod.ext (Sq.row_inj SDoor.inj (a := p.1.2.2.2.2.2.2.1) (b := q.1.2.2.2.2.2.2.1) (congrArg (fun x : St => blkS x 5) h)) (Prod.ext (Sq.av_inj intE_i64 (a := p.1.2.2.2.2.2.2.2.1) (b := q.1.2.2.2.2.2.2.2.1) (congrArg (fun x : St => cellS x 6 0) h)) (Prod.ext (Sq.av_inj intE_i64 (a := p.1.2.2.2.2.2.2.2.2.1) (b := q.1.2.2.2.2.2.2.2.2.1) (congrArg (fun x : St => cellS x 6 1) h)) (Prod.ext (Sq.av_inj intE_i64 (a := p.1.2.2.2.2.2.2.2.2.2.1) (b := q.1.2.2.2.2.2.2.2.2.2.1) (congrArg (fun x : St => cellS x 70 0) h)) (Prod.ext (Sq.av_inj intE_i64 (a := p.1.2.2.2.2.2.2.2.2.2.2.1) (b := q.1.2.2.2.2.2.2.2.2.2.2.1) (congrArg (fun x : St => cellS x 70 1) h)) (Prod.ext (show p.1.2.2.2.2.2.2.2.2.2.2.2.1 = q.1.2.2.2.2.2.2.2.2.2.2.2.1 from congrArg intA (congrArg (fun x : St => aget x.tm 8) h)) (show p.1.2.2.2.2.2.2.2.2.2.2.2.2 = q.1.2.2.2.2.2.2.2.2.2.2.2.2 from (congrArg (fun x : St => rptrK (aget x.tm 9)) h)))))))))))))) (Prod.ext (show p.2.1 = q.2.1 from congrArg intA (congrArg (fun x : St => aget x.tm 11) h)) (show p.2.2 = q.2.2 from congrArg intA (congrArg (fun x : St => aget x.tm 12) h)))
noncomputable def Codes_fit_l8_step (_q_8_0 : Int) (_v8_2 : (Sq Int)) (_v8_3 : Int) (_v8_4 : (Sq SPlace)) (_v8_5 : (Sq SRoad)) (_v8_6 : (Sq SFan)) (v8_7 : (Sq SDoor)) (_v8_8 : (Sq Int)) (v8_9 : (Sq Int)) (_v8_10 : (Sq Int)) (_v8_11 : (Sq Int)) (i_8_13 : Int) (_r_8_14 : Nat) (rest_8_1 : Int) (k_8_12 : Int) : DT (LR (Int × Int) (Int) (Unit)) :=
  .ite (decide (k_8_12 < ((v8_7.n : Nat) : Int))) (
    .ite (decide ((0 : Int) ≤ k_8_12 ∧ k_8_12 < ((v8_7.n : Nat) : Int))) (
      .ite ((v8_7.f (Int.toNat k_8_12)).Road == i_8_13) (
        .ite (decide ((0 : Int) ≤ k_8_12 ∧ k_8_12 < ((v8_7.n : Nat) : Int))) (
          .ite (decide ((0 : Int) ≤ k_8_12 ∧ k_8_12 < ((v8_9.n : Nat) : Int))) (
            .bind (ref08_Rest (v8_7.f (Int.toNat k_8_12)) (v8_9.f (Int.toNat k_8_12))) fun z852 =>
            .leaf (.next ((wr (rest_8_1 + z852.Low)), (wr (k_8_12 + (1 : Int)))))) (
            .fail)) (
          .fail)) (
        .leaf (.next (rest_8_1, (wr (k_8_12 + (1 : Int))))))) (
      .fail)) (
    .leaf (.l rest_8_1))
def Codes_fit_l8_el (x : St) (a : Int) : St := ⟨[(0, .ptr 0 0), (1, .ptr 1 0), (6, .ptr 6 0), (7, .ptr 70 0), (8, aget x.tm 8), (9, aget x.tm 9), (10, aget x.tm 10), (11, .int .i64 a)], [(0, blkS x 0), (1, .var [.own 2 0, .own 3 0, .own 4 0, .own 5 0]), (2, blkS x 2), (3, blkS x 3), (4, blkS x 4), (5, blkS x 5), (6, blkS x 6), (70, blkS x 70)], 3014⟩
def Codes_fit_l8_er (_ : St) (_ : Unit) : St := ⟨[], [], 0⟩
noncomputable def Codes_fit_l8_f (p : (Int × (Sq Int) × Int × (Sq SPlace) × (Sq SRoad) × (Sq SFan) × (Sq SDoor) × (Sq Int) × (Sq Int) × (Sq Int) × (Sq Int) × Int × Nat) × (Int × Int)) : Option ((Int) ⊕ (Unit)) := fixO (fun v : Int × Int => Codes_fit_l8_step p.1.1 p.1.2.1 p.1.2.2.1 p.1.2.2.2.1 p.1.2.2.2.2.1 p.1.2.2.2.2.2.1 p.1.2.2.2.2.2.2.1 p.1.2.2.2.2.2.2.2.1 p.1.2.2.2.2.2.2.2.2.1 p.1.2.2.2.2.2.2.2.2.2.1 p.1.2.2.2.2.2.2.2.2.2.2.1 p.1.2.2.2.2.2.2.2.2.2.2.2.1 p.1.2.2.2.2.2.2.2.2.2.2.2.2 v.1 v.2) p.2
noncomputable def Codes_fit_l8_c : St → Option LRes := loopM Codes_fit_l8_s Codes_fit_l8_f true (.exit 2) Codes_fit_l8_el .ret Codes_fit_l8_er
noncomputable def Codes_fit_l8 (q_8_0 : Int) (v8_2 : (Sq Int)) (v8_3 : Int) (v8_4 : (Sq SPlace)) (v8_5 : (Sq SRoad)) (v8_6 : (Sq SFan)) (v8_7 : (Sq SDoor)) (v8_8 : (Sq Int)) (v8_9 : (Sq Int)) (v8_10 : (Sq Int)) (v8_11 : (Sq Int)) (i_8_13 : Int) (r_8_14 : Nat) (rest_8_1 : Int) (k_8_12 : Int) : Option ((Int) ⊕ (Unit)) := gOfS Codes_fit_l8_s Codes_fit_l8_f (Codes_fit_l8_s ((q_8_0, v8_2, v8_3, v8_4, v8_5, v8_6, v8_7, v8_8, v8_9, v8_10, v8_11, i_8_13, r_8_14), (rest_8_1, k_8_12)))
theorem Codes_fit_l8_eq (q_8_0 : Int) (v8_2 : (Sq Int)) (v8_3 : Int) (v8_4 : (Sq SPlace)) (v8_5 : (Sq SRoad)) (v8_6 : (Sq SFan)) (v8_7 : (Sq SDoor)) (v8_8 : (Sq Int)) (v8_9 : (Sq Int)) (v8_10 : (Sq Int)) (v8_11 : (Sq Int)) (i_8_13 : Int) (r_8_14 : Nat) (rest_8_1 : Int) (k_8_12 : Int) : Codes_fit_l8 q_8_0 v8_2 v8_3 v8_4 v8_5 v8_6 v8_7 v8_8 v8_9 v8_10 v8_11 i_8_13 r_8_14 rest_8_1 k_8_12 = fixO (fun v : Int × Int => Codes_fit_l8_step q_8_0 v8_2 v8_3 v8_4 v8_5 v8_6 v8_7 v8_8 v8_9 v8_10 v8_11 i_8_13 r_8_14 v.1 v.2) (rest_8_1, k_8_12) := gOfS_eq Codes_fit_l8_inj Codes_fit_l8_f ((q_8_0, v8_2, v8_3, v8_4, v8_5, v8_6, v8_7, v8_8, v8_9, v8_10, v8_11, i_8_13, r_8_14), (rest_8_1, k_8_12))
def Codes_fit_l14_s (p : (Int × (Sq Int) × Int × (Sq SPlace) × (Sq SRoad) × (Sq SFan) × (Sq SDoor) × (Sq Int) × (Sq Int) × (Sq Int) × (Sq Int) × Int × Nat) × (Int × Int)) : St := ⟨[(0, .ptr 0 0), (1, .ptr 1 0), (6, .ptr 6 0), (7, .ptr 70 0), (8, .int .i64 p.1.2.2.2.2.2.2.2.2.2.2.2.1), (9, .rptr 3 0 10 p.1.2.2.2.2.2.2.2.2.2.2.2.2 0), (10, .int .i64 p.1.1), (13, .int .i64 p.2.1), (14, .int .i64 p.2.2)], [(0, .var [.slc 1 p.1.2.1.n (fun k2546 => [.int .u8 (p.1.2.1.f k2546)]), .int .i64 p.1.2.2.1]), (1, .var [.own 2 0, .own 3 0, .own 4 0, .own 5 0]), (2, .row 0 2 p.1.2.2.2.1.n 70 (fun k2547 => (SPlace.enc (p.1.2.2.2.1.f k2547)))), (3, .row 0 10 p.1.2.2.2.2.1.n 64 (fun k2548 => (SRoad.enc (p.1.2.2.2.2.1.f k2548)))), (4, .row 0 4 p.1.2.2.2.2.2.1.n 44 (fun k2549 => (SFan.enc (p.1.2.2.2.2.2.1.f k2549)))), (5, .row 0 3 p.1.2.2.2.2.2.2.1.n 46 (fun k2550 => (SDoor.enc (p.1.2.2.2.2.2.2.1.f k2550)))), (6, .var [.slc 1 p.1.2.2.2.2.2.2.2.1.n (fun k2551 => [.int .i64 (p.1.2.2.2.2.2.2.2.1.f k2551)]), .slc 1 p.1.2.2.2.2.2.2.2.2.1.n (fun k2552 => [.int .i64 (p.1.2.2.2.2.2.2.2.2.1.f k2552)])]), (70, .var [.slc 1 p.1.2.2.2.2.2.2.2.2.2.1.n (fun k2553 => [.int .i64 (p.1.2.2.2.2.2.2.2.2.2.1.f k2553)]), .slc 1 p.1.2.2.2.2.2.2.2.2.2.2.1.n (fun k2554 => [.int .i64 (p.1.2.2.2.2.2.2.2.2.2.2.1.f k2554)])])], 4806⟩
theorem Codes_fit_l14_inj (p q : (Int × (Sq Int) × Int × (Sq SPlace) × (Sq SRoad) × (Sq SFan) × (Sq SDoor) × (Sq Int) × (Sq Int) × (Sq Int) × (Sq Int) × Int × Nat) × (Int × Int)) (h : Codes_fit_l14_s p = Codes_fit_l14_s q) : p = q :=
  Prod.ext (Prod.ext (show p.1.1 = q.1.1 from congrArg intA (congrArg (fun x : St => aget x.tm 10) h)) (Prod.ext (Sq.av_inj intE_u8 (a := p.1.2.1) (b := q.1.2.1) (congrArg (fun x : St => cellS x 0 0) h)) (Prod.ext (show p.1.2.2.1 = q.1.2.2.1 from congrArg intA (congrArg (fun x : St => cellS x 0 1) h)) (Prod.ext (Sq.row_inj SPlace.inj (a := p.1.2.2.2.1) (b := q.1.2.2.2.1) (congrArg (fun x : St => blkS x 2) h)) (Prod.ext (Sq.row_inj SRoad.inj (a := p.1.2.2.2.2.1) (b := q.1.2.2.2.2.1) (congrArg (fun x : St => blkS x 3) h)) (Prod.ext (Sq.row_inj SFan.inj (a := p.1.2.2.2.2.2.1) (b := q.1.2.2.2.2.2.1) (congrArg (fun x : St => blkS x 4) h)) (Prod.ext (Sq.row_inj SDoor.inj (a := p.1.2.2.2.2.2.2.1) (b := q.1.2.2.2.2.2.2.1) (congrArg (fun x : St => blkS x 5) h)) (Prod.ext (Sq.av_inj intE_i64 (a := p.1.2.2.2.2.2.2.2.1) (b := q.1.2.2.2.2.2.2.2.1) (congrArg (fun x : St => cellS x 6 0) h)) (Prod.ext (Sq.av_inj intE_i64 (a := p.1.2.2.2.2.2.2.2.2.1) (b := q.1.2.2.2.2.2.2.2.2.1) (congrArg (fun x : St => cellS x 6 1) h)) (Prod.ext (Sq.av_inj intE_i64 (a := p.1.2.2.2.2.2.2.2.2.2.1) (b := q.1.2.2.2.2.2.2.2.2.2.1) (congrArg (fun x : St => cellS x 70 0) h)) (Prod.ext (Sq.av_inj intE_i64 (a := p.1.2.2.2.2.2.2.2.2.2.2.1) (b := q.1.2.2.2.2.2.2.2.2.2.2.1) (congrArg (fun x : St => cellS x 70 1) h)) (Prod.ext (show p.1.2.2.2.2.2.2.2.2.2.2.2.1 = q.1.2.2.2.2.2.2.2.2.2.2.2.1 from congrArg intA (congrArg (fun x : St => aget x.tm 8) h)) (show p.1.2.2.2.2.2.2.2.2.2.2.2.2 = q.1.2.2.2.2.2.2.2.2.2.2.2.2 from (congrArg (fun x : St => rptrK (aget x.tm 9)) h)))))))))))))) (Prod.ext (show p.2.1 = q.2.1 from congrArg intA (congrArg (fun x : St => aget x.tm 13) h)) (show p.2.2 = q.2.2 from congrArg intA (congrArg (fun x : St => aget x.tm 14) h)))
noncomputable def Codes_fit_l14_step (q_14_0 : Int) (_v14_2 : (Sq Int)) (_v14_3 : Int) (_v14_4 : (Sq SPlace)) (_v14_5 : (Sq SRoad)) (v14_6 : (Sq SFan)) (_v14_7 : (Sq SDoor)) (v14_8 : (Sq Int)) (_v14_9 : (Sq Int)) (_v14_10 : (Sq Int)) (_v14_11 : (Sq Int)) (i_14_13 : Int) (_r_14_14 : Nat) (lift_14_1 : Int) (k_14_12 : Int) : DT (LR (Int × Int) (Int) (Unit)) :=
  .ite (decide (k_14_12 < ((v14_6.n : Nat) : Int))) (
    .ite (decide ((0 : Int) ≤ k_14_12 ∧ k_14_12 < ((v14_6.n : Nat) : Int))) (
      .ite ((v14_6.f (Int.toNat k_14_12)).Road == i_14_13) (
        .ite (decide ((0 : Int) ≤ k_14_12 ∧ k_14_12 < ((v14_6.n : Nat) : Int))) (
          .ite (decide ((0 : Int) ≤ k_14_12 ∧ k_14_12 < ((v14_8.n : Nat) : Int))) (
            .bind (ref07_State (v14_6.f (Int.toNat k_14_12)) (v14_8.f (Int.toNat k_14_12)) q_14_0) fun z854 =>
            .leaf (.next ((wr (lift_14_1 - z854.Low)), (wr (k_14_12 + (1 : Int)))))) (
            .fail)) (
          .fail)) (
        .leaf (.next (lift_14_1, (wr (k_14_12 + (1 : Int))))))) (
      .fail)) (
    .leaf (.l lift_14_1))
def Codes_fit_l14_el (x : St) (a : Int) : St := ⟨[(0, .ptr 0 0), (1, .ptr 1 0), (6, .ptr 6 0), (7, .ptr 70 0), (8, aget x.tm 8), (9, aget x.tm 9), (13, .int .i64 a)], [(0, blkS x 0), (1, .var [.own 2 0, .own 3 0, .own 4 0, .own 5 0]), (2, blkS x 2), (3, blkS x 3), (4, blkS x 4), (5, blkS x 5), (6, blkS x 6), (70, blkS x 70)], 4806⟩
def Codes_fit_l14_er (_ : St) (_ : Unit) : St := ⟨[], [], 0⟩
noncomputable def Codes_fit_l14_f (p : (Int × (Sq Int) × Int × (Sq SPlace) × (Sq SRoad) × (Sq SFan) × (Sq SDoor) × (Sq Int) × (Sq Int) × (Sq Int) × (Sq Int) × Int × Nat) × (Int × Int)) : Option ((Int) ⊕ (Unit)) := fixO (fun v : Int × Int => Codes_fit_l14_step p.1.1 p.1.2.1 p.1.2.2.1 p.1.2.2.2.1 p.1.2.2.2.2.1 p.1.2.2.2.2.2.1 p.1.2.2.2.2.2.2.1 p.1.2.2.2.2.2.2.2.1 p.1.2.2.2.2.2.2.2.2.1 p.1.2.2.2.2.2.2.2.2.2.1 p.1.2.2.2.2.2.2.2.2.2.2.1 p.1.2.2.2.2.2.2.2.2.2.2.2.1 p.1.2.2.2.2.2.2.2.2.2.2.2.2 v.1 v.2) p.2
noncomputable def Codes_fit_l14_c : St → Option LRes := loopM Codes_fit_l14_s Codes_fit_l14_f true (.exit 4) Codes_fit_l14_el .ret Codes_fit_l14_er
noncomputable def Codes_fit_l14 (q_14_0 : Int) (v14_2 : (Sq Int)) (v14_3 : Int) (v14_4 : (Sq SPlace)) (v14_5 : (Sq SRoad)) (v14_6 : (Sq SFan)) (v14_7 : (Sq SDoor)) (v14_8 : (Sq Int)) (v14_9 : (Sq Int)) (v14_10 : (Sq Int)) (v14_11 : (Sq Int)) (i_14_13 : Int) (r_14_14 : Nat) (lift_14_1 : Int) (k_14_12 : Int) : Option ((Int) ⊕ (Unit)) := gOfS Codes_fit_l14_s Codes_fit_l14_f (Codes_fit_l14_s ((q_14_0, v14_2, v14_3, v14_4, v14_5, v14_6, v14_7, v14_8, v14_9, v14_10, v14_11, i_14_13, r_14_14), (lift_14_1, k_14_12)))
theorem Codes_fit_l14_eq (q_14_0 : Int) (v14_2 : (Sq Int)) (v14_3 : Int) (v14_4 : (Sq SPlace)) (v14_5 : (Sq SRoad)) (v14_6 : (Sq SFan)) (v14_7 : (Sq SDoor)) (v14_8 : (Sq Int)) (v14_9 : (Sq Int)) (v14_10 : (Sq Int)) (v14_11 : (Sq Int)) (i_14_13 : Int) (r_14_14 : Nat) (lift_14_1 : Int) (k_14_12 : Int) : Codes_fit_l14 q_14_0 v14_2 v14_3 v14_4 v14_5 v14_6 v14_7 v14_8 v14_9 v14_10 v14_11 i_14_13 r_14_14 lift_14_1 k_14_12 = fixO (fun v : Int × Int => Codes_fit_l14_step q_14_0 v14_2 v14_3 v14_4 v14_5 v14_6 v14_7 v14_8 v14_9 v14_10 v14_11 i_14_13 r_14_14 v.1 v.2) (lift_14_1, k_14_12) := gOfS_eq Codes_fit_l14_inj Codes_fit_l14_f ((q_14_0, v14_2, v14_3, v14_4, v14_5, v14_6, v14_7, v14_8, v14_9, v14_10, v14_11, i_14_13, r_14_14), (lift_14_1, k_14_12))
def Codes_fit_l2_s (p : ((Sq Int) × (Sq SPlace) × (Sq SFan) × (Sq SDoor) × (Sq Int) × (Sq Int) × (Sq Int) × (Sq Int)) × (Int × (Sq SRoad) × Int)) : St := ⟨[(0, .ptr 0 0), (1, .ptr 1 0), (6, .ptr 6 0), (7, .ptr 70 0), (8, .int .i64 p.2.2.2)], [(0, .var [.slc 1 p.1.1.n (fun k2555 => [.int .u8 (p.1.1.f k2555)]), .int .i64 p.2.1]), (1, .var [.own 2 0, .own 3 0, .own 4 0, .own 5 0]), (2, .row 0 2 p.1.2.1.n 70 (fun k2556 => (SPlace.enc (p.1.2.1.f k2556)))), (3, .row 0 10 p.2.2.1.n 64 (fun k2557 => (SRoad.enc (p.2.2.1.f k2557)))), (4, .row 0 4 p.1.2.2.1.n 44 (fun k2558 => (SFan.enc (p.1.2.2.1.f k2558)))), (5, .row 0 3 p.1.2.2.2.1.n 46 (fun k2559 => (SDoor.enc (p.1.2.2.2.1.f k2559)))), (6, .var [.slc 1 p.1.2.2.2.2.1.n (fun k2560 => [.int .i64 (p.1.2.2.2.2.1.f k2560)]), .slc 1 p.1.2.2.2.2.2.1.n (fun k2561 => [.int .i64 (p.1.2.2.2.2.2.1.f k2561)])]), (70, .var [.slc 1 p.1.2.2.2.2.2.2.1.n (fun k2562 => [.int .i64 (p.1.2.2.2.2.2.2.1.f k2562)]), .slc 1 p.1.2.2.2.2.2.2.2.n (fun k2563 => [.int .i64 (p.1.2.2.2.2.2.2.2.f k2563)])])], 198⟩
theorem Codes_fit_l2_inj (p q : ((Sq Int) × (Sq SPlace) × (Sq SFan) × (Sq SDoor) × (Sq Int) × (Sq Int) × (Sq Int) × (Sq Int)) × (Int × (Sq SRoad) × Int)) (h : Codes_fit_l2_s p = Codes_fit_l2_s q) : p = q :=
  Prod.ext (Prod.ext (Sq.av_inj intE_u8 (a := p.1.1) (b := q.1.1) (congrArg (fun x : St => cellS x 0 0) h)) (Prod.ext (Sq.row_inj SPlace.inj (a := p.1.2.1) (b := q.1.2.1) (congrArg (fun x : St => blkS x 2) h)) (Prod.ext (Sq.row_inj SFan.inj (a := p.1.2.2.1) (b := q.1.2.2.1) (congrArg (fun x : St => blkS x 4) h)) (Prod.ext (Sq.row_inj SDoor.inj (a := p.1.2.2.2.1) (b := q.1.2.2.2.1) (congrArg (fun x : St => blkS x 5) h)) (Prod.ext (Sq.av_inj intE_i64 (a := p.1.2.2.2.2.1) (b := q.1.2.2.2.2.1) (congrArg (fun x : St => cellS x 6 0) h)) (Prod.ext (Sq.av_inj intE_i64 (a := p.1.2.2.2.2.2.1) (b := q.1.2.2.2.2.2.1) (congrArg (fun x : St => cellS x 6 1) h)) (Prod.ext (Sq.av_inj intE_i64 (a := p.1.2.2.2.2.2.2.1) (b := q.1.2.2.2.2.2.2.1) (congrArg (fun x : St => cellS x 70 0) h)) (Sq.av_inj intE_i64 (a := p.1.2.2.2.2.2.2.2) (b := q.1.2.2.2.2.2.2.2) (congrArg (fun x : St => cellS x 70 1) h))))))))) (Prod.ext (show p.2.1 = q.2.1 from congrArg intA (congrArg (fun x : St => cellS x 0 1) h)) (Prod.ext (Sq.row_inj SRoad.inj (a := p.2.2.1) (b := q.2.2.1) (congrArg (fun x : St => blkS x 3) h)) (show p.2.2.2 = q.2.2.2 from congrArg intA (congrArg (fun x : St => aget x.tm 8) h))))
noncomputable def Codes_fit_l2_step (v2_0 : (Sq Int)) (v2_2 : (Sq SPlace)) (v2_4 : (Sq SFan)) (v2_5 : (Sq SDoor)) (v2_6 : (Sq Int)) (v2_7 : (Sq Int)) (v2_8 : (Sq Int)) (v2_9 : (Sq Int)) (v2_1 : Int) (v2_3 : (Sq SRoad)) (i_2_10 : Int) : DT (LR (Int × (Sq SRoad) × Int) (Int × (Sq SRoad)) (Unit)) :=
  .ite (decide (i_2_10 < ((v2_3.n : Nat) : Int))) (
    .ite (decide ((0 : Int) ≤ i_2_10 ∧ i_2_10 < ((v2_3.n : Nat) : Int))) (
      .ite (decide ((0 : Int) ≤ i_2_10 ∧ i_2_10 < ((v2_9.n : Nat) : Int))) (
        .bind (Codes_Next (SCodes.mk v2_0 v2_1) (wr ((wr ((v2_3.f (Int.toNat i_2_10)).Rest.High - (v2_3.f (Int.toNat i_2_10)).Rest.Low)) + (1 : Int)))) fun z851 =>
        .sum (Codes_fit_l8 (v2_9.f (Int.toNat i_2_10)) v2_0 z851.2 v2_2 v2_3 v2_4 v2_5 v2_6 v2_7 v2_8 v2_9 i_2_10 (Int.toNat i_2_10) (wr ((v2_3.f (Int.toNat i_2_10)).Rest.Low + z851.1)) (0 : Int)) (fun y853 =>
          .ite (decide ((0 : Int) ≤ (v2_3.f (Int.toNat i_2_10)).From ∧ (v2_3.f (Int.toNat i_2_10)).From < ((v2_8.n : Nat) : Int))) (
            .ite (decide ((0 : Int) ≤ (v2_3.f (Int.toNat i_2_10)).To ∧ (v2_3.f (Int.toNat i_2_10)).To < ((v2_8.n : Nat) : Int))) (
              .sum (Codes_fit_l14 (v2_9.f (Int.toNat i_2_10)) v2_0 z851.2 v2_2 v2_3 v2_4 v2_5 v2_6 v2_7 v2_8 v2_9 i_2_10 (Int.toNat i_2_10) (wr ((wr ((wr (y853 * (if (v2_9.f (Int.toNat i_2_10)) < (wr (0 - (v2_9.f (Int.toNat i_2_10)))) then (wr (0 - (v2_9.f (Int.toNat i_2_10)))) else (v2_9.f (Int.toNat i_2_10))))) * (v2_9.f (Int.toNat i_2_10)))) - (wr ((v2_8.f (Int.toNat (v2_3.f (Int.toNat i_2_10)).From)) - (v2_8.f (Int.toNat (v2_3.f (Int.toNat i_2_10)).To)))))) (0 : Int)) (fun y855 =>
                .bind (Codes_Next (SCodes.mk v2_0 z851.2) (30 : Int)) fun z856 =>
                .bind (Codes_Next (SCodes.mk v2_0 z856.2) (30 : Int)) fun z857 =>
                .leaf (.next (z857.2, (Sq.mk v2_3.n (fun k858 => (SRoad.mk (cond (Nat.beq k858 (Int.toNat i_2_10)) (v2_3.f (Int.toNat i_2_10)).From (v2_3.f k858).From) (cond (Nat.beq k858 (Int.toNat i_2_10)) (v2_3.f (Int.toNat i_2_10)).To (v2_3.f k858).To) (cond (Nat.beq k858 (Int.toNat i_2_10)) (v2_3.f (Int.toNat i_2_10)).Length (v2_3.f k858).Length) (cond (Nat.beq k858 (Int.toNat i_2_10)) (v2_3.f (Int.toNat i_2_10)).Area (v2_3.f k858).Area) (cond (Nat.beq k858 (Int.toNat i_2_10)) (v2_3.f (Int.toNat i_2_10)).Walk (v2_3.f k858).Walk) (cond (Nat.beq k858 (Int.toNat i_2_10)) (v2_3.f (Int.toNat i_2_10)).Closed (v2_3.f k858).Closed) (SSpan.mk (cond (Nat.beq k858 (Int.toNat i_2_10)) (v2_3.f (Int.toNat i_2_10)).Rest.Low (v2_3.f k858).Rest.Low) (cond (Nat.beq k858 (Int.toNat i_2_10)) (v2_3.f (Int.toNat i_2_10)).Rest.High (v2_3.f k858).Rest.High)) (SSpan.mk (cond (Nat.beq k858 (Int.toNat i_2_10)) (wr (y855 - z856.1)) (v2_3.f k858).Lift.Low) (cond (Nat.beq k858 (Int.toNat i_2_10)) (wr (y855 + z857.1)) (v2_3.f k858).Lift.High))))), (wr (i_2_10 + (1 : Int)))))) (fun _ =>
                .fail)) (
              .fail)) (
            .fail)) (fun _ =>
          .fail)) (
        .fail)) (
      .fail)) (
    .leaf (.l (v2_1, v2_3)))
def Codes_fit_l2_el (x : St) (a : Int × (Sq SRoad)) : St := ⟨[], [(0, .var [cellS x 0 0, .int .i64 a.1]), (1, .var [.own 2 0, .own 3 0, .own 4 0, .own 5 0]), (2, blkS x 2), (3, .row 0 10 a.2.n 64 (fun k2564 => (SRoad.enc (a.2.f k2564)))), (4, blkS x 4), (5, blkS x 5), (6, blkS x 6), (70, blkS x 70)], 198⟩
def Codes_fit_l2_er (_ : St) (_ : Unit) : St := ⟨[], [], 0⟩
noncomputable def Codes_fit_l2_f (p : ((Sq Int) × (Sq SPlace) × (Sq SFan) × (Sq SDoor) × (Sq Int) × (Sq Int) × (Sq Int) × (Sq Int)) × (Int × (Sq SRoad) × Int)) : Option ((Int × (Sq SRoad)) ⊕ (Unit)) := fixO (fun v : Int × (Sq SRoad) × Int => Codes_fit_l2_step p.1.1 p.1.2.1 p.1.2.2.1 p.1.2.2.2.1 p.1.2.2.2.2.1 p.1.2.2.2.2.2.1 p.1.2.2.2.2.2.2.1 p.1.2.2.2.2.2.2.2 v.1 v.2.1 v.2.2) p.2
noncomputable def Codes_fit_l2_c : St → Option LRes := loopM Codes_fit_l2_s Codes_fit_l2_f true (.exit 0) Codes_fit_l2_el .ret Codes_fit_l2_er
noncomputable def Codes_fit_l2 (v2_0 : (Sq Int)) (v2_2 : (Sq SPlace)) (v2_4 : (Sq SFan)) (v2_5 : (Sq SDoor)) (v2_6 : (Sq Int)) (v2_7 : (Sq Int)) (v2_8 : (Sq Int)) (v2_9 : (Sq Int)) (v2_1 : Int) (v2_3 : (Sq SRoad)) (i_2_10 : Int) : Option ((Int × (Sq SRoad)) ⊕ (Unit)) := gOfS Codes_fit_l2_s Codes_fit_l2_f (Codes_fit_l2_s ((v2_0, v2_2, v2_4, v2_5, v2_6, v2_7, v2_8, v2_9), (v2_1, v2_3, i_2_10)))
theorem Codes_fit_l2_eq (v2_0 : (Sq Int)) (v2_2 : (Sq SPlace)) (v2_4 : (Sq SFan)) (v2_5 : (Sq SDoor)) (v2_6 : (Sq Int)) (v2_7 : (Sq Int)) (v2_8 : (Sq Int)) (v2_9 : (Sq Int)) (v2_1 : Int) (v2_3 : (Sq SRoad)) (i_2_10 : Int) : Codes_fit_l2 v2_0 v2_2 v2_4 v2_5 v2_6 v2_7 v2_8 v2_9 v2_1 v2_3 i_2_10 = fixO (fun v : Int × (Sq SRoad) × Int => Codes_fit_l2_step v2_0 v2_2 v2_4 v2_5 v2_6 v2_7 v2_8 v2_9 v.1 v.2.1 v.2.2) (v2_1, v2_3, i_2_10) := gOfS_eq Codes_fit_l2_inj Codes_fit_l2_f ((v2_0, v2_2, v2_4, v2_5, v2_6, v2_7, v2_8, v2_9), (v2_1, v2_3, i_2_10))
noncomputable def Codes_fit_t (c : SCodes) (a : SAir) (s : SSetting) (x : SState) : DT (Int × (Sq SRoad)) :=
  .sum (Codes_fit_l2 c.l_ a.Mine.Places a.Fans a.Doors s.Fans s.Doors x.Pressures x.Flows c.at_ a.Mine.Roads (0 : Int)) (fun y859 =>
    .leaf (y859.1, y859.2)) (fun _ =>
    .fail)
def Codes_fit_av (_ : Int × (Sq SRoad)) : AV := .tup []
def Codes_fit_outs (ins : List Blk) (r : Int × (Sq SRoad)) : List Blk := [.var [cellB ins 0 0, .int .i64 r.1], ins.getD 1 (.dead 0), ins.getD 2 (.dead 0), .row 0 10 r.2.n 64 (fun k2565 => (SRoad.enc (r.2.f k2565))), ins.getD 4 (.dead 0), ins.getD 5 (.dead 0)]
noncomputable def c_Codes_fit : List AV → List Blk → Option Ans := told Codes_fit_enc (fun p => (Codes_fit_t p.1 p.2.1 p.2.2.1 p.2.2.2).get) Codes_fit_av Codes_fit_outs false (fun h => by cases h)
noncomputable def Codes_fit_env : Env := { envS (fun f => match f with
  | 12 => c_Codes_Next
  | 56 => c_ref08_Rest
  | 57 => c_ref07_State
  | _ => fun _ _ => none) (fun r => match r with | 8 => some ([0, 1, 6, 7, 8, 9, 10, 11, 12], [0, 1, 6, 7, 8, 9, 10, 11]) | 14 => some ([0, 1, 6, 7, 8, 9, 10, 13, 14], [0, 1, 6, 7, 8, 9, 13]) | 2 => some ([0, 1, 6, 7, 8], []) | _ => none) with loops := fun r => match r with | 8 => some Codes_fit_l8_c | 14 => some Codes_fit_l14_c | 2 => some Codes_fit_l2_c | _ => none, gc := fun r => match r with | 8 => some [0, 1, 2, 3, 4, 5, 6, 70] | 14 => some [0, 1, 2, 3, 4, 5, 6, 70] | 2 => some [0, 1, 2, 3, 4, 5, 6, 70] | _ => none, mm := some 6 }
theorem Codes_fit_env_ok : ∀ f, Tells Try.prog f (Codes_fit_env.fs f) := by
  intro f
  by_cases h0 : f = 12
  · subst h0; exact Codes_Next_tells
  by_cases h1 : f = 56
  · subst h1; exact ref08_Rest_tells
  by_cases h2 : f = 57
  · subst h2; exact ref07_State_tells
  have : Codes_fit_env.fs f = fun _ _ => none := by
    unfold Codes_fit_env envS
    dsimp only
    split
    · exact absurd rfl h0
    · exact absurd rfl h1
    · exact absurd rfl h2
    · rfl
  rw [this]
  exact Tells.none_ f
noncomputable def Codes_fit_e : Env := { Codes_fit_env with nt := 166 }
noncomputable def Codes_fit_l8_b : Code := loopOf 8 Try.f33
theorem Codes_fit_l8_round {R : Type} (fx : Int × (Sq Int) × Int × (Sq SPlace) × (Sq SRoad) × (Sq SFan) × (Sq SDoor) × (Sq Int) × (Sq Int) × (Sq Int) × (Sq Int) × Int × Nat) (v : Int × Int) (N : Nat) (K : AX → St → Option R) : aloop (fun s j => aexec Codes_fit_e Codes_fit_l8_b s j) (headOf Codes_fit_e Codes_fit_l8_b 3014) (exitOf Codes_fit_e Codes_fit_l8_b 3014) (N + 1) (Codes_fit_l8_s (fx, v)) K = (Codes_fit_l8_step fx.1 fx.2.1 fx.2.2.1 fx.2.2.2.1 fx.2.2.2.2.1 fx.2.2.2.2.2.1 fx.2.2.2.2.2.2.1 fx.2.2.2.2.2.2.2.1 fx.2.2.2.2.2.2.2.2.1 fx.2.2.2.2.2.2.2.2.2.1 fx.2.2.2.2.2.2.2.2.2.2.1 fx.2.2.2.2.2.2.2.2.2.2.2.1 fx.2.2.2.2.2.2.2.2.2.2.2.2 v.1 v.2).run (LR.elim
    (fun v' => aloop (fun s j => aexec Codes_fit_e Codes_fit_l8_b s j) (headOf Codes_fit_e Codes_fit_l8_b 3014) (exitOf Codes_fit_e Codes_fit_l8_b 3014) N (Codes_fit_l8_s (fx, v')) K)
    (fun a => K (.exit 2) (Codes_fit_l8_el (Codes_fit_l8_s (fx, v)) a))
    (fun a => K .ret (Codes_fit_l8_er (Codes_fit_l8_s (fx, v)) a))) := by kernel_rfl
theorem Codes_fit_l8_tells : LoopTells Codes_fit_e Codes_fit_l8_b Codes_fit_l8_c :=
  loopM_tells (s := Codes_fit_l8_s) (stl := Codes_fit_l8_el) (str := Codes_fit_l8_er) (step := fun (fx : Int × (Sq Int) × Int × (Sq SPlace) × (Sq SRoad) × (Sq SFan) × (Sq SDoor) × (Sq Int) × (Sq Int) × (Sq Int) × (Sq Int) × Int × Nat) (v : Int × Int) => Codes_fit_l8_step fx.1 fx.2.1 fx.2.2.1 fx.2.2.2.1 fx.2.2.2.2.1 fx.2.2.2.2.2.1 fx.2.2.2.2.2.2.1 fx.2.2.2.2.2.2.2.1 fx.2.2.2.2.2.2.2.2.1 fx.2.2.2.2.2.2.2.2.2.1 fx.2.2.2.2.2.2.2.2.2.2.1 fx.2.2.2.2.2.2.2.2.2.2.2.1 fx.2.2.2.2.2.2.2.2.2.2.2.2 v.1 v.2) (n := 3014) (fun _ => rfl) (fun _ _ _ _ => rfl) (fun _ _ _ _ => rfl) Codes_fit_l8_round
noncomputable def Codes_fit_l14_b : Code := loopOf 14 Try.f33
theorem Codes_fit_l14_round {R : Type} (fx : Int × (Sq Int) × Int × (Sq SPlace) × (Sq SRoad) × (Sq SFan) × (Sq SDoor) × (Sq Int) × (Sq Int) × (Sq Int) × (Sq Int) × Int × Nat) (v : Int × Int) (N : Nat) (K : AX → St → Option R) : aloop (fun s j => aexec Codes_fit_e Codes_fit_l14_b s j) (headOf Codes_fit_e Codes_fit_l14_b 4806) (exitOf Codes_fit_e Codes_fit_l14_b 4806) (N + 1) (Codes_fit_l14_s (fx, v)) K = (Codes_fit_l14_step fx.1 fx.2.1 fx.2.2.1 fx.2.2.2.1 fx.2.2.2.2.1 fx.2.2.2.2.2.1 fx.2.2.2.2.2.2.1 fx.2.2.2.2.2.2.2.1 fx.2.2.2.2.2.2.2.2.1 fx.2.2.2.2.2.2.2.2.2.1 fx.2.2.2.2.2.2.2.2.2.2.1 fx.2.2.2.2.2.2.2.2.2.2.2.1 fx.2.2.2.2.2.2.2.2.2.2.2.2 v.1 v.2).run (LR.elim
    (fun v' => aloop (fun s j => aexec Codes_fit_e Codes_fit_l14_b s j) (headOf Codes_fit_e Codes_fit_l14_b 4806) (exitOf Codes_fit_e Codes_fit_l14_b 4806) N (Codes_fit_l14_s (fx, v')) K)
    (fun a => K (.exit 4) (Codes_fit_l14_el (Codes_fit_l14_s (fx, v)) a))
    (fun a => K .ret (Codes_fit_l14_er (Codes_fit_l14_s (fx, v)) a))) := by kernel_rfl
theorem Codes_fit_l14_tells : LoopTells Codes_fit_e Codes_fit_l14_b Codes_fit_l14_c :=
  loopM_tells (s := Codes_fit_l14_s) (stl := Codes_fit_l14_el) (str := Codes_fit_l14_er) (step := fun (fx : Int × (Sq Int) × Int × (Sq SPlace) × (Sq SRoad) × (Sq SFan) × (Sq SDoor) × (Sq Int) × (Sq Int) × (Sq Int) × (Sq Int) × Int × Nat) (v : Int × Int) => Codes_fit_l14_step fx.1 fx.2.1 fx.2.2.1 fx.2.2.2.1 fx.2.2.2.2.1 fx.2.2.2.2.2.1 fx.2.2.2.2.2.2.1 fx.2.2.2.2.2.2.2.1 fx.2.2.2.2.2.2.2.2.1 fx.2.2.2.2.2.2.2.2.2.1 fx.2.2.2.2.2.2.2.2.2.2.1 fx.2.2.2.2.2.2.2.2.2.2.2.1 fx.2.2.2.2.2.2.2.2.2.2.2.2 v.1 v.2) (n := 4806) (fun _ => rfl) (fun _ _ _ _ => rfl) (fun _ _ _ _ => rfl) Codes_fit_l14_round
noncomputable def Codes_fit_l2_b : Code := loopOf 2 Try.f33
theorem Codes_fit_l2_round {R : Type} (fx : (Sq Int) × (Sq SPlace) × (Sq SFan) × (Sq SDoor) × (Sq Int) × (Sq Int) × (Sq Int) × (Sq Int)) (v : Int × (Sq SRoad) × Int) (N : Nat) (K : AX → St → Option R) : aloop (fun s j => aexec Codes_fit_e Codes_fit_l2_b s j) (headOf Codes_fit_e Codes_fit_l2_b 198) (exitOf Codes_fit_e Codes_fit_l2_b 198) (N + 1) (Codes_fit_l2_s (fx, v)) K = (Codes_fit_l2_step fx.1 fx.2.1 fx.2.2.1 fx.2.2.2.1 fx.2.2.2.2.1 fx.2.2.2.2.2.1 fx.2.2.2.2.2.2.1 fx.2.2.2.2.2.2.2 v.1 v.2.1 v.2.2).run (LR.elim
    (fun v' => aloop (fun s j => aexec Codes_fit_e Codes_fit_l2_b s j) (headOf Codes_fit_e Codes_fit_l2_b 198) (exitOf Codes_fit_e Codes_fit_l2_b 198) N (Codes_fit_l2_s (fx, v')) K)
    (fun a => K (.exit 0) (Codes_fit_l2_el (Codes_fit_l2_s (fx, v)) a))
    (fun a => K .ret (Codes_fit_l2_er (Codes_fit_l2_s (fx, v)) a))) := by kernel_rfl
theorem Codes_fit_l2_tells : LoopTells Codes_fit_e Codes_fit_l2_b Codes_fit_l2_c :=
  loopM_tells (s := Codes_fit_l2_s) (stl := Codes_fit_l2_el) (str := Codes_fit_l2_er) (step := fun (fx : (Sq Int) × (Sq SPlace) × (Sq SFan) × (Sq SDoor) × (Sq Int) × (Sq Int) × (Sq Int) × (Sq Int)) (v : Int × (Sq SRoad) × Int) => Codes_fit_l2_step fx.1 fx.2.1 fx.2.2.1 fx.2.2.2.1 fx.2.2.2.2.1 fx.2.2.2.2.2.1 fx.2.2.2.2.2.2.1 fx.2.2.2.2.2.2.2 v.1 v.2.1 v.2.2) (n := 198) (fun _ => rfl) (fun _ _ _ _ => rfl) (fun _ _ _ _ => rfl) Codes_fit_l2_round
theorem Codes_fit_run (p : SCodes × SAir × SSetting × SState) : arun Codes_fit_env Try.f33 (Codes_fit_enc p).1 (Codes_fit_enc p).2 = (Codes_fit_t p.1 p.2.1 p.2.2.1 p.2.2.2).run fun r => some (Codes_fit_av r, Codes_fit_outs (Codes_fit_enc p).2 r) := by kernel_rfl
theorem Codes_fit_loops : ∀ c, Try.f33.body = some c → LoopsOK { Codes_fit_env with nt := Try.f33.ntmps } c := by
  intro c hc
  refine loops_of c fun c' hc' f hf => ?_
  have hb : loopsOf c = [Codes_fit_l2_b, Codes_fit_l8_b, Codes_fit_l14_b] := by
    have : Try.f33.body.map loopsOf = some [Codes_fit_l2_b, Codes_fit_l8_b, Codes_fit_l14_b] := by kernel_rfl
    rw [hc] at this
    injection this
  rw [hb] at hc'
  clear hb
  rcases List.mem_cons.1 hc' with rfl | hc'
  ·
    have h6 : firstReg Codes_fit_l2_b = 2 := by kernel_rfl
    rw [h6] at hf
    obtain rfl := Option.some.inj hf
    exact Codes_fit_l2_tells
  rcases List.mem_cons.1 hc' with rfl | hc'
  ·
    have h6 : firstReg Codes_fit_l8_b = 8 := by kernel_rfl
    rw [h6] at hf
    obtain rfl := Option.some.inj hf
    exact Codes_fit_l8_tells
  obtain rfl := List.mem_singleton.1 hc'
  have h6 : firstReg Codes_fit_l14_b = 14 := by kernel_rfl
  rw [h6] at hf
  obtain rfl := Option.some.inj hf
  exact Codes_fit_l14_tells
attribute [local irreducible] arun in
theorem Codes_fit_tells : Tells Try.prog 33 c_Codes_fit :=
  told_tells (E := Codes_fit_env) (enc := Codes_fit_enc) (av := Codes_fit_av) (outs := Codes_fit_outs) (t := fun p : SCodes × SAir × SSetting × SState => Codes_fit_t p.1 p.2.1 p.2.2.1 p.2.2.2) (by kernel_rfl) Codes_fit_env_ok Try.func33 Codes_fit_loops Codes_fit_run
noncomputable def Codes_fit (c : SCodes) (a : SAir) (s : SSetting) (x : SState) : Option (Int × (Sq SRoad)) := gOfA Codes_fit_enc (fun p => (Codes_fit_t p.1 p.2.1 p.2.2.1 p.2.2.2).get) (Codes_fit_encC c a s x).1 (Codes_fit_encC c a s x).2
theorem Codes_fit_eq (c : SCodes) (a : SAir) (s : SSetting) (x : SState) : Codes_fit c a s x = (Codes_fit_t c a s x).get := congrFun (gOfA_eq Codes_fit_inj (fun p => (Codes_fit_t p.1 p.2.1 p.2.2.1 p.2.2.2).get)) (c, a, s, x)

/-! ### (*minecontrol/minecontroldraw.Codes).doubts -/
def Codes_doubts_encC (c : SCodes) (s : SSetting) : List AV × List Blk := ([.ptr 0 0, .agg [.any1, .any1, .any1, .any1], .agg [.slc 1 s.Fans.n (fun k2566 => [.int .i64 (s.Fans.f k2566)]), .slc 1 s.Doors.n (fun k2567 => [.int .i64 (s.Doors.f k2567)])]], [.var [.slc 1 c.l_.n (fun k2568 => [.int .u8 (c.l_.f k2568)]), .int .i64 c.at_]])
def Codes_doubts_enc (p : SCodes × SSetting) : List AV × List Blk := Codes_doubts_encC p.1 p.2
theorem Codes_doubts_inj (p q : SCodes × SSetting) (h : Codes_doubts_enc p = Codes_doubts_enc q) : p = q :=
  (Prod.ext (SCodes.ext2 (Sq.av_inj intE_u8 (a := p.1.l_) (b := q.1.l_) (congrArg (fun x : List AV × List Blk => cellB x.2 0 0) h)) (show p.1.at_ = q.1.at_ from congrArg intA (congrArg (fun x : List AV × List Blk => cellB x.2 0 1) h))) (SSetting.ext2 (Sq.av_inj intE_i64 (a := p.2.Fans) (b := q.2.Fans) (congrArg (fun x : List AV × List Blk => argC x.1 2 0) h)) (Sq.av_inj intE_i64 (a := p.2.Doors) (b := q.2.Doors) (congrArg (fun x : List AV × List Blk => argC x.1 2 1) h))))
def Codes_doubts_l3_s (p : ((Sq Int) × (Sq Int) × (Sq Int)) × (Int × (Sq Int) × Int)) : St := ⟨[(0, .ptr 0 0), (5, .ptr 65 0), (6, .ptr 129 0), (7, .ptr 193 0), (8, .int .i64 p.2.2.2)], [(0, .var [.slc 1 p.1.1.n (fun k2569 => [.int .u8 (p.1.1.f k2569)]), .int .i64 p.2.1]), (65, .var [.slc 1 p.1.2.1.n (fun k2570 => [.int .i64 (p.1.2.1.f k2570)]), .slc 1 p.1.2.2.n (fun k2571 => [.int .i64 (p.1.2.2.f k2571)])]), (129, .var [.own 130 0, .own 131 0]), (130, .nilrow 0), (131, .nilrow 0), (193, .var [.own 194 0, .own 195 0]), (194, .row 0 1 p.2.2.1.n 3 (fun k2572 => [.int .i64 (p.2.2.1.f k2572)])), (195, .nilrow 0)], 321⟩
theorem Codes_doubts_l3_inj (p q : ((Sq Int) × (Sq Int) × (Sq Int)) × (Int × (Sq Int) × Int)) (h : Codes_doubts_l3_s p = Codes_doubts_l3_s q) : p = q :=
  Prod.ext (Prod.ext (Sq.av_inj intE_u8 (a := p.1.1) (b := q.1.1) (congrArg (fun x : St => cellS x 0 0) h)) (Prod.ext (Sq.av_inj intE_i64 (a := p.1.2.1) (b := q.1.2.1) (congrArg (fun x : St => cellS x 65 0) h)) (Sq.av_inj intE_i64 (a := p.1.2.2) (b := q.1.2.2) (congrArg (fun x : St => cellS x 65 1) h)))) (Prod.ext (show p.2.1 = q.2.1 from congrArg intA (congrArg (fun x : St => cellS x 0 1) h)) (Prod.ext (Sq.row_inj intE_i64 (a := p.2.2.1) (b := q.2.2.1) (congrArg (fun x : St => blkS x 194) h)) (show p.2.2.2 = q.2.2.2 from congrArg intA (congrArg (fun x : St => aget x.tm 8) h))))
noncomputable def Codes_doubts_l3_step (v3_0 : (Sq Int)) (v3_2 : (Sq Int)) (_v3_3 : (Sq Int)) (v3_1 : Int) (v3_4 : (Sq Int)) (i_3_5 : Int) : DT (LR (Int × (Sq Int) × Int) (Int × (Sq Int)) (Unit)) :=
  .ite (decide (i_3_5 < ((v3_2.n : Nat) : Int))) (
    .ite (decide ((0 : Int) ≤ i_3_5 ∧ i_3_5 < ((v3_2.n : Nat) : Int))) (
      .bind (Codes_One (SCodes.mk v3_0 v3_1) (5 : Int)) fun z1057 =>
      .ite z1057.1 (
        .ite (decide ((v3_4.n + 1) * 8 ≤ 140737488355328 ∧ (v3_4.n + 1) ≤ 1099511627776)) (
          .leaf (.next (z1057.2, (Sq.mk (v3_4.n + 1) (fun k1058 => (cond (Nat.blt k1058 v3_4.n) (v3_4.f k1058) (-1 : Int)))), (wr (i_3_5 + (1 : Int)))))) (
          .fail)) (
        .ite (decide ((v3_4.n + 1) * 8 ≤ 140737488355328 ∧ (v3_4.n + 1) ≤ 1099511627776)) (
          .leaf (.next (z1057.2, (Sq.mk (v3_4.n + 1) (fun k1059 => (cond (Nat.blt k1059 v3_4.n) (v3_4.f k1059) (v3_2.f (Int.toNat i_3_5))))), (wr (i_3_5 + (1 : Int)))))) (
          .fail))) (
      .fail)) (
    .leaf (.l (v3_1, v3_4)))
def Codes_doubts_l3_el (x : St) (a : Int × (Sq Int)) : St := ⟨[(0, .ptr 0 0), (5, .ptr 65 0), (6, .ptr 129 0), (7, .ptr 193 0)], [(0, .var [cellS x 0 0, .int .i64 a.1]), (65, blkS x 65), (129, .var [.own 130 0, .own 131 0]), (130, .nilrow 0), (131, .nilrow 0), (193, .var [.own 194 0, .own 195 0]), (194, .row 0 1 a.2.n 3 (fun k2573 => [.int .i64 (a.2.f k2573)])), (195, .nilrow 0)], 321⟩
def Codes_doubts_l3_er (_ : St) (_ : Unit) : St := ⟨[], [], 0⟩
noncomputable def Codes_doubts_l3_f (p : ((Sq Int) × (Sq Int) × (Sq Int)) × (Int × (Sq Int) × Int)) : Option ((Int × (Sq Int)) ⊕ (Unit)) := fixO (fun v : Int × (Sq Int) × Int => Codes_doubts_l3_step p.1.1 p.1.2.1 p.1.2.2 v.1 v.2.1 v.2.2) p.2
noncomputable def Codes_doubts_l3_c : St → Option LRes := loopM Codes_doubts_l3_s Codes_doubts_l3_f true (.exit 0) Codes_doubts_l3_el .ret Codes_doubts_l3_er
noncomputable def Codes_doubts_l3 (v3_0 : (Sq Int)) (v3_2 : (Sq Int)) (v3_3 : (Sq Int)) (v3_1 : Int) (v3_4 : (Sq Int)) (i_3_5 : Int) : Option ((Int × (Sq Int)) ⊕ (Unit)) := gOfS Codes_doubts_l3_s Codes_doubts_l3_f (Codes_doubts_l3_s ((v3_0, v3_2, v3_3), (v3_1, v3_4, i_3_5)))
theorem Codes_doubts_l3_eq (v3_0 : (Sq Int)) (v3_2 : (Sq Int)) (v3_3 : (Sq Int)) (v3_1 : Int) (v3_4 : (Sq Int)) (i_3_5 : Int) : Codes_doubts_l3 v3_0 v3_2 v3_3 v3_1 v3_4 i_3_5 = fixO (fun v : Int × (Sq Int) × Int => Codes_doubts_l3_step v3_0 v3_2 v3_3 v.1 v.2.1 v.2.2) (v3_1, v3_4, i_3_5) := gOfS_eq Codes_doubts_l3_inj Codes_doubts_l3_f ((v3_0, v3_2, v3_3), (v3_1, v3_4, i_3_5))
def Codes_doubts_l10_s (p : ((Sq Int) × (Sq Int) × (Sq Int) × (Sq Int)) × (Int × (Sq Int) × Int)) : St := ⟨[(0, .ptr 0 0), (5, .ptr 65 0), (6, .ptr 129 0), (7, .ptr 193 0), (10, .int .i64 p.2.2.2)], [(0, .var [.slc 1 p.1.1.n (fun k2574 => [.int .u8 (p.1.1.f k2574)]), .int .i64 p.2.1]), (65, .var [.slc 1 p.1.2.1.n (fun k2575 => [.int .i64 (p.1.2.1.f k2575)]), .slc 1 p.1.2.2.1.n (fun k2576 => [.int .i64 (p.1.2.2.1.f k2576)])]), (129, .var [.own 130 0, .own 131 0]), (130, .nilrow 0), (131, .nilrow 0), (193, .var [.own 194 0, .own 195 0]), (194, .row 0 1 p.1.2.2.2.n 3 (fun k2577 => [.int .i64 (p.1.2.2.2.f k2577)])), (195, .row 0 1 p.2.2.1.n 3 (fun k2578 => [.int .i64 (p.2.2.1.f k2578)]))], 385⟩
theorem Codes_doubts_l10_inj (p q : ((Sq Int) × (Sq Int) × (Sq Int) × (Sq Int)) × (Int × (Sq Int) × Int)) (h : Codes_doubts_l10_s p = Codes_doubts_l10_s q) : p = q :=
  Prod.ext (Prod.ext (Sq.av_inj intE_u8 (a := p.1.1) (b := q.1.1) (congrArg (fun x : St => cellS x 0 0) h)) (Prod.ext (Sq.av_inj intE_i64 (a := p.1.2.1) (b := q.1.2.1) (congrArg (fun x : St => cellS x 65 0) h)) (Prod.ext (Sq.av_inj intE_i64 (a := p.1.2.2.1) (b := q.1.2.2.1) (congrArg (fun x : St => cellS x 65 1) h)) (Sq.row_inj intE_i64 (a := p.1.2.2.2) (b := q.1.2.2.2) (congrArg (fun x : St => blkS x 194) h))))) (Prod.ext (show p.2.1 = q.2.1 from congrArg intA (congrArg (fun x : St => cellS x 0 1) h)) (Prod.ext (Sq.row_inj intE_i64 (a := p.2.2.1) (b := q.2.2.1) (congrArg (fun x : St => blkS x 195) h)) (show p.2.2.2 = q.2.2.2 from congrArg intA (congrArg (fun x : St => aget x.tm 10) h))))
noncomputable def Codes_doubts_l10_step (v10_0 : (Sq Int)) (_v10_2 : (Sq Int)) (v10_3 : (Sq Int)) (_v10_4 : (Sq Int)) (v10_1 : Int) (v10_5 : (Sq Int)) (i_10_6 : Int) : DT (LR (Int × (Sq Int) × Int) (Int × (Sq Int)) (Unit)) :=
  .ite (decide (i_10_6 < ((v10_3.n : Nat) : Int))) (
    .ite (decide ((0 : Int) ≤ i_10_6 ∧ i_10_6 < ((v10_3.n : Nat) : Int))) (
      .bind (Codes_One (SCodes.mk v10_0 v10_1) (5 : Int)) fun z1061 =>
      .ite z1061.1 (
        .ite (decide ((v10_5.n + 1) * 8 ≤ 140737488355328 ∧ (v10_5.n + 1) ≤ 1099511627776)) (
          .leaf (.next (z1061.2, (Sq.mk (v10_5.n + 1) (fun k1062 => (cond (Nat.blt k1062 v10_5.n) (v10_5.f k1062) (-1 : Int)))), (wr (i_10_6 + (1 : Int)))))) (
          .fail)) (
        .ite (decide ((v10_5.n + 1) * 8 ≤ 140737488355328 ∧ (v10_5.n + 1) ≤ 1099511627776)) (
          .leaf (.next (z1061.2, (Sq.mk (v10_5.n + 1) (fun k1063 => (cond (Nat.blt k1063 v10_5.n) (v10_5.f k1063) (v10_3.f (Int.toNat i_10_6))))), (wr (i_10_6 + (1 : Int)))))) (
          .fail))) (
      .fail)) (
    .leaf (.l (v10_1, v10_5)))
def Codes_doubts_l10_el (x : St) (a : Int × (Sq Int)) : St := ⟨[(6, .ptr 129 0), (7, .ptr 193 0)], [(0, .var [cellS x 0 0, .int .i64 a.1]), (65, blkS x 65), (129, .var [.own 130 0, .own 131 0]), (130, .nilrow 0), (131, .nilrow 0), (193, .var [.own 194 0, .own 195 0]), (194, blkS x 194), (195, .row 0 1 a.2.n 3 (fun k2579 => [.int .i64 (a.2.f k2579)]))], 385⟩
def Codes_doubts_l10_er (_ : St) (_ : Unit) : St := ⟨[], [], 0⟩
noncomputable def Codes_doubts_l10_f (p : ((Sq Int) × (Sq Int) × (Sq Int) × (Sq Int)) × (Int × (Sq Int) × Int)) : Option ((Int × (Sq Int)) ⊕ (Unit)) := fixO (fun v : Int × (Sq Int) × Int => Codes_doubts_l10_step p.1.1 p.1.2.1 p.1.2.2.1 p.1.2.2.2 v.1 v.2.1 v.2.2) p.2
noncomputable def Codes_doubts_l10_c : St → Option LRes := loopM Codes_doubts_l10_s Codes_doubts_l10_f true (.exit 2) Codes_doubts_l10_el .ret Codes_doubts_l10_er
noncomputable def Codes_doubts_l10 (v10_0 : (Sq Int)) (v10_2 : (Sq Int)) (v10_3 : (Sq Int)) (v10_4 : (Sq Int)) (v10_1 : Int) (v10_5 : (Sq Int)) (i_10_6 : Int) : Option ((Int × (Sq Int)) ⊕ (Unit)) := gOfS Codes_doubts_l10_s Codes_doubts_l10_f (Codes_doubts_l10_s ((v10_0, v10_2, v10_3, v10_4), (v10_1, v10_5, i_10_6)))
theorem Codes_doubts_l10_eq (v10_0 : (Sq Int)) (v10_2 : (Sq Int)) (v10_3 : (Sq Int)) (v10_4 : (Sq Int)) (v10_1 : Int) (v10_5 : (Sq Int)) (i_10_6 : Int) : Codes_doubts_l10 v10_0 v10_2 v10_3 v10_4 v10_1 v10_5 i_10_6 = fixO (fun v : Int × (Sq Int) × Int => Codes_doubts_l10_step v10_0 v10_2 v10_3 v10_4 v.1 v.2.1 v.2.2) (v10_1, v10_5, i_10_6) := gOfS_eq Codes_doubts_l10_inj Codes_doubts_l10_f ((v10_0, v10_2, v10_3, v10_4), (v10_1, v10_5, i_10_6))
noncomputable def Codes_doubts_t (c : SCodes) (s : SSetting) : DT (SSetting × Int) :=
  .sum (Codes_doubts_l3 c.l_ s.Fans s.Doors c.at_ (Sq.mk 0 (fun _ => (0 : Int))) (0 : Int)) (fun y1060 =>
    .sum (Codes_doubts_l10 c.l_ s.Fans s.Doors y1060.2 y1060.1 (Sq.mk 0 (fun _ => (0 : Int))) (0 : Int)) (fun y1064 =>
      .leaf ((SSetting.mk y1060.2 y1064.2), y1064.1)) (fun _ =>
      .fail)) (fun _ =>
    .fail)
def Codes_doubts_av (_ : SSetting × Int) : AV := .agg [.own 1 0, .own 2 0]
def Codes_doubts_outs (ins : List Blk) (r : SSetting × Int) : List Blk := [.var [cellB ins 0 0, .int .i64 r.2], .row 0 1 r.1.Fans.n 3 (fun k2580 => [.int .i64 (r.1.Fans.f k2580)]), .row 0 1 r.1.Doors.n 3 (fun k2581 => [.int .i64 (r.1.Doors.f k2581)])]
noncomputable def c_Codes_doubts : List AV → List Blk → Option Ans := told Codes_doubts_enc (fun p => (Codes_doubts_t p.1 p.2).get) Codes_doubts_av Codes_doubts_outs false (fun h => by cases h)
noncomputable def Codes_doubts_env : Env := { envS (fun f => match f with
  | 29 => c_Codes_One
  | _ => fun _ _ => none) (fun r => match r with | 3 => some ([0, 5, 6, 7, 8], [0, 5, 6, 7]) | 10 => some ([0, 5, 6, 7, 10], [6, 7]) | _ => none) with loops := fun r => match r with | 3 => some Codes_doubts_l3_c | 10 => some Codes_doubts_l10_c | _ => none, pre := fun r => match r with | 1000003 => [.asrow 194 3 1 (fun _ => [.int .i64 (0 : Int)])] | 1000010 => [.asrow 195 3 1 (fun _ => [.int .i64 (0 : Int)])] | _ => [], gc := fun r => match r with | 3 => some [0, 65, 129, 130, 131, 193, 194, 195] | 10 => some [0, 65, 129, 130, 131, 193, 194, 195] | _ => none, mm := some 1 }
theorem Codes_doubts_env_ok : ∀ f, Tells Try.prog f (Codes_doubts_env.fs f) := by
  intro f
  by_cases h0 : f = 29
  · subst h0; exact Codes_One_tells
  have : Codes_doubts_env.fs f = fun _ _ => none := by
    unfold Codes_doubts_env envS
    dsimp only
    split
    · exact absurd rfl h0
    · rfl
  rw [this]
  exact Tells.none_ f
noncomputable def Codes_doubts_e : Env := { Codes_doubts_env with nt := 53 }
noncomputable def Codes_doubts_l3_b : Code := loopOf 3 Try.f34
theorem Codes_doubts_l3_round {R : Type} (fx : (Sq Int) × (Sq Int) × (Sq Int)) (v : Int × (Sq Int) × Int) (N : Nat) (K : AX → St → Option R) : aloop (fun s j => aexec Codes_doubts_e Codes_doubts_l3_b s j) (headOf Codes_doubts_e Codes_doubts_l3_b 321) (exitOf Codes_doubts_e Codes_doubts_l3_b 321) (N + 1) (Codes_doubts_l3_s (fx, v)) K = (Codes_doubts_l3_step fx.1 fx.2.1 fx.2.2 v.1 v.2.1 v.2.2).run (LR.elim
    (fun v' => aloop (fun s j => aexec Codes_doubts_e Codes_doubts_l3_b s j) (headOf Codes_doubts_e Codes_doubts_l3_b 321) (exitOf Codes_doubts_e Codes_doubts_l3_b 321) N (Codes_doubts_l3_s (fx, v')) K)
    (fun a => K (.exit 0) (Codes_doubts_l3_el (Codes_doubts_l3_s (fx, v)) a))
    (fun a => K .ret (Codes_doubts_l3_er (Codes_doubts_l3_s (fx, v)) a))) := by kernel_rfl
theorem Codes_doubts_l3_tells : LoopTells Codes_doubts_e Codes_doubts_l3_b Codes_doubts_l3_c :=
  loopM_tells (s := Codes_doubts_l3_s) (stl := Codes_doubts_l3_el) (str := Codes_doubts_l3_er) (step := fun (fx : (Sq Int) × (Sq Int) × (Sq Int)) (v : Int × (Sq Int) × Int) => Codes_doubts_l3_step fx.1 fx.2.1 fx.2.2 v.1 v.2.1 v.2.2) (n := 321) (fun _ => rfl) (fun _ _ _ _ => rfl) (fun _ _ _ _ => rfl) Codes_doubts_l3_round
noncomputable def Codes_doubts_l10_b : Code := loopOf 10 Try.f34
theorem Codes_doubts_l10_round {R : Type} (fx : (Sq Int) × (Sq Int) × (Sq Int) × (Sq Int)) (v : Int × (Sq Int) × Int) (N : Nat) (K : AX → St → Option R) : aloop (fun s j => aexec Codes_doubts_e Codes_doubts_l10_b s j) (headOf Codes_doubts_e Codes_doubts_l10_b 385) (exitOf Codes_doubts_e Codes_doubts_l10_b 385) (N + 1) (Codes_doubts_l10_s (fx, v)) K = (Codes_doubts_l10_step fx.1 fx.2.1 fx.2.2.1 fx.2.2.2 v.1 v.2.1 v.2.2).run (LR.elim
    (fun v' => aloop (fun s j => aexec Codes_doubts_e Codes_doubts_l10_b s j) (headOf Codes_doubts_e Codes_doubts_l10_b 385) (exitOf Codes_doubts_e Codes_doubts_l10_b 385) N (Codes_doubts_l10_s (fx, v')) K)
    (fun a => K (.exit 2) (Codes_doubts_l10_el (Codes_doubts_l10_s (fx, v)) a))
    (fun a => K .ret (Codes_doubts_l10_er (Codes_doubts_l10_s (fx, v)) a))) := by kernel_rfl
theorem Codes_doubts_l10_tells : LoopTells Codes_doubts_e Codes_doubts_l10_b Codes_doubts_l10_c :=
  loopM_tells (s := Codes_doubts_l10_s) (stl := Codes_doubts_l10_el) (str := Codes_doubts_l10_er) (step := fun (fx : (Sq Int) × (Sq Int) × (Sq Int) × (Sq Int)) (v : Int × (Sq Int) × Int) => Codes_doubts_l10_step fx.1 fx.2.1 fx.2.2.1 fx.2.2.2 v.1 v.2.1 v.2.2) (n := 385) (fun _ => rfl) (fun _ _ _ _ => rfl) (fun _ _ _ _ => rfl) Codes_doubts_l10_round
theorem Codes_doubts_run (p : SCodes × SSetting) : arun Codes_doubts_env Try.f34 (Codes_doubts_enc p).1 (Codes_doubts_enc p).2 = (Codes_doubts_t p.1 p.2).run fun r => some (Codes_doubts_av r, Codes_doubts_outs (Codes_doubts_enc p).2 r) := by kernel_rfl
theorem Codes_doubts_loops : ∀ c, Try.f34.body = some c → LoopsOK { Codes_doubts_env with nt := Try.f34.ntmps } c := by
  intro c hc
  refine loops_of c fun c' hc' f hf => ?_
  have hb : loopsOf c = [Codes_doubts_l3_b, Codes_doubts_l10_b] := by
    have : Try.f34.body.map loopsOf = some [Codes_doubts_l3_b, Codes_doubts_l10_b] := by kernel_rfl
    rw [hc] at this
    injection this
  rw [hb] at hc'
  clear hb
  rcases List.mem_cons.1 hc' with rfl | hc'
  ·
    have h6 : firstReg Codes_doubts_l3_b = 3 := by kernel_rfl
    rw [h6] at hf
    obtain rfl := Option.some.inj hf
    exact Codes_doubts_l3_tells
  obtain rfl := List.mem_singleton.1 hc'
  have h6 : firstReg Codes_doubts_l10_b = 10 := by kernel_rfl
  rw [h6] at hf
  obtain rfl := Option.some.inj hf
  exact Codes_doubts_l10_tells
attribute [local irreducible] arun in
theorem Codes_doubts_tells : Tells Try.prog 34 c_Codes_doubts :=
  told_tells (E := Codes_doubts_env) (enc := Codes_doubts_enc) (av := Codes_doubts_av) (outs := Codes_doubts_outs) (t := fun p : SCodes × SSetting => Codes_doubts_t p.1 p.2) (by kernel_rfl) Codes_doubts_env_ok Try.func34 Codes_doubts_loops Codes_doubts_run
noncomputable def Codes_doubts (c : SCodes) (s : SSetting) : Option (SSetting × Int) := gOfA Codes_doubts_enc (fun p => (Codes_doubts_t p.1 p.2).get) (Codes_doubts_encC c s).1 (Codes_doubts_encC c s).2
theorem Codes_doubts_eq (c : SCodes) (s : SSetting) : Codes_doubts c s = (Codes_doubts_t c s).get := congrFun (gOfA_eq Codes_doubts_inj (fun p => (Codes_doubts_t p.1 p.2).get)) (c, s)

/-! ### (*minecontrol/minecontroldraw.Codes).Made -/
def Codes_Made_encC (c : SCodes) : List AV × List Blk := ([.ptr 0 0], [.var [.slc 1 c.l_.n (fun k2582 => [.int .u8 (c.l_.f k2582)]), .int .i64 c.at_]])
def Codes_Made_enc (p : SCodes) : List AV × List Blk := Codes_Made_encC p
theorem Codes_Made_inj (p q : SCodes) (h : Codes_Made_enc p = Codes_Made_enc q) : p = q :=
  (SCodes.ext2 (Sq.av_inj intE_u8 (a := p.l_) (b := q.l_) (congrArg (fun x : List AV × List Blk => cellB x.2 0 0) h)) (show p.at_ = q.at_ from congrArg intA (congrArg (fun x : List AV × List Blk => cellB x.2 0 1) h)))
def Codes_Made_l6_s (p : ((Sq Int) × Int) × (Int × Int × (Sq SPlace))) : St := ⟨[(0, .ptr 0 0), (2, .ptr 1 0), (3, .ptr 65 0), (4, .ptr 129 0), (5, .ptr 449 0), (6, .int .i64 p.1.2), (7, .int .i64 p.2.1)], [(0, .var [.slc 1 p.1.1.n (fun k2583 => [.int .u8 (p.1.1.f k2583)]), .int .i64 p.2.2.1]), (1, .var [.own 2 0, .own 3 0, .own 4 0, .own 5 0]), (2, .nilrow 0), (3, .nilrow 0), (4, .nilrow 0), (5, .nilrow 0), (65, .var [.own 66 0, .own 67 0]), (66, .nilrow 0), (67, .nilrow 0), (129, .var [.own 130 0, .own 131 0]), (130, .nilrow 0), (131, .nilrow 0), (257, .row 0 2 p.2.2.2.n 70 (fun k2584 => (SPlace.enc (p.2.2.2.f k2584)))), (322, .nilrow 0), (387, .nilrow 0), (388, .nilrow 0), (449, .var [.own 257 0, .own 322 0, .own 387 0, .own 388 0])], 1793⟩
theorem Codes_Made_l6_inj (p q : ((Sq Int) × Int) × (Int × Int × (Sq SPlace))) (h : Codes_Made_l6_s p = Codes_Made_l6_s q) : p = q :=
  Prod.ext (Prod.ext (Sq.av_inj intE_u8 (a := p.1.1) (b := q.1.1) (congrArg (fun x : St => cellS x 0 0) h)) (show p.1.2 = q.1.2 from congrArg intA (congrArg (fun x : St => aget x.tm 6) h))) (Prod.ext (show p.2.1 = q.2.1 from congrArg intA (congrArg (fun x : St => aget x.tm 7) h)) (Prod.ext (show p.2.2.1 = q.2.2.1 from congrArg intA (congrArg (fun x : St => cellS x 0 1) h)) (Sq.row_inj SPlace.inj (a := p.2.2.2) (b := q.2.2.2) (congrArg (fun x : St => blkS x 257) h))))
noncomputable def Codes_Made_l6_step (v6_1 : (Sq Int)) (_shafts_6_4 : Int) (n_6_0 : Int) (v6_2 : Int) (v6_3 : (Sq SPlace)) : DT (LR (Int × Int × (Sq SPlace)) (Int × (Sq SPlace)) (Unit)) :=
  .ite (decide (n_6_0 > (0 : Int))) (
    .bind (Codes_Next (SCodes.mk v6_1 v6_2) (100 : Int)) fun z1567 =>
    .ite (decide ((v6_3.n + 1) * 16 ≤ 140737488355328 ∧ (v6_3.n + 1) ≤ 1099511627776)) (
      .leaf (.next ((wr (n_6_0 - (1 : Int))), z1567.2, (Sq.mk (v6_3.n + 1) (fun k1568 => (SPlace.mk (cond (Nat.blt k1568 v6_3.n) (v6_3.f k1568).Height (wr (0 - z1567.1))) (cond (Nat.blt k1568 v6_3.n) (v6_3.f k1568).Surface false))))))) (
      .fail)) (
    .leaf (.l (v6_2, v6_3)))
def Codes_Made_l6_el (x : St) (a : Int × (Sq SPlace)) : St := ⟨[(0, .ptr 0 0), (2, .ptr 1 0), (3, .ptr 65 0), (4, .ptr 129 0), (5, .ptr 449 0), (6, aget x.tm 6)], [(0, .var [cellS x 0 0, .int .i64 a.1]), (1, .var [.own 2 0, .own 3 0, .own 4 0, .own 5 0]), (2, .nilrow 0), (3, .nilrow 0), (4, .nilrow 0), (5, .nilrow 0), (65, .var [.own 66 0, .own 67 0]), (66, .nilrow 0), (67, .nilrow 0), (129, .var [.own 130 0, .own 131 0]), (130, .nilrow 0), (131, .nilrow 0), (257, .row 0 2 a.2.n 70 (fun k2585 => (SPlace.enc (a.2.f k2585)))), (322, .nilrow 0), (387, .nilrow 0), (388, .nilrow 0), (449, .var [.own 257 0, .own 322 0, .own 387 0, .own 388 0])], 1793⟩
def Codes_Made_l6_er (_ : St) (_ : Unit) : St := ⟨[], [], 0⟩
noncomputable def Codes_Made_l6_f (p : ((Sq Int) × Int) × (Int × Int × (Sq SPlace))) : Option ((Int × (Sq SPlace)) ⊕ (Unit)) := fixO (fun v : Int × Int × (Sq SPlace) => Codes_Made_l6_step p.1.1 p.1.2 v.1 v.2.1 v.2.2) p.2
noncomputable def Codes_Made_l6_c : St → Option LRes := loopM Codes_Made_l6_s Codes_Made_l6_f true (.exit 0) Codes_Made_l6_el .ret Codes_Made_l6_er
noncomputable def Codes_Made_l6 (v6_1 : (Sq Int)) (shafts_6_4 : Int) (n_6_0 : Int) (v6_2 : Int) (v6_3 : (Sq SPlace)) : Option ((Int × (Sq SPlace)) ⊕ (Unit)) := gOfS Codes_Made_l6_s Codes_Made_l6_f (Codes_Made_l6_s ((v6_1, shafts_6_4), (n_6_0, v6_2, v6_3)))
theorem Codes_Made_l6_eq (v6_1 : (Sq Int)) (shafts_6_4 : Int) (n_6_0 : Int) (v6_2 : Int) (v6_3 : (Sq SPlace)) : Codes_Made_l6 v6_1 shafts_6_4 n_6_0 v6_2 v6_3 = fixO (fun v : Int × Int × (Sq SPlace) => Codes_Made_l6_step v6_1 shafts_6_4 v.1 v.2.1 v.2.2) (n_6_0, v6_2, v6_3) := gOfS_eq Codes_Made_l6_inj Codes_Made_l6_f ((v6_1, shafts_6_4), (n_6_0, v6_2, v6_3))
def Codes_Made_l12_s (p : ((Sq Int) × (Sq SPlace) × Int) × (Int × (Sq Int) × Int)) : St := ⟨[(0, .ptr 0 0), (2, .ptr 1 0), (3, .ptr 65 0), (4, .ptr 129 0), (5, .ptr 449 0), (6, .int .i64 p.1.2.2), (8, .int .i64 ((p.1.2.1.n : Nat) : Int)), (9, .ptr 2305 0), (10, .int .i64 p.2.2.2)], [(0, .var [.slc 1 p.1.1.n (fun k2586 => [.int .u8 (p.1.1.f k2586)]), .int .i64 p.2.1]), (1, .var [.own 2 0, .own 3 0, .own 4 0, .own 5 0]), (2, .nilrow 0), (3, .nilrow 0), (4, .nilrow 0), (5, .nilrow 0), (65, .var [.own 66 0, .own 67 0]), (66, .nilrow 0), (67, .nilrow 0), (129, .var [.own 130 0, .own 131 0]), (130, .nilrow 0), (131, .nilrow 0), (257, .row 0 2 p.1.2.1.n 70 (fun k2587 => (SPlace.enc (p.1.2.1.f k2587)))), (322, .nilrow 0), (387, .nilrow 0), (388, .nilrow 0), (449, .var [.own 257 0, .own 322 0, .own 387 0, .own 388 0]), (2177, .row 0 1 p.2.2.1.n 3 (fun k2588 => [.int .i64 (p.2.2.1.f k2588)])), (2242, .nilrow 0), (2305, .var [.own 2177 0, .own 2242 0])], 2561⟩
theorem Codes_Made_l12_inj (p q : ((Sq Int) × (Sq SPlace) × Int) × (Int × (Sq Int) × Int)) (h : Codes_Made_l12_s p = Codes_Made_l12_s q) : p = q :=
  Prod.ext (Prod.ext (Sq.av_inj intE_u8 (a := p.1.1) (b := q.1.1) (congrArg (fun x : St => cellS x 0 0) h)) (Prod.ext (Sq.row_inj SPlace.inj (a := p.1.2.1) (b := q.1.2.1) (congrArg (fun x : St => blkS x 257) h)) (show p.1.2.2 = q.1.2.2 from congrArg intA (congrArg (fun x : St => aget x.tm 6) h)))) (Prod.ext (show p.2.1 = q.2.1 from congrArg intA (congrArg (fun x : St => cellS x 0 1) h)) (Prod.ext (Sq.row_inj intE_i64 (a := p.2.2.1) (b := q.2.2.1) (congrArg (fun x : St => blkS x 2177) h)) (show p.2.2.2 = q.2.2.2 from congrArg intA (congrArg (fun x : St => aget x.tm 10) h))))
noncomputable def Codes_Made_l12_step (v12_1 : (Sq Int)) (v12_3 : (Sq SPlace)) (_shafts_12_6 : Int) (v12_2 : Int) (v12_4 : (Sq Int)) (i_12_5 : Int) : DT (LR (Int × (Sq Int) × Int) (Int × (Sq Int)) (Unit)) :=
  .ite (decide (i_12_5 < ((v12_3.n : Nat) : Int))) (
    .bind (Codes_Range (SCodes.mk v12_1 v12_2) (-4000 : Int) (4000 : Int)) fun z1573 =>
    .ite (decide ((0 : Int) ≤ i_12_5 ∧ i_12_5 < ((v12_4.n : Nat) : Int))) (
      .leaf (.next (z1573.2, (Sq.mk v12_4.n (fun k1574 => (cond (Nat.beq k1574 (Int.toNat i_12_5)) z1573.1 (v12_4.f k1574)))), (wr (i_12_5 + (1 : Int)))))) (
      .fail)) (
    .leaf (.l (v12_2, v12_4)))
def Codes_Made_l12_el (x : St) (a : Int × (Sq Int)) : St := ⟨[(0, .ptr 0 0), (2, .ptr 1 0), (3, .ptr 65 0), (4, .ptr 129 0), (5, .ptr 449 0), (6, aget x.tm 6), (8, aget x.tm 8), (9, .ptr 2305 0)], [(0, .var [cellS x 0 0, .int .i64 a.1]), (1, .var [.own 2 0, .own 3 0, .own 4 0, .own 5 0]), (2, .nilrow 0), (3, .nilrow 0), (4, .nilrow 0), (5, .nilrow 0), (65, .var [.own 66 0, .own 67 0]), (66, .nilrow 0), (67, .nilrow 0), (129, .var [.own 130 0, .own 131 0]), (130, .nilrow 0), (131, .nilrow 0), (257, blkS x 257), (322, .nilrow 0), (387, .nilrow 0), (388, .nilrow 0), (449, .var [.own 257 0, .own 322 0, .own 387 0, .own 388 0]), (2177, .row 0 1 a.2.n 3 (fun k2589 => [.int .i64 (a.2.f k2589)])), (2242, .nilrow 0), (2305, .var [.own 2177 0, .own 2242 0])], 2561⟩
def Codes_Made_l12_er (_ : St) (_ : Unit) : St := ⟨[], [], 0⟩
noncomputable def Codes_Made_l12_f (p : ((Sq Int) × (Sq SPlace) × Int) × (Int × (Sq Int) × Int)) : Option ((Int × (Sq Int)) ⊕ (Unit)) := fixO (fun v : Int × (Sq Int) × Int => Codes_Made_l12_step p.1.1 p.1.2.1 p.1.2.2 v.1 v.2.1 v.2.2) p.2
noncomputable def Codes_Made_l12_c : St → Option LRes := loopM Codes_Made_l12_s Codes_Made_l12_f true (.exit 2) Codes_Made_l12_el .ret Codes_Made_l12_er
noncomputable def Codes_Made_l12 (v12_1 : (Sq Int)) (v12_3 : (Sq SPlace)) (shafts_12_6 : Int) (v12_2 : Int) (v12_4 : (Sq Int)) (i_12_5 : Int) : Option ((Int × (Sq Int)) ⊕ (Unit)) := gOfS Codes_Made_l12_s Codes_Made_l12_f (Codes_Made_l12_s ((v12_1, v12_3, shafts_12_6), (v12_2, v12_4, i_12_5)))
theorem Codes_Made_l12_eq (v12_1 : (Sq Int)) (v12_3 : (Sq SPlace)) (shafts_12_6 : Int) (v12_2 : Int) (v12_4 : (Sq Int)) (i_12_5 : Int) : Codes_Made_l12 v12_1 v12_3 shafts_12_6 v12_2 v12_4 i_12_5 = fixO (fun v : Int × (Sq Int) × Int => Codes_Made_l12_step v12_1 v12_3 shafts_12_6 v.1 v.2.1 v.2.2) (v12_2, v12_4, i_12_5) := gOfS_eq Codes_Made_l12_inj Codes_Made_l12_f ((v12_1, v12_3, shafts_12_6), (v12_2, v12_4, i_12_5))
def Codes_Made_l18_s (p : ((Sq Int) × (Sq SPlace) × (Sq Int) × Int) × (Int × Int × (Sq SRoad) × (Sq Int) × (Sq Int))) : St := ⟨[(0, .ptr 0 0), (2, .ptr 1 0), (3, .ptr 65 0), (4, .ptr 129 0), (5, .ptr 449 0), (6, .int .i64 p.1.2.2.2), (8, .int .i64 ((p.1.2.1.n : Nat) : Int)), (9, .ptr 2305 0), (11, .own 2625 0), (12, .int .i64 p.2.1)], [(0, .var [.slc 1 p.1.1.n (fun k2590 => [.int .u8 (p.1.1.f k2590)]), .int .i64 p.2.2.1]), (1, .var [.own 2 0, .own 3 0, .own 4 0, .own 5 0]), (2, .nilrow 0), (3, .nilrow 0), (4, .nilrow 0), (5, .nilrow 0), (65, .var [.own 66 0, .own 67 0]), (66, .nilrow 0), (67, .nilrow 0), (129, .var [.own 130 0, .own 131 0]), (130, .nilrow 0), (131, .nilrow 0), (257, .row 0 2 p.1.2.1.n 70 (fun k2591 => (SPlace.enc (p.1.2.1.f k2591)))), (322, .row 0 10 p.2.2.2.1.n 64 (fun k2592 => (SRoad.enc (p.2.2.2.1.f k2592)))), (387, .nilrow 0), (388, .nilrow 0), (449, .var [.own 257 0, .own 322 0, .own 387 0, .own 388 0]), (2177, .row 0 1 p.1.2.2.1.n 3 (fun k2593 => [.int .i64 (p.1.2.2.1.f k2593)])), (2242, .row 0 1 p.2.2.2.2.1.n 3 (fun k2594 => [.int .i64 (p.2.2.2.2.1.f k2594)])), (2305, .var [.own 2177 0, .own 2242 0]), (2625, .row 0 1 p.2.2.2.2.2.n 3 (fun k2595 => [.int .i64 (p.2.2.2.2.2.f k2595)]))], 3073⟩
theorem Codes_Made_l18_inj (p q : ((Sq Int) × (Sq SPlace) × (Sq Int) × Int) × (Int × Int × (Sq SRoad) × (Sq Int) × (Sq Int))) (h : Codes_Made_l18_s p = Codes_Made_l18_s q) : p = q :=
  Prod.ext (Prod.ext (Sq.av_inj intE_u8 (a := p.1.1) (b := q.1.1) (congrArg (fun x : St => cellS x 0 0) h)) (Prod.ext (Sq.row_inj SPlace.inj (a := p.1.2.1) (b := q.1.2.1) (congrArg (fun x : St => blkS x 257) h)) (Prod.ext (Sq.row_inj intE_i64 (a := p.1.2.2.1) (b := q.1.2.2.1) (congrArg (fun x : St => blkS x 2177) h)) (show p.1.2.2.2 = q.1.2.2.2 from congrArg intA (congrArg (fun x : St => aget x.tm 6) h))))) (Prod.ext (show p.2.1 = q.2.1 from congrArg intA (congrArg (fun x : St => aget x.tm 12) h)) (Prod.ext (show p.2.2.1 = q.2.2.1 from congrArg intA (congrArg (fun x : St => cellS x 0 1) h)) (Prod.ext (Sq.row_inj SRoad.inj (a := p.2.2.2.1) (b := q.2.2.2.1) (congrArg (fun x : St => blkS x 322) h)) (Prod.ext (Sq.row_inj intE_i64 (a := p.2.2.2.2.1) (b := q.2.2.2.2.1) (congrArg (fun x : St => blkS x 2242) h)) (Sq.row_inj intE_i64 (a := p.2.2.2.2.2) (b := q.2.2.2.2.2) (congrArg (fun x : St => blkS x 2625) h))))))
noncomputable def Codes_Made_l18_step (v18_2 : (Sq Int)) (v18_4 : (Sq SPlace)) (_v18_6 : (Sq Int)) (_shafts_18_9 : Int) (k_18_1 : Int) (v18_3 : Int) (v18_5 : (Sq SRoad)) (v18_7 : (Sq Int)) (v18_8 : (Sq Int)) : DT (LR (Int × Int × (Sq SRoad) × (Sq Int) × (Sq Int)) (Int × (Sq SRoad) × (Sq Int) × (Sq Int)) (Unit)) :=
  .ite (decide (k_18_1 > (0 : Int))) (
    .bind (Codes_Next (SCodes.mk v18_2 v18_3) ((v18_4.n : Nat) : Int)) fun z1580 =>
    .bind (Codes_Next (SCodes.mk v18_2 z1580.2) (wr (((v18_4.n : Nat) : Int) - (1 : Int)))) fun z1581 =>
    .ite (((v18_4.n : Nat) : Int) != 0) (
      .bind (Codes_Road (SCodes.mk v18_2 z1581.2) z1580.1 (Int.tmod (wr ((wr (z1580.1 + (1 : Int))) + z1581.1)) ((v18_4.n : Nat) : Int))) fun z1582 =>
      .bind (Codes_One (SCodes.mk v18_2 z1582.2) (7 : Int)) fun z1583 =>
      .bind (Codes_Range (SCodes.mk v18_2 z1583.2) (-60 : Int) (60 : Int)) fun z1584 =>
      .ite z1583.1 (
        .ite (decide ((v18_5.n + 1) * 72 ≤ 140737488355328 ∧ (v18_5.n + 1) ≤ 1099511627776)) (
          .ite (decide ((v18_7.n + 1) * 8 ≤ 140737488355328 ∧ (v18_7.n + 1) ≤ 1099511627776)) (
            .ite (decide ((0 : Int) ≤ z1582.1.From ∧ z1582.1.From < ((v18_8.n : Nat) : Int))) (
              .ite (decide ((0 : Int) ≤ z1582.1.From ∧ z1582.1.From < ((v18_8.n : Nat) : Int))) (
                .ite (decide ((0 : Int) ≤ z1582.1.To ∧ z1582.1.To < ((v18_8.n : Nat) : Int))) (
                  .ite (decide ((0 : Int) ≤ z1582.1.To ∧ z1582.1.To < ((v18_8.n : Nat) : Int))) (
                    .leaf (.next ((wr (k_18_1 - (1 : Int))), z1584.2, (Sq.mk (v18_5.n + 1) (fun k1585 => (SRoad.mk (cond (Nat.blt k1585 v18_5.n) (v18_5.f k1585).From z1582.1.From) (cond (Nat.blt k1585 v18_5.n) (v18_5.f k1585).To z1582.1.To) (cond (Nat.blt k1585 v18_5.n) (v18_5.f k1585).Length z1582.1.Length) (cond (Nat.blt k1585 v18_5.n) (v18_5.f k1585).Area z1582.1.Area) (cond (Nat.blt k1585 v18_5.n) (v18_5.f k1585).Walk z1582.1.Walk) (cond (Nat.blt k1585 v18_5.n) (v18_5.f k1585).Closed z1583.1) (SSpan.mk (cond (Nat.blt k1585 v18_5.n) (v18_5.f k1585).Rest.Low z1582.1.Rest.Low) (cond (Nat.blt k1585 v18_5.n) (v18_5.f k1585).Rest.High z1582.1.Rest.High)) (SSpan.mk (cond (Nat.blt k1585 v18_5.n) (v18_5.f k1585).Lift.Low z1582.1.Lift.Low) (cond (Nat.blt k1585 v18_5.n) (v18_5.f k1585).Lift.High z1582.1.Lift.High))))), (Sq.mk (v18_7.n + 1) (fun k1586 => (cond (Nat.blt k1586 v18_7.n) (v18_7.f k1586) (0 : Int)))), (Sq.mk v18_8.n (fun k1587 => (cond (Nat.beq k1587 (Int.toNat z1582.1.To)) (wr ((cond (Nat.beq (Int.toNat z1582.1.To) (Int.toNat z1582.1.From)) (wr ((v18_8.f (Int.toNat z1582.1.From)) + (0 : Int))) (v18_8.f (Int.toNat z1582.1.To))) - (0 : Int))) (cond (Nat.beq k1587 (Int.toNat z1582.1.From)) (wr ((v18_8.f (Int.toNat z1582.1.From)) + (0 : Int))) (v18_8.f k1587)))))))) (
                    .fail)) (
                  .fail)) (
                .fail)) (
              .fail)) (
            .fail)) (
          .fail)) (
        .ite (decide ((v18_5.n + 1) * 72 ≤ 140737488355328 ∧ (v18_5.n + 1) ≤ 1099511627776)) (
          .ite (decide ((v18_7.n + 1) * 8 ≤ 140737488355328 ∧ (v18_7.n + 1) ≤ 1099511627776)) (
            .ite (decide ((0 : Int) ≤ z1582.1.From ∧ z1582.1.From < ((v18_8.n : Nat) : Int))) (
              .ite (decide ((0 : Int) ≤ z1582.1.From ∧ z1582.1.From < ((v18_8.n : Nat) : Int))) (
                .ite (decide ((0 : Int) ≤ z1582.1.To ∧ z1582.1.To < ((v18_8.n : Nat) : Int))) (
                  .ite (decide ((0 : Int) ≤ z1582.1.To ∧ z1582.1.To < ((v18_8.n : Nat) : Int))) (
                    .leaf (.next ((wr (k_18_1 - (1 : Int))), z1584.2, (Sq.mk (v18_5.n + 1) (fun k1588 => (SRoad.mk (cond (Nat.blt k1588 v18_5.n) (v18_5.f k1588).From z1582.1.From) (cond (Nat.blt k1588 v18_5.n) (v18_5.f k1588).To z1582.1.To) (cond (Nat.blt k1588 v18_5.n) (v18_5.f k1588).Length z1582.1.Length) (cond (Nat.blt k1588 v18_5.n) (v18_5.f k1588).Area z1582.1.Area) (cond (Nat.blt k1588 v18_5.n) (v18_5.f k1588).Walk z1582.1.Walk) (cond (Nat.blt k1588 v18_5.n) (v18_5.f k1588).Closed z1583.1) (SSpan.mk (cond (Nat.blt k1588 v18_5.n) (v18_5.f k1588).Rest.Low z1582.1.Rest.Low) (cond (Nat.blt k1588 v18_5.n) (v18_5.f k1588).Rest.High z1582.1.Rest.High)) (SSpan.mk (cond (Nat.blt k1588 v18_5.n) (v18_5.f k1588).Lift.Low z1582.1.Lift.Low) (cond (Nat.blt k1588 v18_5.n) (v18_5.f k1588).Lift.High z1582.1.Lift.High))))), (Sq.mk (v18_7.n + 1) (fun k1589 => (cond (Nat.blt k1589 v18_7.n) (v18_7.f k1589) z1584.1))), (Sq.mk v18_8.n (fun k1590 => (cond (Nat.beq k1590 (Int.toNat z1582.1.To)) (wr ((cond (Nat.beq (Int.toNat z1582.1.To) (Int.toNat z1582.1.From)) (wr ((v18_8.f (Int.toNat z1582.1.From)) + z1584.1)) (v18_8.f (Int.toNat z1582.1.To))) - z1584.1)) (cond (Nat.beq k1590 (Int.toNat z1582.1.From)) (wr ((v18_8.f (Int.toNat z1582.1.From)) + z1584.1)) (v18_8.f k1590)))))))) (
                    .fail)) (
                  .fail)) (
                .fail)) (
              .fail)) (
            .fail)) (
          .fail))) (
      .fail)) (
    .leaf (.l (v18_3, v18_5, v18_7, v18_8)))
def Codes_Made_l18_el (x : St) (a : Int × (Sq SRoad) × (Sq Int) × (Sq Int)) : St := ⟨[(0, .ptr 0 0), (2, .ptr 1 0), (3, .ptr 65 0), (4, .ptr 129 0), (5, .ptr 449 0), (6, aget x.tm 6), (8, aget x.tm 8), (9, .ptr 2305 0), (11, .own 2625 0)], [(0, .var [cellS x 0 0, .int .i64 a.1]), (1, .var [.own 2 0, .own 3 0, .own 4 0, .own 5 0]), (2, .nilrow 0), (3, .nilrow 0), (4, .nilrow 0), (5, .nilrow 0), (65, .var [.own 66 0, .own 67 0]), (66, .nilrow 0), (67, .nilrow 0), (129, .var [.own 130 0, .own 131 0]), (130, .nilrow 0), (131, .nilrow 0), (257, blkS x 257), (322, .row 0 10 a.2.1.n 64 (fun k2596 => (SRoad.enc (a.2.1.f k2596)))), (387, .nilrow 0), (388, .nilrow 0), (449, .var [.own 257 0, .own 322 0, .own 387 0, .own 388 0]), (2177, blkS x 2177), (2242, .row 0 1 a.2.2.1.n 3 (fun k2597 => [.int .i64 (a.2.2.1.f k2597)])), (2305, .var [.own 2177 0, .own 2242 0]), (2625, .row 0 1 a.2.2.2.n 3 (fun k2598 => [.int .i64 (a.2.2.2.f k2598)]))], 3073⟩
def Codes_Made_l18_er (_ : St) (_ : Unit) : St := ⟨[], [], 0⟩
noncomputable def Codes_Made_l18_f (p : ((Sq Int) × (Sq SPlace) × (Sq Int) × Int) × (Int × Int × (Sq SRoad) × (Sq Int) × (Sq Int))) : Option ((Int × (Sq SRoad) × (Sq Int) × (Sq Int)) ⊕ (Unit)) := fixO (fun v : Int × Int × (Sq SRoad) × (Sq Int) × (Sq Int) => Codes_Made_l18_step p.1.1 p.1.2.1 p.1.2.2.1 p.1.2.2.2 v.1 v.2.1 v.2.2.1 v.2.2.2.1 v.2.2.2.2) p.2
noncomputable def Codes_Made_l18_c : St → Option LRes := loopM Codes_Made_l18_s Codes_Made_l18_f true (.exit 4) Codes_Made_l18_el .ret Codes_Made_l18_er
noncomputable def Codes_Made_l18 (v18_2 : (Sq Int)) (v18_4 : (Sq SPlace)) (v18_6 : (Sq Int)) (shafts_18_9 : Int) (k_18_1 : Int) (v18_3 : Int) (v18_5 : (Sq SRoad)) (v18_7 : (Sq Int)) (v18_8 : (Sq Int)) : Option ((Int × (Sq SRoad) × (Sq Int) × (Sq Int)) ⊕ (Unit)) := gOfS Codes_Made_l18_s Codes_Made_l18_f (Codes_Made_l18_s ((v18_2, v18_4, v18_6, shafts_18_9), (k_18_1, v18_3, v18_5, v18_7, v18_8)))
theorem Codes_Made_l18_eq (v18_2 : (Sq Int)) (v18_4 : (Sq SPlace)) (v18_6 : (Sq Int)) (shafts_18_9 : Int) (k_18_1 : Int) (v18_3 : Int) (v18_5 : (Sq SRoad)) (v18_7 : (Sq Int)) (v18_8 : (Sq Int)) : Codes_Made_l18 v18_2 v18_4 v18_6 shafts_18_9 k_18_1 v18_3 v18_5 v18_7 v18_8 = fixO (fun v : Int × Int × (Sq SRoad) × (Sq Int) × (Sq Int) => Codes_Made_l18_step v18_2 v18_4 v18_6 shafts_18_9 v.1 v.2.1 v.2.2.1 v.2.2.2.1 v.2.2.2.2) (k_18_1, v18_3, v18_5, v18_7, v18_8) := gOfS_eq Codes_Made_l18_inj Codes_Made_l18_f ((v18_2, v18_4, v18_6, shafts_18_9), (k_18_1, v18_3, v18_5, v18_7, v18_8))
def Codes_Made_l30_s (p : ((Sq Int) × (Sq SPlace) × (Sq Int) × (Sq Int) × Int) × (Int × (Sq SRoad) × (Sq Int) × Int)) : St := ⟨[(0, .ptr 0 0), (2, .ptr 1 0), (3, .ptr 65 0), (4, .ptr 129 0), (5, .ptr 449 0), (6, .int .i64 p.1.2.2.2.2), (8, .int .i64 ((p.1.2.1.n : Nat) : Int)), (9, .ptr 2305 0), (11, .own 2625 0), (16, .int .i64 p.2.2.2.2)], [(0, .var [.slc 1 p.1.1.n (fun k2599 => [.int .u8 (p.1.1.f k2599)]), .int .i64 p.2.1]), (1, .var [.own 2 0, .own 3 0, .own 4 0, .own 5 0]), (2, .nilrow 0), (3, .nilrow 0), (4, .nilrow 0), (5, .nilrow 0), (65, .var [.own 66 0, .own 67 0]), (66, .nilrow 0), (67, .nilrow 0), (129, .var [.own 130 0, .own 131 0]), (130, .nilrow 0), (131, .nilrow 0), (257, .row 0 2 p.1.2.1.n 70 (fun k2600 => (SPlace.enc (p.1.2.1.f k2600)))), (322, .row 0 10 p.2.2.1.n 64 (fun k2601 => (SRoad.enc (p.2.2.1.f k2601)))), (387, .nilrow 0), (388, .nilrow 0), (449, .var [.own 257 0, .own 322 0, .own 387 0, .own 388 0]), (2177, .row 0 1 p.1.2.2.1.n 3 (fun k2602 => [.int .i64 (p.1.2.2.1.f k2602)])), (2242, .row 0 1 p.2.2.2.1.n 3 (fun k2603 => [.int .i64 (p.2.2.2.1.f k2603)])), (2305, .var [.own 2177 0, .own 2242 0]), (2625, .row 0 1 p.1.2.2.2.1.n 3 (fun k2604 => [.int .i64 (p.1.2.2.2.1.f k2604)]))], 3201⟩
theorem Codes_Made_l30_inj (p q : ((Sq Int) × (Sq SPlace) × (Sq Int) × (Sq Int) × Int) × (Int × (Sq SRoad) × (Sq Int) × Int)) (h : Codes_Made_l30_s p = Codes_Made_l30_s q) : p = q :=
  Prod.ext (Prod.ext (Sq.av_inj intE_u8 (a := p.1.1) (b := q.1.1) (congrArg (fun x : St => cellS x 0 0) h)) (Prod.ext (Sq.row_inj SPlace.inj (a := p.1.2.1) (b := q.1.2.1) (congrArg (fun x : St => blkS x 257) h)) (Prod.ext (Sq.row_inj intE_i64 (a := p.1.2.2.1) (b := q.1.2.2.1) (congrArg (fun x : St => blkS x 2177) h)) (Prod.ext (Sq.row_inj intE_i64 (a := p.1.2.2.2.1) (b := q.1.2.2.2.1) (congrArg (fun x : St => blkS x 2625) h)) (show p.1.2.2.2.2 = q.1.2.2.2.2 from congrArg intA (congrArg (fun x : St => aget x.tm 6) h)))))) (Prod.ext (show p.2.1 = q.2.1 from congrArg intA (congrArg (fun x : St => cellS x 0 1) h)) (Prod.ext (Sq.row_inj SRoad.inj (a := p.2.2.1) (b := q.2.2.1) (congrArg (fun x : St => blkS x 322) h)) (Prod.ext (Sq.row_inj intE_i64 (a := p.2.2.2.1) (b := q.2.2.2.1) (congrArg (fun x : St => blkS x 2242) h)) (show p.2.2.2.2 = q.2.2.2.2 from congrArg intA (congrArg (fun x : St => aget x.tm 16) h)))))
noncomputable def Codes_Made_l30_step (v30_1 : (Sq Int)) (v30_3 : (Sq SPlace)) (_v30_5 : (Sq Int)) (v30_7 : (Sq Int)) (shafts_30_9 : Int) (v30_2 : Int) (v30_4 : (Sq SRoad)) (v30_6 : (Sq Int)) (i_30_8 : Int) : DT (LR (Int × (Sq SRoad) × (Sq Int) × Int) (Int × (Sq SRoad) × (Sq Int)) (Unit)) :=
  .ite (decide (i_30_8 < ((v30_3.n : Nat) : Int))) (
    .bind (Codes_Next (SCodes.mk v30_1 v30_2) shafts_30_9) fun z1592 =>
    .bind (Codes_Road (SCodes.mk v30_1 z1592.2) i_30_8 z1592.1) fun z1593 =>
    .ite (decide ((0 : Int) ≤ i_30_8 ∧ i_30_8 < ((v30_7.n : Nat) : Int))) (
      .bind (Codes_One (SCodes.mk v30_1 z1593.2) (2 : Int)) fun z1594 =>
      .ite z1594.1 (
        .ite (decide ((v30_4.n + 1) * 72 ≤ 140737488355328 ∧ (v30_4.n + 1) ≤ 1099511627776)) (
          .ite (decide ((v30_6.n + 1) * 8 ≤ 140737488355328 ∧ (v30_6.n + 1) ≤ 1099511627776)) (
            .leaf (.next (z1594.2, (Sq.mk (v30_4.n + 1) (fun k1595 => (SRoad.mk (cond (Nat.blt k1595 v30_4.n) (v30_4.f k1595).From z1593.1.To) (cond (Nat.blt k1595 v30_4.n) (v30_4.f k1595).To z1593.1.From) (cond (Nat.blt k1595 v30_4.n) (v30_4.f k1595).Length z1593.1.Length) (cond (Nat.blt k1595 v30_4.n) (v30_4.f k1595).Area z1593.1.Area) (cond (Nat.blt k1595 v30_4.n) (v30_4.f k1595).Walk z1593.1.Walk) (cond (Nat.blt k1595 v30_4.n) (v30_4.f k1595).Closed z1593.1.Closed) (SSpan.mk (cond (Nat.blt k1595 v30_4.n) (v30_4.f k1595).Rest.Low z1593.1.Rest.Low) (cond (Nat.blt k1595 v30_4.n) (v30_4.f k1595).Rest.High z1593.1.Rest.High)) (SSpan.mk (cond (Nat.blt k1595 v30_4.n) (v30_4.f k1595).Lift.Low z1593.1.Lift.Low) (cond (Nat.blt k1595 v30_4.n) (v30_4.f k1595).Lift.High z1593.1.Lift.High))))), (Sq.mk (v30_6.n + 1) (fun k1596 => (cond (Nat.blt k1596 v30_6.n) (v30_6.f k1596) (wr (0 - (wr (0 - (v30_7.f (Int.toNat i_30_8))))))))), (wr (i_30_8 + (1 : Int)))))) (
            .fail)) (
          .fail)) (
        .ite (decide ((v30_4.n + 1) * 72 ≤ 140737488355328 ∧ (v30_4.n + 1) ≤ 1099511627776)) (
          .ite (decide ((v30_6.n + 1) * 8 ≤ 140737488355328 ∧ (v30_6.n + 1) ≤ 1099511627776)) (
            .leaf (.next (z1594.2, (Sq.mk (v30_4.n + 1) (fun k1597 => (SRoad.mk (cond (Nat.blt k1597 v30_4.n) (v30_4.f k1597).From z1593.1.From) (cond (Nat.blt k1597 v30_4.n) (v30_4.f k1597).To z1593.1.To) (cond (Nat.blt k1597 v30_4.n) (v30_4.f k1597).Length z1593.1.Length) (cond (Nat.blt k1597 v30_4.n) (v30_4.f k1597).Area z1593.1.Area) (cond (Nat.blt k1597 v30_4.n) (v30_4.f k1597).Walk z1593.1.Walk) (cond (Nat.blt k1597 v30_4.n) (v30_4.f k1597).Closed z1593.1.Closed) (SSpan.mk (cond (Nat.blt k1597 v30_4.n) (v30_4.f k1597).Rest.Low z1593.1.Rest.Low) (cond (Nat.blt k1597 v30_4.n) (v30_4.f k1597).Rest.High z1593.1.Rest.High)) (SSpan.mk (cond (Nat.blt k1597 v30_4.n) (v30_4.f k1597).Lift.Low z1593.1.Lift.Low) (cond (Nat.blt k1597 v30_4.n) (v30_4.f k1597).Lift.High z1593.1.Lift.High))))), (Sq.mk (v30_6.n + 1) (fun k1598 => (cond (Nat.blt k1598 v30_6.n) (v30_6.f k1598) (wr (0 - (v30_7.f (Int.toNat i_30_8))))))), (wr (i_30_8 + (1 : Int)))))) (
            .fail)) (
          .fail))) (
      .fail)) (
    .leaf (.l (v30_2, v30_4, v30_6)))
def Codes_Made_l30_el (x : St) (a : Int × (Sq SRoad) × (Sq Int)) : St := ⟨[(0, .ptr 0 0), (2, .ptr 1 0), (3, .ptr 65 0), (4, .ptr 129 0), (5, .ptr 449 0), (9, .ptr 2305 0)], [(0, .var [cellS x 0 0, .int .i64 a.1]), (1, .var [.own 2 0, .own 3 0, .own 4 0, .own 5 0]), (2, .nilrow 0), (3, .nilrow 0), (4, .nilrow 0), (5, .nilrow 0), (65, .var [.own 66 0, .own 67 0]), (66, .nilrow 0), (67, .nilrow 0), (129, .var [.own 130 0, .own 131 0]), (130, .nilrow 0), (131, .nilrow 0), (257, blkS x 257), (322, .row 0 10 a.2.1.n 64 (fun k2605 => (SRoad.enc (a.2.1.f k2605)))), (387, .nilrow 0), (388, .nilrow 0), (449, .var [.own 257 0, .own 322 0, .own 387 0, .own 388 0]), (2177, blkS x 2177), (2242, .row 0 1 a.2.2.n 3 (fun k2606 => [.int .i64 (a.2.2.f k2606)])), (2305, .var [.own 2177 0, .own 2242 0]), (2625, blkS x 2625)], 3201⟩
def Codes_Made_l30_er (_ : St) (_ : Unit) : St := ⟨[], [], 0⟩
noncomputable def Codes_Made_l30_f (p : ((Sq Int) × (Sq SPlace) × (Sq Int) × (Sq Int) × Int) × (Int × (Sq SRoad) × (Sq Int) × Int)) : Option ((Int × (Sq SRoad) × (Sq Int)) ⊕ (Unit)) := fixO (fun v : Int × (Sq SRoad) × (Sq Int) × Int => Codes_Made_l30_step p.1.1 p.1.2.1 p.1.2.2.1 p.1.2.2.2.1 p.1.2.2.2.2 v.1 v.2.1 v.2.2.1 v.2.2.2) p.2
noncomputable def Codes_Made_l30_c : St → Option LRes := loopM Codes_Made_l30_s Codes_Made_l30_f true (.exit 6) Codes_Made_l30_el .ret Codes_Made_l30_er
noncomputable def Codes_Made_l30 (v30_1 : (Sq Int)) (v30_3 : (Sq SPlace)) (v30_5 : (Sq Int)) (v30_7 : (Sq Int)) (shafts_30_9 : Int) (v30_2 : Int) (v30_4 : (Sq SRoad)) (v30_6 : (Sq Int)) (i_30_8 : Int) : Option ((Int × (Sq SRoad) × (Sq Int)) ⊕ (Unit)) := gOfS Codes_Made_l30_s Codes_Made_l30_f (Codes_Made_l30_s ((v30_1, v30_3, v30_5, v30_7, shafts_30_9), (v30_2, v30_4, v30_6, i_30_8)))
theorem Codes_Made_l30_eq (v30_1 : (Sq Int)) (v30_3 : (Sq SPlace)) (v30_5 : (Sq Int)) (v30_7 : (Sq Int)) (shafts_30_9 : Int) (v30_2 : Int) (v30_4 : (Sq SRoad)) (v30_6 : (Sq Int)) (i_30_8 : Int) : Codes_Made_l30 v30_1 v30_3 v30_5 v30_7 shafts_30_9 v30_2 v30_4 v30_6 i_30_8 = fixO (fun v : Int × (Sq SRoad) × (Sq Int) × Int => Codes_Made_l30_step v30_1 v30_3 v30_5 v30_7 shafts_30_9 v.1 v.2.1 v.2.2.1 v.2.2.2) (v30_2, v30_4, v30_6, i_30_8) := gOfS_eq Codes_Made_l30_inj Codes_Made_l30_f ((v30_1, v30_3, v30_5, v30_7, shafts_30_9), (v30_2, v30_4, v30_6, i_30_8))
noncomputable def Codes_Made_t (c : SCodes) : DT (SAir × SSetting × SState × Int) :=
  .bind (Codes_One c (3 : Int)) fun z1562 =>
  .ite z1562.1 (
    .bind (Codes_Next (SCodes.mk c.l_ z1562.2) (5 : Int)) fun z1563 =>
    .sum (Codes_Made_l6 c.l_ (2 : Int) z1563.1 z1563.2 (Sq.mk 2 (fun k1564 => (SPlace.mk (cond (Nat.blt k1564 1) (0 : Int) (10 : Int)) (cond (Nat.blt k1564 1) true true))))) (fun y1569 =>
      .ite (decide ((0 : Int) ≤ ((y1569.2.n : Nat) : Int) ∧ ((y1569.2.n : Nat) : Int) ≤ ((y1569.2.n : Nat) : Int) ∧ ((y1569.2.n : Nat) : Int) * ((8 : Nat) : Int) ≤ 140737488355328 ∧ ((y1569.2.n : Nat) : Int) ≤ 1099511627776)) (
        .sum (Codes_Made_l12 c.l_ y1569.2 (2 : Int) y1569.1 (Sq.mk (Int.toNat ((y1569.2.n : Nat) : Int)) (fun _ => (0 : Int))) (2 : Int)) (fun y1575 =>
          .ite (decide ((0 : Int) ≤ ((y1569.2.n : Nat) : Int) ∧ ((y1569.2.n : Nat) : Int) ≤ ((y1569.2.n : Nat) : Int) ∧ ((y1569.2.n : Nat) : Int) * ((8 : Nat) : Int) ≤ 140737488355328 ∧ ((y1569.2.n : Nat) : Int) ≤ 1099511627776)) (
            .ite (decide (((y1569.2.n : Nat) : Int) > (1 : Int))) (
              .bind (Codes_Next (SCodes.mk c.l_ y1575.1) (6 : Int)) fun z1576 =>
              .sum (Codes_Made_l18 c.l_ y1569.2 y1575.2 (2 : Int) z1576.1 z1576.2 (Sq.mk 0 (fun _ => (SRoad.mk (0 : Int) (0 : Int) (0 : Int) (0 : Int) false false (SSpan.mk (0 : Int) (0 : Int)) (SSpan.mk (0 : Int) (0 : Int))))) (Sq.mk 0 (fun _ => (0 : Int))) (Sq.mk (Int.toNat ((y1569.2.n : Nat) : Int)) (fun _ => (0 : Int)))) (fun y1591 =>
                .sum (Codes_Made_l30 c.l_ y1569.2 y1575.2 y1591.2.2.2 (2 : Int) y1591.1 y1591.2.1 y1591.2.2.1 (2 : Int)) (fun y1599 =>
                  .bind (Codes_equipped (SCodes.mk c.l_ y1599.1) (SAir.mk (SMine.mk y1569.2 y1599.2.1) (Sq.mk 0 (fun _ => (SFan.mk (0 : Int) false false (Sq.mk 0 (fun _ => (SPoint.mk (0 : Int) (0 : Int))))))) (Sq.mk 0 (fun _ => (SDoor.mk (0 : Int) (0 : Int) (Sq.mk 0 (fun _ => (0 : Int)))))))) fun z1600 =>
                  .bind (Codes_fit (SCodes.mk c.l_ z1600.2.1) (SAir.mk (SMine.mk y1569.2 y1599.2.1) z1600.2.2.1 z1600.2.2.2) z1600.1 (SState.mk y1575.2 y1599.2.2)) fun z1601 =>
                  .bind (Codes_doubts (SCodes.mk c.l_ z1601.1) z1600.1) fun z1602 =>
                  .leaf ((SAir.mk (SMine.mk y1569.2 z1601.2) z1600.2.2.1 z1600.2.2.2), z1602.1, (SState.mk y1575.2 y1599.2.2), z1602.2)) (fun _ =>
                  .fail)) (fun _ =>
                .fail)) (
              .sum (Codes_Made_l30 c.l_ y1569.2 y1575.2 (Sq.mk (Int.toNat ((y1569.2.n : Nat) : Int)) (fun _ => (0 : Int))) (2 : Int) y1575.1 (Sq.mk 0 (fun _ => (SRoad.mk (0 : Int) (0 : Int) (0 : Int) (0 : Int) false false (SSpan.mk (0 : Int) (0 : Int)) (SSpan.mk (0 : Int) (0 : Int))))) (Sq.mk 0 (fun _ => (0 : Int))) (2 : Int)) (fun y1604 =>
                .bind (Codes_equipped (SCodes.mk c.l_ y1604.1) (SAir.mk (SMine.mk y1569.2 y1604.2.1) (Sq.mk 0 (fun _ => (SFan.mk (0 : Int) false false (Sq.mk 0 (fun _ => (SPoint.mk (0 : Int) (0 : Int))))))) (Sq.mk 0 (fun _ => (SDoor.mk (0 : Int) (0 : Int) (Sq.mk 0 (fun _ => (0 : Int)))))))) fun z1605 =>
                .bind (Codes_fit (SCodes.mk c.l_ z1605.2.1) (SAir.mk (SMine.mk y1569.2 y1604.2.1) z1605.2.2.1 z1605.2.2.2) z1605.1 (SState.mk y1575.2 y1604.2.2)) fun z1606 =>
                .bind (Codes_doubts (SCodes.mk c.l_ z1606.1) z1605.1) fun z1607 =>
                .leaf ((SAir.mk (SMine.mk y1569.2 z1606.2) z1605.2.2.1 z1605.2.2.2), z1607.1, (SState.mk y1575.2 y1604.2.2), z1607.2)) (fun _ =>
                .fail))) (
            .fail)) (fun _ =>
          .fail)) (
        .fail)) (fun _ =>
      .fail)) (
    .bind (Codes_Next (SCodes.mk c.l_ z1562.2) (5 : Int)) fun z1608 =>
    .sum (Codes_Made_l6 c.l_ (1 : Int) z1608.1 z1608.2 (Sq.mk 1 (fun _ => (SPlace.mk (0 : Int) true)))) (fun y1610 =>
      .ite (decide ((0 : Int) ≤ ((y1610.2.n : Nat) : Int) ∧ ((y1610.2.n : Nat) : Int) ≤ ((y1610.2.n : Nat) : Int) ∧ ((y1610.2.n : Nat) : Int) * ((8 : Nat) : Int) ≤ 140737488355328 ∧ ((y1610.2.n : Nat) : Int) ≤ 1099511627776)) (
        .sum (Codes_Made_l12 c.l_ y1610.2 (1 : Int) y1610.1 (Sq.mk (Int.toNat ((y1610.2.n : Nat) : Int)) (fun _ => (0 : Int))) (1 : Int)) (fun y1612 =>
          .ite (decide ((0 : Int) ≤ ((y1610.2.n : Nat) : Int) ∧ ((y1610.2.n : Nat) : Int) ≤ ((y1610.2.n : Nat) : Int) ∧ ((y1610.2.n : Nat) : Int) * ((8 : Nat) : Int) ≤ 140737488355328 ∧ ((y1610.2.n : Nat) : Int) ≤ 1099511627776)) (
            .ite (decide (((y1610.2.n : Nat) : Int) > (1 : Int))) (
              .bind (Codes_Next (SCodes.mk c.l_ y1612.1) (6 : Int)) fun z1613 =>
              .sum (Codes_Made_l18 c.l_ y1610.2 y1612.2 (1 : Int) z1613.1 z1613.2 (Sq.mk 0 (fun _ => (SRoad.mk (0 : Int) (0 : Int) (0 : Int) (0 : Int) false false (SSpan.mk (0 : Int) (0 : Int)) (SSpan.mk (0 : Int) (0 : Int))))) (Sq.mk 0 (fun _ => (0 : Int))) (Sq.mk (Int.toNat ((y1610.2.n : Nat) : Int)) (fun _ => (0 : Int)))) (fun y1615 =>
                .sum (Codes_Made_l30 c.l_ y1610.2 y1612.2 y1615.2.2.2 (1 : Int) y1615.1 y1615.2.1 y1615.2.2.1 (1 : Int)) (fun y1616 =>
                  .bind (Codes_equipped (SCodes.mk c.l_ y1616.1) (SAir.mk (SMine.mk y1610.2 y1616.2.1) (Sq.mk 0 (fun _ => (SFan.mk (0 : Int) false false (Sq.mk 0 (fun _ => (SPoint.mk (0 : Int) (0 : Int))))))) (Sq.mk 0 (fun _ => (SDoor.mk (0 : Int) (0 : Int) (Sq.mk 0 (fun _ => (0 : Int)))))))) fun z1617 =>
                  .bind (Codes_fit (SCodes.mk c.l_ z1617.2.1) (SAir.mk (SMine.mk y1610.2 y1616.2.1) z1617.2.2.1 z1617.2.2.2) z1617.1 (SState.mk y1612.2 y1616.2.2)) fun z1618 =>
                  .bind (Codes_doubts (SCodes.mk c.l_ z1618.1) z1617.1) fun z1619 =>
                  .leaf ((SAir.mk (SMine.mk y1610.2 z1618.2) z1617.2.2.1 z1617.2.2.2), z1619.1, (SState.mk y1612.2 y1616.2.2), z1619.2)) (fun _ =>
                  .fail)) (fun _ =>
                .fail)) (
              .sum (Codes_Made_l30 c.l_ y1610.2 y1612.2 (Sq.mk (Int.toNat ((y1610.2.n : Nat) : Int)) (fun _ => (0 : Int))) (1 : Int) y1612.1 (Sq.mk 0 (fun _ => (SRoad.mk (0 : Int) (0 : Int) (0 : Int) (0 : Int) false false (SSpan.mk (0 : Int) (0 : Int)) (SSpan.mk (0 : Int) (0 : Int))))) (Sq.mk 0 (fun _ => (0 : Int))) (1 : Int)) (fun y1621 =>
                .bind (Codes_equipped (SCodes.mk c.l_ y1621.1) (SAir.mk (SMine.mk y1610.2 y1621.2.1) (Sq.mk 0 (fun _ => (SFan.mk (0 : Int) false false (Sq.mk 0 (fun _ => (SPoint.mk (0 : Int) (0 : Int))))))) (Sq.mk 0 (fun _ => (SDoor.mk (0 : Int) (0 : Int) (Sq.mk 0 (fun _ => (0 : Int)))))))) fun z1622 =>
                .bind (Codes_fit (SCodes.mk c.l_ z1622.2.1) (SAir.mk (SMine.mk y1610.2 y1621.2.1) z1622.2.2.1 z1622.2.2.2) z1622.1 (SState.mk y1612.2 y1621.2.2)) fun z1623 =>
                .bind (Codes_doubts (SCodes.mk c.l_ z1623.1) z1622.1) fun z1624 =>
                .leaf ((SAir.mk (SMine.mk y1610.2 z1623.2) z1622.2.2.1 z1622.2.2.2), z1624.1, (SState.mk y1612.2 y1621.2.2), z1624.2)) (fun _ =>
                .fail))) (
            .fail)) (fun _ =>
          .fail)) (
        .fail)) (fun _ =>
      .fail))
def Codes_Made_av (r : SAir × SSetting × SState × Int) : AV := .tup [.agg [.own 1 0, .own 2 0, .own 3 0, .own 4 0], .agg [.own 5 0, .own 6 0], .agg [.slc 1 r.2.2.1.Pressures.n (fun k2607 => [.int .i64 (r.2.2.1.Pressures.f k2607)]), .slc 1 r.2.2.1.Flows.n (fun k2608 => [.int .i64 (r.2.2.1.Flows.f k2608)])]]
def Codes_Made_outs (ins : List Blk) (r : SAir × SSetting × SState × Int) : List Blk := [.var [cellB ins 0 0, .int .i64 r.2.2.2], .row 0 2 r.1.Mine.Places.n 70 (fun k2609 => (SPlace.enc (r.1.Mine.Places.f k2609))), .row 0 10 r.1.Mine.Roads.n 64 (fun k2610 => (SRoad.enc (r.1.Mine.Roads.f k2610))), .row 0 4 r.1.Fans.n 44 (fun k2611 => (SFan.enc (r.1.Fans.f k2611))), .row 0 3 r.1.Doors.n 46 (fun k2612 => (SDoor.enc (r.1.Doors.f k2612))), .row 0 1 r.2.1.Fans.n 3 (fun k2613 => [.int .i64 (r.2.1.Fans.f k2613)]), .row 0 1 r.2.1.Doors.n 3 (fun k2614 => [.int .i64 (r.2.1.Doors.f k2614)])]
noncomputable def c_Codes_Made : List AV → List Blk → Option Ans := told Codes_Made_enc (fun p => (Codes_Made_t p).get) Codes_Made_av Codes_Made_outs false (fun h => by cases h)
noncomputable def Codes_Made_env : Env := { envS (fun f => match f with
  | 29 => c_Codes_One
  | 12 => c_Codes_Next
  | 30 => c_Codes_Range
  | 31 => c_Codes_Road
  | 32 => c_Codes_equipped
  | 33 => c_Codes_fit
  | 34 => c_Codes_doubts
  | _ => fun _ _ => none) (fun r => match r with | 6 => some ([0, 2, 3, 4, 5, 6, 7], [0, 2, 3, 4, 5, 6]) | 12 => some ([0, 2, 3, 4, 5, 6, 8, 9, 10], [0, 2, 3, 4, 5, 6, 8, 9]) | 18 => some ([0, 2, 3, 4, 5, 6, 8, 9, 11, 12], [0, 2, 3, 4, 5, 6, 8, 9, 11]) | 30 => some ([0, 2, 3, 4, 5, 6, 8, 9, 11, 16], [0, 2, 3, 4, 5, 9]) | 3000034 => some ([1], []) | _ => none) with loops := fun r => match r with | 6 => some Codes_Made_l6_c | 12 => some Codes_Made_l12_c | 18 => some Codes_Made_l18_c | 30 => some Codes_Made_l30_c | _ => none, pre := fun r => match r with | 1000018 => [.asrow 2242 3 1 (fun _ => [.int .i64 (0 : Int)]), .asrow 322 64 10 (fun _ => (SRoad.enc (SRoad.mk (0 : Int) (0 : Int) (0 : Int) (0 : Int) false false (SSpan.mk (0 : Int) (0 : Int)) (SSpan.mk (0 : Int) (0 : Int)))))] | 36 => [.asrow 387 44 4 (fun _ => (SFan.enc (SFan.mk (0 : Int) false false (Sq.mk 0 (fun _ => (SPoint.mk (0 : Int) (0 : Int))))))), .asrow 388 46 3 (fun _ => (SDoor.enc (SDoor.mk (0 : Int) (0 : Int) (Sq.mk 0 (fun _ => (0 : Int))))))] | 37 => [.freeze 3265, .freeze 3266, .freeze 2177, .freeze 2242] | 1000030 => [.asrow 2242 3 1 (fun _ => [.int .i64 (0 : Int)]), .asrow 322 64 10 (fun _ => (SRoad.enc (SRoad.mk (0 : Int) (0 : Int) (0 : Int) (0 : Int) false false (SSpan.mk (0 : Int) (0 : Int)) (SSpan.mk (0 : Int) (0 : Int)))))] | _ => [], gc := fun r => match r with | 6 => some [0, 1, 2, 3, 4, 5, 65, 66, 67, 129, 130, 131, 257, 322, 387, 388, 449] | 12 => some [0, 1, 2, 3, 4, 5, 65, 66, 67, 129, 130, 131, 257, 322, 387, 388, 449, 2177, 2242, 2305] | 18 => some [0, 1, 2, 3, 4, 5, 65, 66, 67, 129, 130, 131, 257, 322, 387, 388, 449, 2177, 2242, 2305, 2625] | 30 => some [0, 1, 2, 3, 4, 5, 65, 66, 67, 129, 130, 131, 257, 322, 387, 388, 449, 2177, 2242, 2305, 2625] | _ => none, mm := some 1 }
theorem Codes_Made_env_ok : ∀ f, Tells Try.prog f (Codes_Made_env.fs f) := by
  intro f
  by_cases h0 : f = 29
  · subst h0; exact Codes_One_tells
  by_cases h1 : f = 12
  · subst h1; exact Codes_Next_tells
  by_cases h2 : f = 30
  · subst h2; exact Codes_Range_tells
  by_cases h3 : f = 31
  · subst h3; exact Codes_Road_tells
  by_cases h4 : f = 32
  · subst h4; exact Codes_equipped_tells
  by_cases h5 : f = 33
  · subst h5; exact Codes_fit_tells
  by_cases h6 : f = 34
  · subst h6; exact Codes_doubts_tells
  have : Codes_Made_env.fs f = fun _ _ => none := by
    unfold Codes_Made_env envS
    dsimp only
    split
    · exact absurd rfl h0
    · exact absurd rfl h1
    · exact absurd rfl h2
    · exact absurd rfl h3
    · exact absurd rfl h4
    · exact absurd rfl h5
    · exact absurd rfl h6
    · rfl
  rw [this]
  exact Tells.none_ f
noncomputable def Codes_Made_e : Env := { Codes_Made_env with nt := 189 }
noncomputable def Codes_Made_l6_b : Code := loopOf 6 Try.f11
theorem Codes_Made_l6_round {R : Type} (fx : (Sq Int) × Int) (v : Int × Int × (Sq SPlace)) (N : Nat) (K : AX → St → Option R) : aloop (fun s j => aexec Codes_Made_e Codes_Made_l6_b s j) (headOf Codes_Made_e Codes_Made_l6_b 1793) (exitOf Codes_Made_e Codes_Made_l6_b 1793) (N + 1) (Codes_Made_l6_s (fx, v)) K = (Codes_Made_l6_step fx.1 fx.2 v.1 v.2.1 v.2.2).run (LR.elim
    (fun v' => aloop (fun s j => aexec Codes_Made_e Codes_Made_l6_b s j) (headOf Codes_Made_e Codes_Made_l6_b 1793) (exitOf Codes_Made_e Codes_Made_l6_b 1793) N (Codes_Made_l6_s (fx, v')) K)
    (fun a => K (.exit 0) (Codes_Made_l6_el (Codes_Made_l6_s (fx, v)) a))
    (fun a => K .ret (Codes_Made_l6_er (Codes_Made_l6_s (fx, v)) a))) := by kernel_rfl
theorem Codes_Made_l6_tells : LoopTells Codes_Made_e Codes_Made_l6_b Codes_Made_l6_c :=
  loopM_tells (s := Codes_Made_l6_s) (stl := Codes_Made_l6_el) (str := Codes_Made_l6_er) (step := fun (fx : (Sq Int) × Int) (v : Int × Int × (Sq SPlace)) => Codes_Made_l6_step fx.1 fx.2 v.1 v.2.1 v.2.2) (n := 1793) (fun _ => rfl) (fun _ _ _ _ => rfl) (fun _ _ _ _ => rfl) Codes_Made_l6_round
noncomputable def Codes_Made_l12_b : Code := loopOf 12 Try.f11
theorem Codes_Made_l12_round {R : Type} (fx : (Sq Int) × (Sq SPlace) × Int) (v : Int × (Sq Int) × Int) (N : Nat) (K : AX → St → Option R) : aloop (fun s j => aexec Codes_Made_e Codes_Made_l12_b s j) (headOf Codes_Made_e Codes_Made_l12_b 2561) (exitOf Codes_Made_e Codes_Made_l12_b 2561) (N + 1) (Codes_Made_l12_s (fx, v)) K = (Codes_Made_l12_step fx.1 fx.2.1 fx.2.2 v.1 v.2.1 v.2.2).run (LR.elim
    (fun v' => aloop (fun s j => aexec Codes_Made_e Codes_Made_l12_b s j) (headOf Codes_Made_e Codes_Made_l12_b 2561) (exitOf Codes_Made_e Codes_Made_l12_b 2561) N (Codes_Made_l12_s (fx, v')) K)
    (fun a => K (.exit 2) (Codes_Made_l12_el (Codes_Made_l12_s (fx, v)) a))
    (fun a => K .ret (Codes_Made_l12_er (Codes_Made_l12_s (fx, v)) a))) := by kernel_rfl
theorem Codes_Made_l12_tells : LoopTells Codes_Made_e Codes_Made_l12_b Codes_Made_l12_c :=
  loopM_tells (s := Codes_Made_l12_s) (stl := Codes_Made_l12_el) (str := Codes_Made_l12_er) (step := fun (fx : (Sq Int) × (Sq SPlace) × Int) (v : Int × (Sq Int) × Int) => Codes_Made_l12_step fx.1 fx.2.1 fx.2.2 v.1 v.2.1 v.2.2) (n := 2561) (fun _ => rfl) (fun _ _ _ _ => rfl) (fun _ _ _ _ => rfl) Codes_Made_l12_round
noncomputable def Codes_Made_l18_b : Code := loopOf 18 Try.f11
theorem Codes_Made_l18_round {R : Type} (fx : (Sq Int) × (Sq SPlace) × (Sq Int) × Int) (v : Int × Int × (Sq SRoad) × (Sq Int) × (Sq Int)) (N : Nat) (K : AX → St → Option R) : aloop (fun s j => aexec Codes_Made_e Codes_Made_l18_b s j) (headOf Codes_Made_e Codes_Made_l18_b 3073) (exitOf Codes_Made_e Codes_Made_l18_b 3073) (N + 1) (Codes_Made_l18_s (fx, v)) K = (Codes_Made_l18_step fx.1 fx.2.1 fx.2.2.1 fx.2.2.2 v.1 v.2.1 v.2.2.1 v.2.2.2.1 v.2.2.2.2).run (LR.elim
    (fun v' => aloop (fun s j => aexec Codes_Made_e Codes_Made_l18_b s j) (headOf Codes_Made_e Codes_Made_l18_b 3073) (exitOf Codes_Made_e Codes_Made_l18_b 3073) N (Codes_Made_l18_s (fx, v')) K)
    (fun a => K (.exit 4) (Codes_Made_l18_el (Codes_Made_l18_s (fx, v)) a))
    (fun a => K .ret (Codes_Made_l18_er (Codes_Made_l18_s (fx, v)) a))) := by kernel_rfl
theorem Codes_Made_l18_tells : LoopTells Codes_Made_e Codes_Made_l18_b Codes_Made_l18_c :=
  loopM_tells (s := Codes_Made_l18_s) (stl := Codes_Made_l18_el) (str := Codes_Made_l18_er) (step := fun (fx : (Sq Int) × (Sq SPlace) × (Sq Int) × Int) (v : Int × Int × (Sq SRoad) × (Sq Int) × (Sq Int)) => Codes_Made_l18_step fx.1 fx.2.1 fx.2.2.1 fx.2.2.2 v.1 v.2.1 v.2.2.1 v.2.2.2.1 v.2.2.2.2) (n := 3073) (fun _ => rfl) (fun _ _ _ _ => rfl) (fun _ _ _ _ => rfl) Codes_Made_l18_round
noncomputable def Codes_Made_l30_b : Code := loopOf 30 Try.f11
theorem Codes_Made_l30_round {R : Type} (fx : (Sq Int) × (Sq SPlace) × (Sq Int) × (Sq Int) × Int) (v : Int × (Sq SRoad) × (Sq Int) × Int) (N : Nat) (K : AX → St → Option R) : aloop (fun s j => aexec Codes_Made_e Codes_Made_l30_b s j) (headOf Codes_Made_e Codes_Made_l30_b 3201) (exitOf Codes_Made_e Codes_Made_l30_b 3201) (N + 1) (Codes_Made_l30_s (fx, v)) K = (Codes_Made_l30_step fx.1 fx.2.1 fx.2.2.1 fx.2.2.2.1 fx.2.2.2.2 v.1 v.2.1 v.2.2.1 v.2.2.2).run (LR.elim
    (fun v' => aloop (fun s j => aexec Codes_Made_e Codes_Made_l30_b s j) (headOf Codes_Made_e Codes_Made_l30_b 3201) (exitOf Codes_Made_e Codes_Made_l30_b 3201) N (Codes_Made_l30_s (fx, v')) K)
    (fun a => K (.exit 6) (Codes_Made_l30_el (Codes_Made_l30_s (fx, v)) a))
    (fun a => K .ret (Codes_Made_l30_er (Codes_Made_l30_s (fx, v)) a))) := by kernel_rfl
theorem Codes_Made_l30_tells : LoopTells Codes_Made_e Codes_Made_l30_b Codes_Made_l30_c :=
  loopM_tells (s := Codes_Made_l30_s) (stl := Codes_Made_l30_el) (str := Codes_Made_l30_er) (step := fun (fx : (Sq Int) × (Sq SPlace) × (Sq Int) × (Sq Int) × Int) (v : Int × (Sq SRoad) × (Sq Int) × Int) => Codes_Made_l30_step fx.1 fx.2.1 fx.2.2.1 fx.2.2.2.1 fx.2.2.2.2 v.1 v.2.1 v.2.2.1 v.2.2.2) (n := 3201) (fun _ => rfl) (fun _ _ _ _ => rfl) (fun _ _ _ _ => rfl) Codes_Made_l30_round
theorem Codes_Made_run (p : SCodes) : arun Codes_Made_env Try.f11 (Codes_Made_enc p).1 (Codes_Made_enc p).2 = (Codes_Made_t p).run fun r => some (Codes_Made_av r, Codes_Made_outs (Codes_Made_enc p).2 r) := by kernel_rfl
theorem Codes_Made_loops : ∀ c, Try.f11.body = some c → LoopsOK { Codes_Made_env with nt := Try.f11.ntmps } c := by
  intro c hc
  refine loops_of c fun c' hc' f hf => ?_
  have hb : loopsOf c = [Codes_Made_l6_b, Codes_Made_l12_b, Codes_Made_l18_b, Codes_Made_l30_b] := by
    have : Try.f11.body.map loopsOf = some [Codes_Made_l6_b, Codes_Made_l12_b, Codes_Made_l18_b, Codes_Made_l30_b] := by kernel_rfl
    rw [hc] at this
    injection this
  rw [hb] at hc'
  clear hb
  rcases List.mem_cons.1 hc' with rfl | hc'
  ·
    have h6 : firstReg Codes_Made_l6_b = 6 := by kernel_rfl
    rw [h6] at hf
    obtain rfl := Option.some.inj hf
    exact Codes_Made_l6_tells
  rcases List.mem_cons.1 hc' with rfl | hc'
  ·
    have h6 : firstReg Codes_Made_l12_b = 12 := by kernel_rfl
    rw [h6] at hf
    obtain rfl := Option.some.inj hf
    exact Codes_Made_l12_tells
  rcases List.mem_cons.1 hc' with rfl | hc'
  ·
    have h6 : firstReg Codes_Made_l18_b = 18 := by kernel_rfl
    rw [h6] at hf
    obtain rfl := Option.some.inj hf
    exact Codes_Made_l18_tells
  obtain rfl := List.mem_singleton.1 hc'
  have h6 : firstReg Codes_Made_l30_b = 30 := by kernel_rfl
  rw [h6] at hf
  obtain rfl := Option.some.inj hf
  exact Codes_Made_l30_tells
attribute [local irreducible] arun in
theorem Codes_Made_tells : Tells Try.prog 11 c_Codes_Made :=
  told_tells (E := Codes_Made_env) (enc := Codes_Made_enc) (av := Codes_Made_av) (outs := Codes_Made_outs) (t := fun p : SCodes => Codes_Made_t p) (by kernel_rfl) Codes_Made_env_ok Try.func11 Codes_Made_loops Codes_Made_run
noncomputable def Codes_Made (c : SCodes) : Option (SAir × SSetting × SState × Int) := gOfA Codes_Made_enc (fun p => (Codes_Made_t p).get) (Codes_Made_encC c).1 (Codes_Made_encC c).2
theorem Codes_Made_eq (c : SCodes) : Codes_Made c = (Codes_Made_t c).get := congrFun (gOfA_eq Codes_Made_inj (fun p => (Codes_Made_t p).get)) c

/-! ### (*minecontrol/minecontroldraw.Codes).Setting -/
def Codes_Setting_encC (c : SCodes) (a : SAir) : List AV × List Blk := ([.ptr 0 0, .agg [.slc 2 a.Mine.Places.n (fun k2615 => (SPlace.enc (a.Mine.Places.f k2615))), .slc 10 a.Mine.Roads.n (fun k2616 => (SRoad.enc (a.Mine.Roads.f k2616))), .slc 4 a.Fans.n (fun k2617 => (SFan.enc (a.Fans.f k2617))), .slc 3 a.Doors.n (fun k2618 => (SDoor.enc (a.Doors.f k2618)))]], [.var [.slc 1 c.l_.n (fun k2619 => [.int .u8 (c.l_.f k2619)]), .int .i64 c.at_]])
def Codes_Setting_enc (p : SCodes × SAir) : List AV × List Blk := Codes_Setting_encC p.1 p.2
theorem Codes_Setting_inj (p q : SCodes × SAir) (h : Codes_Setting_enc p = Codes_Setting_enc q) : p = q :=
  (Prod.ext (SCodes.ext2 (Sq.av_inj intE_u8 (a := p.1.l_) (b := q.1.l_) (congrArg (fun x : List AV × List Blk => cellB x.2 0 0) h)) (show p.1.at_ = q.1.at_ from congrArg intA (congrArg (fun x : List AV × List Blk => cellB x.2 0 1) h))) (SAir.ext2 (SMine.ext2 (Sq.av_inj SPlace.inj (a := p.2.Mine.Places) (b := q.2.Mine.Places) (congrArg (fun x : List AV × List Blk => argC x.1 1 0) h)) (Sq.av_inj SRoad.inj (a := p.2.Mine.Roads) (b := q.2.Mine.Roads) (congrArg (fun x : List AV × List Blk => argC x.1 1 1) h))) (Sq.av_inj SFan.inj (a := p.2.Fans) (b := q.2.Fans) (congrArg (fun x : List AV × List Blk => argC x.1 1 2) h)) (Sq.av_inj SDoor.inj (a := p.2.Doors) (b := q.2.Doors) (congrArg (fun x : List AV × List Blk => argC x.1 1 3) h))))
def Codes_Setting_l3_s (p : ((Sq Int) × (Sq SPlace) × (Sq SRoad) × (Sq SFan) × (Sq SDoor)) × (Int × (Sq Int) × Int)) : St := ⟨[(0, .ptr 0 0), (3, .ptr 1 0), (4, .ptr 65 0), (5, .ptr 129 0), (6, .int .i64 p.2.2.2)], [(0, .var [.slc 1 p.1.1.n (fun k2620 => [.int .u8 (p.1.1.f k2620)]), .int .i64 p.2.1]), (1, .var [.slc 2 p.1.2.1.n (fun k2621 => (SPlace.enc (p.1.2.1.f k2621))), .slc 10 p.1.2.2.1.n (fun k2622 => (SRoad.enc (p.1.2.2.1.f k2622))), .slc 4 p.1.2.2.2.1.n (fun k2623 => (SFan.enc (p.1.2.2.2.1.f k2623))), .slc 3 p.1.2.2.2.2.n (fun k2624 => (SDoor.enc (p.1.2.2.2.2.f k2624)))]), (65, .var [.own 66 0, .own 67 0]), (66, .nilrow 0), (67, .nilrow 0), (129, .var [.own 130 0, .own 131 0]), (130, .row 0 1 p.2.2.1.n 3 (fun k2625 => [.int .i64 (p.2.2.1.f k2625)])), (131, .nilrow 0)], 257⟩
theorem Codes_Setting_l3_inj (p q : ((Sq Int) × (Sq SPlace) × (Sq SRoad) × (Sq SFan) × (Sq SDoor)) × (Int × (Sq Int) × Int)) (h : Codes_Setting_l3_s p = Codes_Setting_l3_s q) : p = q :=
  Prod.ext (Prod.ext (Sq.av_inj intE_u8 (a := p.1.1) (b := q.1.1) (congrArg (fun x : St => cellS x 0 0) h)) (Prod.ext (Sq.av_inj SPlace.inj (a := p.1.2.1) (b := q.1.2.1) (congrArg (fun x : St => cellS x 1 0) h)) (Prod.ext (Sq.av_inj SRoad.inj (a := p.1.2.2.1) (b := q.1.2.2.1) (congrArg (fun x : St => cellS x 1 1) h)) (Prod.ext (Sq.av_inj SFan.inj (a := p.1.2.2.2.1) (b := q.1.2.2.2.1) (congrArg (fun x : St => cellS x 1 2) h)) (Sq.av_inj SDoor.inj (a := p.1.2.2.2.2) (b := q.1.2.2.2.2) (congrArg (fun x : St => cellS x 1 3) h)))))) (Prod.ext (show p.2.1 = q.2.1 from congrArg intA (congrArg (fun x : St => cellS x 0 1) h)) (Prod.ext (Sq.row_inj intE_i64 (a := p.2.2.1) (b := q.2.2.1) (congrArg (fun x : St => blkS x 130) h)) (show p.2.2.2 = q.2.2.2 from congrArg intA (congrArg (fun x : St => aget x.tm 6) h))))
noncomputable def Codes_Setting_l3_step (v3_0 : (Sq Int)) (_v3_2 : (Sq SPlace)) (_v3_3 : (Sq SRoad)) (v3_4 : (Sq SFan)) (_v3_5 : (Sq SDoor)) (v3_1 : Int) (v3_6 : (Sq Int)) (i_3_7 : Int) : DT (LR (Int × (Sq Int) × Int) (Int × (Sq Int)) (Unit)) :=
  .ite (decide (i_3_7 < ((v3_4.n : Nat) : Int))) (
    .bind (Codes_Next (SCodes.mk v3_0 v3_1) (4 : Int)) fun z1660 =>
    .ite (decide ((v3_6.n + 1) * 8 ≤ 140737488355328 ∧ (v3_6.n + 1) ≤ 1099511627776)) (
      .leaf (.next (z1660.2, (Sq.mk (v3_6.n + 1) (fun k1661 => (cond (Nat.blt k1661 v3_6.n) (v3_6.f k1661) (wr (z1660.1 - (1 : Int)))))), (wr (i_3_7 + (1 : Int)))))) (
      .fail)) (
    .leaf (.l (v3_1, v3_6)))
def Codes_Setting_l3_el (x : St) (a : Int × (Sq Int)) : St := ⟨[(0, .ptr 0 0), (3, .ptr 1 0), (4, .ptr 65 0), (5, .ptr 129 0)], [(0, .var [cellS x 0 0, .int .i64 a.1]), (1, blkS x 1), (65, .var [.own 66 0, .own 67 0]), (66, .nilrow 0), (67, .nilrow 0), (129, .var [.own 130 0, .own 131 0]), (130, .row 0 1 a.2.n 3 (fun k2626 => [.int .i64 (a.2.f k2626)])), (131, .nilrow 0)], 257⟩
def Codes_Setting_l3_er (_ : St) (_ : Unit) : St := ⟨[], [], 0⟩
noncomputable def Codes_Setting_l3_f (p : ((Sq Int) × (Sq SPlace) × (Sq SRoad) × (Sq SFan) × (Sq SDoor)) × (Int × (Sq Int) × Int)) : Option ((Int × (Sq Int)) ⊕ (Unit)) := fixO (fun v : Int × (Sq Int) × Int => Codes_Setting_l3_step p.1.1 p.1.2.1 p.1.2.2.1 p.1.2.2.2.1 p.1.2.2.2.2 v.1 v.2.1 v.2.2) p.2
noncomputable def Codes_Setting_l3_c : St → Option LRes := loopM Codes_Setting_l3_s Codes_Setting_l3_f true (.exit 0) Codes_Setting_l3_el .ret Codes_Setting_l3_er
noncomputable def Codes_Setting_l3 (v3_0 : (Sq Int)) (v3_2 : (Sq SPlace)) (v3_3 : (Sq SRoad)) (v3_4 : (Sq SFan)) (v3_5 : (Sq SDoor)) (v3_1 : Int) (v3_6 : (Sq Int)) (i_3_7 : Int) : Option ((Int × (Sq Int)) ⊕ (Unit)) := gOfS Codes_Setting_l3_s Codes_Setting_l3_f (Codes_Setting_l3_s ((v3_0, v3_2, v3_3, v3_4, v3_5), (v3_1, v3_6, i_3_7)))
theorem Codes_Setting_l3_eq (v3_0 : (Sq Int)) (v3_2 : (Sq SPlace)) (v3_3 : (Sq SRoad)) (v3_4 : (Sq SFan)) (v3_5 : (Sq SDoor)) (v3_1 : Int) (v3_6 : (Sq Int)) (i_3_7 : Int) : Codes_Setting_l3 v3_0 v3_2 v3_3 v3_4 v3_5 v3_1 v3_6 i_3_7 = fixO (fun v : Int × (Sq Int) × Int => Codes_Setting_l3_step v3_0 v3_2 v3_3 v3_4 v3_5 v.1 v.2.1 v.2.2) (v3_1, v3_6, i_3_7) := gOfS_eq Codes_Setting_l3_inj Codes_Setting_l3_f ((v3_0, v3_2, v3_3, v3_4, v3_5), (v3_1, v3_6, i_3_7))
def Codes_Setting_l7_s (p : ((Sq Int) × (Sq SPlace) × (Sq SRoad) × (Sq SFan) × (Sq SDoor) × (Sq Int)) × (Int × (Sq Int) × Int)) : St := ⟨[(0, .ptr 0 0), (3, .ptr 1 0), (4, .ptr 65 0), (5, .ptr 129 0), (7, .int .i64 p.2.2.2)], [(0, .var [.slc 1 p.1.1.n (fun k2627 => [.int .u8 (p.1.1.f k2627)]), .int .i64 p.2.1]), (1, .var [.slc 2 p.1.2.1.n (fun k2628 => (SPlace.enc (p.1.2.1.f k2628))), .slc 10 p.1.2.2.1.n (fun k2629 => (SRoad.enc (p.1.2.2.1.f k2629))), .slc 4 p.1.2.2.2.1.n (fun k2630 => (SFan.enc (p.1.2.2.2.1.f k2630))), .slc 3 p.1.2.2.2.2.1.n (fun k2631 => (SDoor.enc (p.1.2.2.2.2.1.f k2631)))]), (65, .var [.own 66 0, .own 67 0]), (66, .nilrow 0), (67, .nilrow 0), (129, .var [.own 130 0, .own 131 0]), (130, .row 0 1 p.1.2.2.2.2.2.n 3 (fun k2632 => [.int .i64 (p.1.2.2.2.2.2.f k2632)])), (131, .row 0 1 p.2.2.1.n 3 (fun k2633 => [.int .i64 (p.2.2.1.f k2633)]))], 321⟩
theorem Codes_Setting_l7_inj (p q : ((Sq Int) × (Sq SPlace) × (Sq SRoad) × (Sq SFan) × (Sq SDoor) × (Sq Int)) × (Int × (Sq Int) × Int)) (h : Codes_Setting_l7_s p = Codes_Setting_l7_s q) : p = q :=
  Prod.ext (Prod.ext (Sq.av_inj intE_u8 (a := p.1.1) (b := q.1.1) (congrArg (fun x : St => cellS x 0 0) h)) (Prod.ext (Sq.av_inj SPlace.inj (a := p.1.2.1) (b := q.1.2.1) (congrArg (fun x : St => cellS x 1 0) h)) (Prod.ext (Sq.av_inj SRoad.inj (a := p.1.2.2.1) (b := q.1.2.2.1) (congrArg (fun x : St => cellS x 1 1) h)) (Prod.ext (Sq.av_inj SFan.inj (a := p.1.2.2.2.1) (b := q.1.2.2.2.1) (congrArg (fun x : St => cellS x 1 2) h)) (Prod.ext (Sq.av_inj SDoor.inj (a := p.1.2.2.2.2.1) (b := q.1.2.2.2.2.1) (congrArg (fun x : St => cellS x 1 3) h)) (Sq.row_inj intE_i64 (a := p.1.2.2.2.2.2) (b := q.1.2.2.2.2.2) (congrArg (fun x : St => blkS x 130) h))))))) (Prod.ext (show p.2.1 = q.2.1 from congrArg intA (congrArg (fun x : St => cellS x 0 1) h)) (Prod.ext (Sq.row_inj intE_i64 (a := p.2.2.1) (b := q.2.2.1) (congrArg (fun x : St => blkS x 131) h)) (show p.2.2.2 = q.2.2.2 from congrArg intA (congrArg (fun x : St => aget x.tm 7) h))))
noncomputable def Codes_Setting_l7_step (v7_0 : (Sq Int)) (_v7_2 : (Sq SPlace)) (_v7_3 : (Sq SRoad)) (_v7_4 : (Sq SFan)) (v7_5 : (Sq SDoor)) (_v7_6 : (Sq Int)) (v7_1 : Int) (v7_7 : (Sq Int)) (i_7_8 : Int) : DT (LR (Int × (Sq Int) × Int) (Int × (Sq Int)) (Unit)) :=
  .ite (decide (i_7_8 < ((v7_5.n : Nat) : Int))) (
    .ite (decide ((0 : Int) ≤ i_7_8 ∧ i_7_8 < ((v7_5.n : Nat) : Int))) (
      .bind (Codes_Next (SCodes.mk v7_0 v7_1) (wr ((((v7_5.f (Int.toNat i_7_8)).Rests.n : Nat) : Int) + (1 : Int)))) fun z1663 =>
      .ite (decide ((v7_7.n + 1) * 8 ≤ 140737488355328 ∧ (v7_7.n + 1) ≤ 1099511627776)) (
        .leaf (.next (z1663.2, (Sq.mk (v7_7.n + 1) (fun k1664 => (cond (Nat.blt k1664 v7_7.n) (v7_7.f k1664) (wr (z1663.1 - (1 : Int)))))), (wr (i_7_8 + (1 : Int)))))) (
        .fail)) (
      .fail)) (
    .leaf (.l (v7_1, v7_7)))
def Codes_Setting_l7_el (x : St) (a : Int × (Sq Int)) : St := ⟨[(4, .ptr 65 0), (5, .ptr 129 0)], [(0, .var [cellS x 0 0, .int .i64 a.1]), (1, blkS x 1), (65, .var [.own 66 0, .own 67 0]), (66, .nilrow 0), (67, .nilrow 0), (129, .var [.own 130 0, .own 131 0]), (130, blkS x 130), (131, .row 0 1 a.2.n 3 (fun k2634 => [.int .i64 (a.2.f k2634)]))], 321⟩
def Codes_Setting_l7_er (_ : St) (_ : Unit) : St := ⟨[], [], 0⟩
noncomputable def Codes_Setting_l7_f (p : ((Sq Int) × (Sq SPlace) × (Sq SRoad) × (Sq SFan) × (Sq SDoor) × (Sq Int)) × (Int × (Sq Int) × Int)) : Option ((Int × (Sq Int)) ⊕ (Unit)) := fixO (fun v : Int × (Sq Int) × Int => Codes_Setting_l7_step p.1.1 p.1.2.1 p.1.2.2.1 p.1.2.2.2.1 p.1.2.2.2.2.1 p.1.2.2.2.2.2 v.1 v.2.1 v.2.2) p.2
noncomputable def Codes_Setting_l7_c : St → Option LRes := loopM Codes_Setting_l7_s Codes_Setting_l7_f true (.exit 2) Codes_Setting_l7_el .ret Codes_Setting_l7_er
noncomputable def Codes_Setting_l7 (v7_0 : (Sq Int)) (v7_2 : (Sq SPlace)) (v7_3 : (Sq SRoad)) (v7_4 : (Sq SFan)) (v7_5 : (Sq SDoor)) (v7_6 : (Sq Int)) (v7_1 : Int) (v7_7 : (Sq Int)) (i_7_8 : Int) : Option ((Int × (Sq Int)) ⊕ (Unit)) := gOfS Codes_Setting_l7_s Codes_Setting_l7_f (Codes_Setting_l7_s ((v7_0, v7_2, v7_3, v7_4, v7_5, v7_6), (v7_1, v7_7, i_7_8)))
theorem Codes_Setting_l7_eq (v7_0 : (Sq Int)) (v7_2 : (Sq SPlace)) (v7_3 : (Sq SRoad)) (v7_4 : (Sq SFan)) (v7_5 : (Sq SDoor)) (v7_6 : (Sq Int)) (v7_1 : Int) (v7_7 : (Sq Int)) (i_7_8 : Int) : Codes_Setting_l7 v7_0 v7_2 v7_3 v7_4 v7_5 v7_6 v7_1 v7_7 i_7_8 = fixO (fun v : Int × (Sq Int) × Int => Codes_Setting_l7_step v7_0 v7_2 v7_3 v7_4 v7_5 v7_6 v.1 v.2.1 v.2.2) (v7_1, v7_7, i_7_8) := gOfS_eq Codes_Setting_l7_inj Codes_Setting_l7_f ((v7_0, v7_2, v7_3, v7_4, v7_5, v7_6), (v7_1, v7_7, i_7_8))
noncomputable def Codes_Setting_t (c : SCodes) (a : SAir) : DT (SSetting × Int) :=
  .sum (Codes_Setting_l3 c.l_ a.Mine.Places a.Mine.Roads a.Fans a.Doors c.at_ (Sq.mk 0 (fun _ => (0 : Int))) (0 : Int)) (fun y1662 =>
    .sum (Codes_Setting_l7 c.l_ a.Mine.Places a.Mine.Roads a.Fans a.Doors y1662.2 y1662.1 (Sq.mk 0 (fun _ => (0 : Int))) (0 : Int)) (fun y1665 =>
      .leaf ((SSetting.mk y1662.2 y1665.2), y1665.1)) (fun _ =>
      .fail)) (fun _ =>
    .fail)
def Codes_Setting_av (_ : SSetting × Int) : AV := .agg [.own 1 0, .own 2 0]
def Codes_Setting_outs (ins : List Blk) (r : SSetting × Int) : List Blk := [.var [cellB ins 0 0, .int .i64 r.2], .row 0 1 r.1.Fans.n 3 (fun k2635 => [.int .i64 (r.1.Fans.f k2635)]), .row 0 1 r.1.Doors.n 3 (fun k2636 => [.int .i64 (r.1.Doors.f k2636)])]
noncomputable def c_Codes_Setting : List AV → List Blk → Option Ans := told Codes_Setting_enc (fun p => (Codes_Setting_t p.1 p.2).get) Codes_Setting_av Codes_Setting_outs false (fun h => by cases h)
noncomputable def Codes_Setting_env : Env := { envS (fun f => match f with
  | 12 => c_Codes_Next
  | _ => fun _ _ => none) (fun r => match r with | 3 => some ([0, 3, 4, 5, 6], [0, 3, 4, 5]) | 7 => some ([0, 3, 4, 5, 7], [4, 5]) | _ => none) with loops := fun r => match r with | 3 => some Codes_Setting_l3_c | 7 => some Codes_Setting_l7_c | _ => none, pre := fun r => match r with | 1000003 => [.asrow 130 3 1 (fun _ => [.int .i64 (0 : Int)])] | 1000007 => [.asrow 131 3 1 (fun _ => [.int .i64 (0 : Int)])] | _ => [], gc := fun r => match r with | 3 => some [0, 1, 65, 66, 67, 129, 130, 131] | 7 => some [0, 1, 65, 66, 67, 129, 130, 131] | _ => none, mm := some 1 }
theorem Codes_Setting_env_ok : ∀ f, Tells Try.prog f (Codes_Setting_env.fs f) := by
  intro f
  by_cases h0 : f = 12
  · subst h0; exact Codes_Next_tells
  have : Codes_Setting_env.fs f = fun _ _ => none := by
    unfold Codes_Setting_env envS
    dsimp only
    split
    · exact absurd rfl h0
    · rfl
  rw [this]
  exact Tells.none_ f
noncomputable def Codes_Setting_e : Env := { Codes_Setting_env with nt := 47 }
noncomputable def Codes_Setting_l3_b : Code := loopOf 3 Try.f21
theorem Codes_Setting_l3_round {R : Type} (fx : (Sq Int) × (Sq SPlace) × (Sq SRoad) × (Sq SFan) × (Sq SDoor)) (v : Int × (Sq Int) × Int) (N : Nat) (K : AX → St → Option R) : aloop (fun s j => aexec Codes_Setting_e Codes_Setting_l3_b s j) (headOf Codes_Setting_e Codes_Setting_l3_b 257) (exitOf Codes_Setting_e Codes_Setting_l3_b 257) (N + 1) (Codes_Setting_l3_s (fx, v)) K = (Codes_Setting_l3_step fx.1 fx.2.1 fx.2.2.1 fx.2.2.2.1 fx.2.2.2.2 v.1 v.2.1 v.2.2).run (LR.elim
    (fun v' => aloop (fun s j => aexec Codes_Setting_e Codes_Setting_l3_b s j) (headOf Codes_Setting_e Codes_Setting_l3_b 257) (exitOf Codes_Setting_e Codes_Setting_l3_b 257) N (Codes_Setting_l3_s (fx, v')) K)
    (fun a => K (.exit 0) (Codes_Setting_l3_el (Codes_Setting_l3_s (fx, v)) a))
    (fun a => K .ret (Codes_Setting_l3_er (Codes_Setting_l3_s (fx, v)) a))) := by kernel_rfl
theorem Codes_Setting_l3_tells : LoopTells Codes_Setting_e Codes_Setting_l3_b Codes_Setting_l3_c :=
  loopM_tells (s := Codes_Setting_l3_s) (stl := Codes_Setting_l3_el) (str := Codes_Setting_l3_er) (step := fun (fx : (Sq Int) × (Sq SPlace) × (Sq SRoad) × (Sq SFan) × (Sq SDoor)) (v : Int × (Sq Int) × Int) => Codes_Setting_l3_step fx.1 fx.2.1 fx.2.2.1 fx.2.2.2.1 fx.2.2.2.2 v.1 v.2.1 v.2.2) (n := 257) (fun _ => rfl) (fun _ _ _ _ => rfl) (fun _ _ _ _ => rfl) Codes_Setting_l3_round
noncomputable def Codes_Setting_l7_b : Code := loopOf 7 Try.f21
theorem Codes_Setting_l7_round {R : Type} (fx : (Sq Int) × (Sq SPlace) × (Sq SRoad) × (Sq SFan) × (Sq SDoor) × (Sq Int)) (v : Int × (Sq Int) × Int) (N : Nat) (K : AX → St → Option R) : aloop (fun s j => aexec Codes_Setting_e Codes_Setting_l7_b s j) (headOf Codes_Setting_e Codes_Setting_l7_b 321) (exitOf Codes_Setting_e Codes_Setting_l7_b 321) (N + 1) (Codes_Setting_l7_s (fx, v)) K = (Codes_Setting_l7_step fx.1 fx.2.1 fx.2.2.1 fx.2.2.2.1 fx.2.2.2.2.1 fx.2.2.2.2.2 v.1 v.2.1 v.2.2).run (LR.elim
    (fun v' => aloop (fun s j => aexec Codes_Setting_e Codes_Setting_l7_b s j) (headOf Codes_Setting_e Codes_Setting_l7_b 321) (exitOf Codes_Setting_e Codes_Setting_l7_b 321) N (Codes_Setting_l7_s (fx, v')) K)
    (fun a => K (.exit 2) (Codes_Setting_l7_el (Codes_Setting_l7_s (fx, v)) a))
    (fun a => K .ret (Codes_Setting_l7_er (Codes_Setting_l7_s (fx, v)) a))) := by kernel_rfl
theorem Codes_Setting_l7_tells : LoopTells Codes_Setting_e Codes_Setting_l7_b Codes_Setting_l7_c :=
  loopM_tells (s := Codes_Setting_l7_s) (stl := Codes_Setting_l7_el) (str := Codes_Setting_l7_er) (step := fun (fx : (Sq Int) × (Sq SPlace) × (Sq SRoad) × (Sq SFan) × (Sq SDoor) × (Sq Int)) (v : Int × (Sq Int) × Int) => Codes_Setting_l7_step fx.1 fx.2.1 fx.2.2.1 fx.2.2.2.1 fx.2.2.2.2.1 fx.2.2.2.2.2 v.1 v.2.1 v.2.2) (n := 321) (fun _ => rfl) (fun _ _ _ _ => rfl) (fun _ _ _ _ => rfl) Codes_Setting_l7_round
theorem Codes_Setting_run (p : SCodes × SAir) : arun Codes_Setting_env Try.f21 (Codes_Setting_enc p).1 (Codes_Setting_enc p).2 = (Codes_Setting_t p.1 p.2).run fun r => some (Codes_Setting_av r, Codes_Setting_outs (Codes_Setting_enc p).2 r) := by kernel_rfl
theorem Codes_Setting_loops : ∀ c, Try.f21.body = some c → LoopsOK { Codes_Setting_env with nt := Try.f21.ntmps } c := by
  intro c hc
  refine loops_of c fun c' hc' f hf => ?_
  have hb : loopsOf c = [Codes_Setting_l3_b, Codes_Setting_l7_b] := by
    have : Try.f21.body.map loopsOf = some [Codes_Setting_l3_b, Codes_Setting_l7_b] := by kernel_rfl
    rw [hc] at this
    injection this
  rw [hb] at hc'
  clear hb
  rcases List.mem_cons.1 hc' with rfl | hc'
  ·
    have h6 : firstReg Codes_Setting_l3_b = 3 := by kernel_rfl
    rw [h6] at hf
    obtain rfl := Option.some.inj hf
    exact Codes_Setting_l3_tells
  obtain rfl := List.mem_singleton.1 hc'
  have h6 : firstReg Codes_Setting_l7_b = 7 := by kernel_rfl
  rw [h6] at hf
  obtain rfl := Option.some.inj hf
  exact Codes_Setting_l7_tells
attribute [local irreducible] arun in
theorem Codes_Setting_tells : Tells Try.prog 21 c_Codes_Setting :=
  told_tells (E := Codes_Setting_env) (enc := Codes_Setting_enc) (av := Codes_Setting_av) (outs := Codes_Setting_outs) (t := fun p : SCodes × SAir => Codes_Setting_t p.1 p.2) (by kernel_rfl) Codes_Setting_env_ok Try.func21 Codes_Setting_loops Codes_Setting_run
noncomputable def Codes_Setting (c : SCodes) (a : SAir) : Option (SSetting × Int) := gOfA Codes_Setting_enc (fun p => (Codes_Setting_t p.1 p.2).get) (Codes_Setting_encC c a).1 (Codes_Setting_encC c a).2
theorem Codes_Setting_eq (c : SCodes) (a : SAir) : Codes_Setting c a = (Codes_Setting_t c a).get := congrFun (gOfA_eq Codes_Setting_inj (fun p => (Codes_Setting_t p.1 p.2).get)) (c, a)

/-! ### minecontrol/minecontroldraw.Mod -/
def Mod_encC (k : Int) (n : Int) : List AV × List Blk := ([.int .i64 k, .int .i64 n], [])
def Mod_enc (p : Int × Int) : List AV × List Blk := Mod_encC p.1 p.2
theorem Mod_inj (p q : Int × Int) (h : Mod_enc p = Mod_enc q) : p = q :=
  (Prod.ext (show p.1 = q.1 from congrArg intA (congrArg (fun x : List AV × List Blk => x.1.getD 0 .undef) h)) (show p.2 = q.2 from congrArg intA (congrArg (fun x : List AV × List Blk => x.1.getD 1 .undef) h)))
noncomputable def Mod_t (k : Int) (n : Int) : DT (Int) :=
  .ite (decide (n < (1 : Int))) (
    .leaf (0 : Int)) (
    .ite (n != 0) (
      .ite (decide ((Int.tmod k n) < (0 : Int))) (
        .leaf (wr ((Int.tmod k n) + n))) (
        .leaf (Int.tmod k n))) (
      .fail))
def Mod_av (r : Int) : AV := .int .i64 r
def Mod_outs (_ : List Blk) (_ : Int) : List Blk := []
noncomputable def c_Mod : List AV → List Blk → Option Ans := told Mod_enc (fun p => (Mod_t p.1 p.2).get) Mod_av Mod_outs true (fun _ _ _ => ⟨rfl, fun b hb => by cases hb⟩)
noncomputable def Mod_env : Env := { envS (fun _ _ _ => none) with mm := some 0 }
theorem Mod_env_ok : ∀ f, Tells Try.prog f (Mod_env.fs f) := fun f => Tells.none_ f

theorem Mod_run (p : Int × Int) : arun Mod_env Try.f22 (Mod_enc p).1 (Mod_enc p).2 = (Mod_t p.1 p.2).run fun r => some (Mod_av r, Mod_outs (Mod_enc p).2 r) := by kernel_rfl
attribute [local irreducible] arun in
theorem Mod_tells : Tells Try.prog 22 c_Mod :=
  told_tells (E := Mod_env) (enc := Mod_enc) (av := Mod_av) (outs := Mod_outs) (t := fun p : Int × Int => Mod_t p.1 p.2) (by kernel_rfl) Mod_env_ok Try.func22 (fun c _ => loops_none (E := { Mod_env with nt := Try.f22.ntmps }) (fun _ => rfl) c) Mod_run
noncomputable def Mod (k : Int) (n : Int) : Option (Int) := gOfA Mod_enc (fun p => (Mod_t p.1 p.2).get) (Mod_encC k n).1 (Mod_encC k n).2
theorem Mod_eq (k : Int) (n : Int) : Mod k n = (Mod_t k n).get := congrFun (gOfA_eq Mod_inj (fun p => (Mod_t p.1 p.2).get)) (k, n)

/-! ### minecontrol/minecontroldraw.New -/
def New_encC (l : (Sq Int)) : List AV × List Blk := ([.slc 1 l.n (fun k2637 => [.int .u8 (l.f k2637)])], [])
def New_enc (p : (Sq Int)) : List AV × List Blk := New_encC p
theorem New_inj (p q : (Sq Int)) (h : New_enc p = New_enc q) : p = q :=
  (Sq.av_inj intE_u8 (a := p) (b := q) (congrArg (fun x : List AV × List Blk => x.1.getD 0 .undef) h))
noncomputable def New_t (l : (Sq Int)) : DT (SCodes) :=
  .ite (decide ((0 : Int) ≤ (if (300 : Int) < ((l.n : Nat) : Int) then (300 : Int) else ((l.n : Nat) : Int)) ∧ (if (300 : Int) < ((l.n : Nat) : Int) then (300 : Int) else ((l.n : Nat) : Int)) ≤ ((l.n : Nat) : Int))) (
    .leaf (SCodes.mk (Sq.mk (Int.toNat (if (300 : Int) < ((l.n : Nat) : Int) then (300 : Int) else ((l.n : Nat) : Int))) l.f) (0 : Int))) (
    .fail)
def New_av (_ : SCodes) : AV := .ptr 0 0
def New_outs (_ : List Blk) (r : SCodes) : List Blk := [.var [.slc 1 r.l_.n (fun k2638 => [.int .u8 (r.l_.f k2638)]), .int .i64 r.at_]]
noncomputable def c_New : List AV → List Blk → Option Ans := told New_enc (fun p => (New_t p).get) New_av New_outs false (fun h => by cases h)
noncomputable def New_env : Env := { envS (fun _ _ _ => none) with mm := some 0 }
theorem New_env_ok : ∀ f, Tells Try.prog f (New_env.fs f) := fun f => Tells.none_ f

theorem New_run (p : (Sq Int)) : arun New_env Try.f10 (New_enc p).1 (New_enc p).2 = (New_t p).run fun r => some (New_av r, New_outs (New_enc p).2 r) := by kernel_rfl
attribute [local irreducible] arun in
theorem New_tells : Tells Try.prog 10 c_New :=
  told_tells (E := New_env) (enc := New_enc) (av := New_av) (outs := New_outs) (t := fun p : (Sq Int) => New_t p) (by kernel_rfl) New_env_ok Try.func10 (fun c _ => loops_none (E := { New_env with nt := Try.f10.ntmps }) (fun _ => rfl) c) New_run
noncomputable def New (l : (Sq Int)) : Option (SCodes) := gOfA New_enc (fun p => (New_t p).get) (New_encC l).1 (New_encC l).2
theorem New_eq (l : (Sq Int)) : New l = (New_t l).get := congrFun (gOfA_eq New_inj (fun p => (New_t p).get)) l

/-! ### minecontrol/minecontrollaw09.small -/
def law09_small_encC (a : SAir) : List AV × List Blk := ([.agg [.slc 2 a.Mine.Places.n (fun k2639 => (SPlace.enc (a.Mine.Places.f k2639))), .slc 10 a.Mine.Roads.n (fun k2640 => (SRoad.enc (a.Mine.Roads.f k2640))), .slc 4 a.Fans.n (fun k2641 => (SFan.enc (a.Fans.f k2641))), .slc 3 a.Doors.n (fun k2642 => (SDoor.enc (a.Doors.f k2642)))]], [])
def law09_small_enc (p : SAir) : List AV × List Blk := law09_small_encC p
theorem law09_small_inj (p q : SAir) (h : law09_small_enc p = law09_small_enc q) : p = q :=
  (SAir.ext2 (SMine.ext2 (Sq.av_inj SPlace.inj (a := p.Mine.Places) (b := q.Mine.Places) (congrArg (fun x : List AV × List Blk => argC x.1 0 0) h)) (Sq.av_inj SRoad.inj (a := p.Mine.Roads) (b := q.Mine.Roads) (congrArg (fun x : List AV × List Blk => argC x.1 0 1) h))) (Sq.av_inj SFan.inj (a := p.Fans) (b := q.Fans) (congrArg (fun x : List AV × List Blk => argC x.1 0 2) h)) (Sq.av_inj SDoor.inj (a := p.Doors) (b := q.Doors) (congrArg (fun x : List AV × List Blk => argC x.1 0 3) h)))
noncomputable def law09_small_t (a : SAir) : DT (Bool) :=
  .ite (decide (((a.Mine.Places.n : Nat) : Int) ≤ (20 : Int))) (
    .ite (decide (((a.Mine.Roads.n : Nat) : Int) ≤ (20 : Int))) (
      .ite (decide (((a.Fans.n : Nat) : Int) ≤ (10 : Int))) (
        .leaf (decide (((a.Doors.n : Nat) : Int) ≤ (10 : Int)))) (
        .leaf false)) (
      .leaf false)) (
    .leaf false)
def law09_small_av (r : Bool) : AV := .bool r
def law09_small_outs (_ : List Blk) (_ : Bool) : List Blk := []
noncomputable def c_law09_small : List AV → List Blk → Option Ans := told law09_small_enc (fun p => (law09_small_t p).get) law09_small_av law09_small_outs true (fun _ _ _ => ⟨rfl, fun b hb => by cases hb⟩)
noncomputable def law09_small_env : Env := { envS (fun _ _ _ => none) with mm := some 0 }
theorem law09_small_env_ok : ∀ f, Tells Try.prog f (law09_small_env.fs f) := fun f => Tells.none_ f

theorem law09_small_run (p : SAir) : arun law09_small_env Try.f15 (law09_small_enc p).1 (law09_small_enc p).2 = (law09_small_t p).run fun r => some (law09_small_av r, law09_small_outs (law09_small_enc p).2 r) := by kernel_rfl
attribute [local irreducible] arun in
theorem law09_small_tells : Tells Try.prog 15 c_law09_small :=
  told_tells (E := law09_small_env) (enc := law09_small_enc) (av := law09_small_av) (outs := law09_small_outs) (t := fun p : SAir => law09_small_t p) (by kernel_rfl) law09_small_env_ok Try.func15 (fun c _ => loops_none (E := { law09_small_env with nt := Try.f15.ntmps }) (fun _ => rfl) c) law09_small_run
noncomputable def law09_small (a : SAir) : Option (Bool) := gOfA law09_small_enc (fun p => (law09_small_t p).get) (law09_small_encC a).1 (law09_small_encC a).2
theorem law09_small_eq (a : SAir) : law09_small a = (law09_small_t a).get := congrFun (gOfA_eq law09_small_inj (fun p => (law09_small_t p).get)) a

/-! ### slices.Min[[]int,int] -/
def slices_Min_encC (x : (Sq Int)) : List AV × List Blk := ([.slc 1 x.n (fun k2764 => [.int .i64 (x.f k2764)])], [])
def slices_Min_enc (p : (Sq Int)) : List AV × List Blk := slices_Min_encC p
theorem slices_Min_inj (p q : (Sq Int)) (h : slices_Min_enc p = slices_Min_enc q) : p = q :=
  (Sq.av_inj intE_i64 (a := p) (b := q) (congrArg (fun x : List AV × List Blk => x.1.getD 0 .undef) h))
def slices_Min_l5_s (p : ((Sq Int)) × (Int × Int)) : St := ⟨[(0, .slc 1 p.1.n (fun k2765 => [.int .i64 (p.1.f k2765)])), (3, .int .i64 p.2.1), (4, .int .i64 p.2.2)], [], 704⟩
theorem slices_Min_l5_inj (p q : ((Sq Int)) × (Int × Int)) (h : slices_Min_l5_s p = slices_Min_l5_s q) : p = q :=
  Prod.ext (Sq.av_inj intE_i64 (a := p.1) (b := q.1) (congrArg (fun x : St => aget x.tm 0) h)) (Prod.ext (show p.2.1 = q.2.1 from congrArg intA (congrArg (fun x : St => aget x.tm 3) h)) (show p.2.2 = q.2.2 from congrArg intA (congrArg (fun x : St => aget x.tm 4) h)))
noncomputable def slices_Min_l5_step (x_5_0 : (Sq Int)) (m_5_1 : Int) (i_5_2 : Int) : DT (LR (Int × Int) (Int) (Unit)) :=
  .ite (decide (i_5_2 < ((x_5_0.n : Nat) : Int))) (
    .ite (decide ((0 : Int) ≤ i_5_2 ∧ i_5_2 < ((x_5_0.n : Nat) : Int))) (
      .leaf (.next ((if (x_5_0.f (Int.toNat i_5_2)) < m_5_1 then (x_5_0.f (Int.toNat i_5_2)) else m_5_1), (wr (i_5_2 + (1 : Int)))))) (
      .fail)) (
    .leaf (.l m_5_1))
def slices_Min_l5_el (_ : St) (a : Int) : St := ⟨[(3, .int .i64 a)], [], 704⟩
def slices_Min_l5_er (_ : St) (_ : Unit) : St := ⟨[], [], 0⟩
noncomputable def slices_Min_l5_f (p : ((Sq Int)) × (Int × Int)) : Option ((Int) ⊕ (Unit)) := fixO (fun v : Int × Int => slices_Min_l5_step p.1 v.1 v.2) p.2
noncomputable def slices_Min_l5_c : St → Option LRes := loopM slices_Min_l5_s slices_Min_l5_f true (.exit 0) slices_Min_l5_el .ret slices_Min_l5_er
noncomputable def slices_Min_l5 (x_5_0 : (Sq Int)) (m_5_1 : Int) (i_5_2 : Int) : Option ((Int) ⊕ (Unit)) := gOfS slices_Min_l5_s slices_Min_l5_f (slices_Min_l5_s (x_5_0, (m_5_1, i_5_2)))
theorem slices_Min_l5_eq (x_5_0 : (Sq Int)) (m_5_1 : Int) (i_5_2 : Int) : slices_Min_l5 x_5_0 m_5_1 i_5_2 = fixO (fun v : Int × Int => slices_Min_l5_step x_5_0 v.1 v.2) (m_5_1, i_5_2) := gOfS_eq slices_Min_l5_inj slices_Min_l5_f (x_5_0, (m_5_1, i_5_2))
noncomputable def slices_Min_t (x : (Sq Int)) : DT (Int) :=
  .ite (decide (((x.n : Nat) : Int) < (1 : Int))) (
    .fail) (
    .ite (decide ((0 : Int) ≤ (0 : Int) ∧ (0 : Int) < ((x.n : Nat) : Int))) (
      .sum (slices_Min_l5 x (x.f 0) (1 : Int)) (fun y1983 =>
        .leaf y1983) (fun _ =>
        .fail)) (
      .fail))
def slices_Min_av (r : Int) : AV := .int .i64 r
def slices_Min_outs (_ : List Blk) (_ : Int) : List Blk := []
noncomputable def c_slices_Min : List AV → List Blk → Option Ans := told slices_Min_enc (fun p => (slices_Min_t p).get) slices_Min_av slices_Min_outs true (fun _ _ _ => ⟨rfl, fun b hb => by cases hb⟩)
noncomputable def slices_Min_env : Env := { envS (fun _ _ _ => none) (fun r => match r with | 5 => some ([0, 3, 4], [3]) | _ => none) with loops := fun r => match r with | 5 => some slices_Min_l5_c | _ => none, gc := fun r => match r with | 5 => some [] | _ => none, mm := some 0 }
theorem slices_Min_env_ok : ∀ f, Tells Try.prog f (slices_Min_env.fs f) := fun f => Tells.none_ f

noncomputable def slices_Min_e : Env := { slices_Min_env with nt := 25 }
noncomputable def slices_Min_l5_b : Code := loopOf 5 Try.f84
theorem slices_Min_l5_round {R : Type} (fx : (Sq Int)) (v : Int × Int) (N : Nat) (K : AX → St → Option R) : aloop (fun s j => aexec slices_Min_e slices_Min_l5_b s j) (headOf slices_Min_e slices_Min_l5_b 704) (exitOf slices_Min_e slices_Min_l5_b 704) (N + 1) (slices_Min_l5_s (fx, v)) K = (slices_Min_l5_step fx v.1 v.2).run (LR.elim
    (fun v' => aloop (fun s j => aexec slices_Min_e slices_Min_l5_b s j) (headOf slices_Min_e slices_Min_l5_b 704) (exitOf slices_Min_e slices_Min_l5_b 704) N (slices_Min_l5_s (fx, v')) K)
    (fun a => K (.exit 0) (slices_Min_l5_el (slices_Min_l5_s (fx, v)) a))
    (fun a => K .ret (slices_Min_l5_er (slices_Min_l5_s (fx, v)) a))) := by kernel_rfl
theorem slices_Min_l5_tells : LoopTells slices_Min_e slices_Min_l5_b slices_Min_l5_c :=
  loopM_tells (s := slices_Min_l5_s) (stl := slices_Min_l5_el) (str := slices_Min_l5_er) (step := fun (fx : (Sq Int)) (v : Int × Int) => slices_Min_l5_step fx v.1 v.2) (n := 704) (fun _ => rfl) (fun _ _ _ _ => rfl) (fun _ _ _ _ => rfl) slices_Min_l5_round
theorem slices_Min_run (p : (Sq Int)) : arun slices_Min_env Try.f84 (slices_Min_enc p).1 (slices_Min_enc p).2 = (slices_Min_t p).run fun r => some (slices_Min_av r, slices_Min_outs (slices_Min_enc p).2 r) := by kernel_rfl
theorem slices_Min_loops : ∀ c, Try.f84.body = some c → LoopsOK { slices_Min_env with nt := Try.f84.ntmps } c := by
  intro c hc
  refine loops_of c fun c' hc' f hf => ?_
  have hb : loopsOf c = [slices_Min_l5_b] := by
    have : Try.f84.body.map loopsOf = some [slices_Min_l5_b] := by kernel_rfl
    rw [hc] at this
    injection this
  rw [hb] at hc'
  clear hb
  obtain rfl := List.mem_singleton.1 hc'
  have h6 : firstReg slices_Min_l5_b = 5 := by kernel_rfl
  rw [h6] at hf
  obtain rfl := Option.some.inj hf
  exact slices_Min_l5_tells
attribute [local irreducible] arun in
theorem slices_Min_tells : Tells Try.prog 84 c_slices_Min :=
  told_tells (E := slices_Min_env) (enc := slices_Min_enc) (av := slices_Min_av) (outs := slices_Min_outs) (t := fun p : (Sq Int) => slices_Min_t p) (by kernel_rfl) slices_Min_env_ok Try.func84 slices_Min_loops slices_Min_run
noncomputable def slices_Min (x : (Sq Int)) : Option (Int) := gOfA slices_Min_enc (fun p => (slices_Min_t p).get) (slices_Min_encC x).1 (slices_Min_encC x).2
theorem slices_Min_eq (x : (Sq Int)) : slices_Min x = (slices_Min_t x).get := congrFun (gOfA_eq slices_Min_inj (fun p => (slices_Min_t p).get)) x

/-! ### slices.Max[[]int,int] -/
def slices_Max_encC (x : (Sq Int)) : List AV × List Blk := ([.slc 1 x.n (fun k2766 => [.int .i64 (x.f k2766)])], [])
def slices_Max_enc (p : (Sq Int)) : List AV × List Blk := slices_Max_encC p
theorem slices_Max_inj (p q : (Sq Int)) (h : slices_Max_enc p = slices_Max_enc q) : p = q :=
  (Sq.av_inj intE_i64 (a := p) (b := q) (congrArg (fun x : List AV × List Blk => x.1.getD 0 .undef) h))
def slices_Max_l5_s (p : ((Sq Int)) × (Int × Int)) : St := ⟨[(0, .slc 1 p.1.n (fun k2767 => [.int .i64 (p.1.f k2767)])), (3, .int .i64 p.2.1), (4, .int .i64 p.2.2)], [], 704⟩
theorem slices_Max_l5_inj (p q : ((Sq Int)) × (Int × Int)) (h : slices_Max_l5_s p = slices_Max_l5_s q) : p = q :=
  Prod.ext (Sq.av_inj intE_i64 (a := p.1) (b := q.1) (congrArg (fun x : St => aget x.tm 0) h)) (Prod.ext (show p.2.1 = q.2.1 from congrArg intA (congrArg (fun x : St => aget x.tm 3) h)) (show p.2.2 = q.2.2 from congrArg intA (congrArg (fun x : St => aget x.tm 4) h)))
noncomputable def slices_Max_l5_step (x_5_0 : (Sq Int)) (m_5_1 : Int) (i_5_2 : Int) : DT (LR (Int × Int) (Int) (Unit)) :=
  .ite (decide (i_5_2 < ((x_5_0.n : Nat) : Int))) (
    .ite (decide ((0 : Int) ≤ i_5_2 ∧ i_5_2 < ((x_5_0.n : Nat) : Int))) (
      .leaf (.next ((if m_5_1 < (x_5_0.f (Int.toNat i_5_2)) then (x_5_0.f (Int.toNat i_5_2)) else m_5_1), (wr (i_5_2 + (1 : Int)))))) (
      .fail)) (
    .leaf (.l m_5_1))
def slices_Max_l5_el (_ : St) (a : Int) : St := ⟨[(3, .int .i64 a)], [], 704⟩
def slices_Max_l5_er (_ : St) (_ : Unit) : St := ⟨[], [], 0⟩
noncomputable def slices_Max_l5_f (p : ((Sq Int)) × (Int × Int)) : Option ((Int) ⊕ (Unit)) := fixO (fun v : Int × Int => slices_Max_l5_step p.1 v.1 v.2) p.2
noncomputable def slices_Max_l5_c : St → Option LRes := loopM slices_Max_l5_s slices_Max_l5_f true (.exit 0) slices_Max_l5_el .ret slices_Max_l5_er
noncomputable def slices_Max_l5 (x_5_0 : (Sq Int)) (m_5_1 : Int) (i_5_2 : Int) : Option ((Int) ⊕ (Unit)) := gOfS slices_Max_l5_s slices_Max_l5_f (slices_Max_l5_s (x_5_0, (m_5_1, i_5_2)))
theorem slices_Max_l5_eq (x_5_0 : (Sq Int)) (m_5_1 : Int) (i_5_2 : Int) : slices_Max_l5 x_5_0 m_5_1 i_5_2 = fixO (fun v : Int × Int => slices_Max_l5_step x_5_0 v.1 v.2) (m_5_1, i_5_2) := gOfS_eq slices_Max_l5_inj slices_Max_l5_f (x_5_0, (m_5_1, i_5_2))
noncomputable def slices_Max_t (x : (Sq Int)) : DT (Int) :=
  .ite (decide (((x.n : Nat) : Int) < (1 : Int))) (
    .fail) (
    .ite (decide ((0 : Int) ≤ (0 : Int) ∧ (0 : Int) < ((x.n : Nat) : Int))) (
      .sum (slices_Max_l5 x (x.f 0) (1 : Int)) (fun y1985 =>
        .leaf y1985) (fun _ =>
        .fail)) (
      .fail))
def slices_Max_av (r : Int) : AV := .int .i64 r
def slices_Max_outs (_ : List Blk) (_ : Int) : List Blk := []
noncomputable def c_slices_Max : List AV → List Blk → Option Ans := told slices_Max_enc (fun p => (slices_Max_t p).get) slices_Max_av slices_Max_outs true (fun _ _ _ => ⟨rfl, fun b hb => by cases hb⟩)
noncomputable def slices_Max_env : Env := { envS (fun _ _ _ => none) (fun r => match r with | 5 => some ([0, 3, 4], [3]) | _ => none) with loops := fun r => match r with | 5 => some slices_Max_l5_c | _ => none, gc := fun r => match r with | 5 => some [] | _ => none, mm := some 0 }
theorem slices_Max_env_ok : ∀ f, Tells Try.prog f (slices_Max_env.fs f) := fun f => Tells.none_ f

noncomputable def slices_Max_e : Env := { slices_Max_env with nt := 25 }
noncomputable def slices_Max_l5_b : Code := loopOf 5 Try.f85
theorem slices_Max_l5_round {R : Type} (fx : (Sq Int)) (v : Int × Int) (N : Nat) (K : AX → St → Option R) : aloop (fun s j => aexec slices_Max_e slices_Max_l5_b s j) (headOf slices_Max_e slices_Max_l5_b 704) (exitOf slices_Max_e slices_Max_l5_b 704) (N + 1) (slices_Max_l5_s (fx, v)) K = (slices_Max_l5_step fx v.1 v.2).run (LR.elim
    (fun v' => aloop (fun s j => aexec slices_Max_e slices_Max_l5_b s j) (headOf slices_Max_e slices_Max_l5_b 704) (exitOf slices_Max_e slices_Max_l5_b 704) N (slices_Max_l5_s (fx, v')) K)
    (fun a => K (.exit 0) (slices_Max_l5_el (slices_Max_l5_s (fx, v)) a))
    (fun a => K .ret (slices_Max_l5_er (slices_Max_l5_s (fx, v)) a))) := by kernel_rfl
theorem slices_Max_l5_tells : LoopTells slices_Max_e slices_Max_l5_b slices_Max_l5_c :=
  loopM_tells (s := slices_Max_l5_s) (stl := slices_Max_l5_el) (str := slices_Max_l5_er) (step := fun (fx : (Sq Int)) (v : Int × Int) => slices_Max_l5_step fx v.1 v.2) (n := 704) (fun _ => rfl) (fun _ _ _ _ => rfl) (fun _ _ _ _ => rfl) slices_Max_l5_round
theorem slices_Max_run (p : (Sq Int)) : arun slices_Max_env Try.f85 (slices_Max_enc p).1 (slices_Max_enc p).2 = (slices_Max_t p).run fun r => some (slices_Max_av r, slices_Max_outs (slices_Max_enc p).2 r) := by kernel_rfl
theorem slices_Max_loops : ∀ c, Try.f85.body = some c → LoopsOK { slices_Max_env with nt := Try.f85.ntmps } c := by
  intro c hc
  refine loops_of c fun c' hc' f hf => ?_
  have hb : loopsOf c = [slices_Max_l5_b] := by
    have : Try.f85.body.map loopsOf = some [slices_Max_l5_b] := by kernel_rfl
    rw [hc] at this
    injection this
  rw [hb] at hc'
  clear hb
  obtain rfl := List.mem_singleton.1 hc'
  have h6 : firstReg slices_Max_l5_b = 5 := by kernel_rfl
  rw [h6] at hf
  obtain rfl := Option.some.inj hf
  exact slices_Max_l5_tells
attribute [local irreducible] arun in
theorem slices_Max_tells : Tells Try.prog 85 c_slices_Max :=
  told_tells (E := slices_Max_env) (enc := slices_Max_enc) (av := slices_Max_av) (outs := slices_Max_outs) (t := fun p : (Sq Int) => slices_Max_t p) (by kernel_rfl) slices_Max_env_ok Try.func85 slices_Max_loops slices_Max_run
noncomputable def slices_Max (x : (Sq Int)) : Option (Int) := gOfA slices_Max_enc (fun p => (slices_Max_t p).get) (slices_Max_encC x).1 (slices_Max_encC x).2
theorem slices_Max_eq (x : (Sq Int)) : slices_Max x = (slices_Max_t x).get := congrFun (gOfA_eq slices_Max_inj (fun p => (slices_Max_t p).get)) x
end Go.Proofs.Ytbmbhgkjpdpcjaa.Ab
