/- Mirrors of code, stage 3. -/
import Derived.Test.YtfedelfcdjldlaaDoorV3
namespace Go.Proofs.YtfedelfcdjldlaaDoor.Ab
open Go
attribute [local irreducible] arun

structure SCodes where
  l_ : (Sq Int)
  at_ : Int
def SCodes.enc (x : SCodes) : List AV := [sqA 1 (eI .u8) x.l_, .int .i64 x.at_]
def SCodes.dec (l : List AV) : SCodes := ⟨sqD dI (gd l 0), intA (gd l 1)⟩
structure SPlace where
  Height : Int
  Surface : Bool
def SPlace.enc (x : SPlace) : List AV := [.int .i64 x.Height, .bool x.Surface]
def SPlace.dec (l : List AV) : SPlace := ⟨intA (gd l 0), boolA (gd l 1)⟩
structure SSpan where
  Low : Int
  High : Int
def SSpan.enc (x : SSpan) : List AV := [.int .i64 x.Low, .int .i64 x.High]
def SSpan.dec (l : List AV) : SSpan := ⟨intA (gd l 0), intA (gd l 1)⟩
structure SRoad where
  From : Int
  To : Int
  Length : Int
  Area : Int
  Walk : Bool
  Closed : Bool
  Rest : SSpan
  Lift : SSpan
def SRoad.enc (x : SRoad) : List AV := [.int .i64 x.From, .int .i64 x.To, .int .i64 x.Length, .int .i64 x.Area, .bool x.Walk, .bool x.Closed, .int .i64 x.Rest.Low, .int .i64 x.Rest.High, .int .i64 x.Lift.Low, .int .i64 x.Lift.High]
def SRoad.dec (l : List AV) : SRoad := ⟨intA (gd l 0), intA (gd l 1), intA (gd l 2), intA (gd l 3), boolA (gd l 4), boolA (gd l 5), ⟨intA (gd l 6), intA (gd l 7)⟩, ⟨intA (gd l 8), intA (gd l 9)⟩⟩
structure SMine where
  Places : (Sq SPlace)
  Roads : (Sq SRoad)
def SMine.enc (x : SMine) : List AV := [sqA 2 SPlace.enc x.Places, sqA 10 SRoad.enc x.Roads]
def SMine.dec (l : List AV) : SMine := ⟨sqD SPlace.dec (gd l 0), sqD SRoad.dec (gd l 1)⟩
structure SAnon30 where
  e0_ : Int
  e1_ : Int
def SAnon30.enc (x : SAnon30) : List AV := [.int .i64 x.e0_, .int .i64 x.e1_]
def SAnon30.dec (l : List AV) : SAnon30 := ⟨intA (gd l 0), intA (gd l 1)⟩
structure Space where
  up_ : Int
  down_ : Int
  level_ : Int
def Space.enc (x : Space) : List AV := [.int .i64 x.up_, .int .i64 x.down_, .int .i64 x.level_]
def Space.dec (l : List AV) : Space := ⟨intA (gd l 0), intA (gd l 1), intA (gd l 2)⟩
structure Sstep where
  road_ : Int
  from_ : Int
  to_ : Int
  time_ : Int
def Sstep.enc (x : Sstep) : List AV := [.int .i64 x.road_, .int .i64 x.from_, .int .i64 x.to_, .int .i64 x.time_]
def Sstep.dec (l : List AV) : Sstep := ⟨intA (gd l 0), intA (gd l 1), intA (gd l 2), intA (gd l 3)⟩
structure Scost where
  time_ : Int
  roads_ : Int
def Scost.enc (x : Scost) : List AV := [.int .i64 x.time_, .int .i64 x.roads_]
def Scost.dec (l : List AV) : Scost := ⟨intA (gd l 0), intA (gd l 1)⟩

/-! minecontrol/minecontroldraw.New -/
noncomputable def New_t (l : Sq Int) : DT (SCodes) :=
 .ite (decide ((0 : Int) ≤ (if (300 : Int) < ((l.n : Nat) : Int) then (300 : Int) else ((l.n : Nat) : Int)) ∧ (if (300 : Int) < ((l.n : Nat) : Int) then (300 : Int) else ((l.n : Nat) : Int)) ≤ ((l.n : Nat) : Int))) (.leaf (SCodes.mk (Sq.mk (Int.toNat (if (300 : Int) < ((l.n : Nat) : Int) then (300 : Int) else ((l.n : Nat) : Int))) l.f) (0 : Int))) (.fail)
noncomputable def New_m : FnM := nfM ((Sq Int)) (SCodes) (fun p => ([sqA 1 (eI .u8) p], [])) (fun p => New_t p) (fun _ => .ptr 0 0) (fun _ r => [.var (SCodes.enc r)])
noncomputable def New_env : Env := envM [] [] [] [] [] 0
theorem New_tells : Tells Tryd.prog 4 New_m.c := New_m.tells Tryd.func4 (show ∀ p, arun New_env Tryd.f4 (New_m.enc p).1 (New_m.enc p).2 = _ from fun p => by kernel_rfl) noLoops .nil
noncomputable def New (l : Sq Int) : Option (SCodes) := New_m.val l
theorem New_eq (l : Sq Int) : New l = (New_t l).get := New_m.val_eq (fun x => sqD dI (gd x.1 0)) (fun p => by kernel_rfl) l

/-! (*minecontrol/minecontroldraw.Codes).Next -/
noncomputable def Codes_Next_t (c : SCodes) (n : Int) : DT (Int × Int) :=
 .ite (decide (n < (1 : Int))) (
 .leaf ((0 : Int), c.at_)) (
 .ite (decide (c.at_ ≥ ((c.l_.n : Nat) : Int))) (
 .leaf ((0 : Int), c.at_)) (
 .ite (decide ((0 : Int) ≤ (wr ((wr (c.at_ + (1 : Int))) - (1 : Int))) ∧ (wr ((wr (c.at_ + (1 : Int))) - (1 : Int))) < ((c.l_.n : Nat) : Int))) (
 .ite (decide (n > (256 : Int))) (
 .ite (decide ((wr (c.at_ + (1 : Int))) < ((c.l_.n : Nat) : Int))) (
 .ite (decide ((0 : Int) ≤ (wr (c.at_ + (1 : Int))) ∧ (wr (c.at_ + (1 : Int))) < ((c.l_.n : Nat) : Int))) (
 .ite (n != 0) (.leaf ((Int.tmod (wr ((wr ((wr (c.l_.f (Int.toNat (wr ((wr (c.at_ + (1 : Int))) - (1 : Int)))))) * (256 : Int))) + (wr (c.l_.f (Int.toNat (wr (c.at_ + (1 : Int)))))))) n), (wr ((wr (c.at_ + (1 : Int))) + (1 : Int))))) (.fail)) (
 .fail)) (
 .ite (n != 0) (.leaf ((Int.tmod (wr (c.l_.f (Int.toNat (wr ((wr (c.at_ + (1 : Int))) - (1 : Int)))))) n), (wr (c.at_ + (1 : Int))))) (.fail))) (
 .ite (n != 0) (.leaf ((Int.tmod (wr (c.l_.f (Int.toNat (wr ((wr (c.at_ + (1 : Int))) - (1 : Int)))))) n), (wr (c.at_ + (1 : Int))))) (.fail))) (
 .fail)))
noncomputable def Codes_Next_m : FnM := nfM (SCodes × Int) (Int × Int) (fun p => ([.ptr 0 0, .int .i64 p.2], [.var (SCodes.enc p.1)])) (fun p => Codes_Next_t p.1 p.2) (fun r => .int .i64 r.1) (fun ins r => [.var [cellB ins 0 0, .int .i64 r.2]])
noncomputable def Codes_Next_env : Env := envM [] [] [] [] [] 1
theorem Codes_Next_tells : Tells Tryd.prog 11 Codes_Next_m.c := Codes_Next_m.tells Tryd.func11 (show ∀ p, arun Codes_Next_env Tryd.f11 (Codes_Next_m.enc p).1 (Codes_Next_m.enc p).2 = _ from fun p => by kernel_rfl) noLoops .nil
noncomputable def Codes_Next (c : SCodes) (n : Int) : Option (Int × Int) := Codes_Next_m.val (c, n)
theorem Codes_Next_eq (c : SCodes) (n : Int) : Codes_Next c n = (Codes_Next_t c n).get := Codes_Next_m.val_eq (fun x => (SCodes.dec (varL (dB x.2 0)), intA (gd x.1 1))) (fun p => by kernel_rfl) (c, n)

/-! (*minecontrol/minecontroldraw.Codes).Range -/
noncomputable def Codes_Range_t (c : SCodes) (low high : Int) : DT (Int × Int) :=
 .bind (Codes_Next c (wr ((wr (high - low)) + (1 : Int)))) fun z0 =>
 .leaf ((wr (low + z0.1)), z0.2)
noncomputable def Codes_Range_m : FnM := nfM (SCodes × Int × Int) (Int × Int) (fun p => ([.ptr 0 0, .int .i64 p.2.1, .int .i64 p.2.2], [.var (SCodes.enc p.1)])) (fun p => Codes_Range_t p.1 p.2.1 p.2.2) (fun r => .int .i64 r.1) (fun ins r => [.var [cellB ins 0 0, .int .i64 r.2]])
noncomputable def Codes_Range_env : Env := envM [(11, Codes_Next_m.c)] [] [] [] [] 1
theorem Codes_Range_tells : Tells Tryd.prog 12 Codes_Range_m.c := Codes_Range_m.tells Tryd.func12 (show ∀ p, arun Codes_Range_env Tryd.f12 (Codes_Range_m.enc p).1 (Codes_Range_m.enc p).2 = _ from fun p => by kernel_rfl) noLoops (.cons Codes_Next_tells .nil)
noncomputable def Codes_Range (c : SCodes) (low high : Int) : Option (Int × Int) := Codes_Range_m.val (c, low, high)
theorem Codes_Range_eq (c : SCodes) (low high : Int) : Codes_Range c low high = (Codes_Range_t c low high).get := Codes_Range_m.val_eq (fun x => (SCodes.dec (varL (dB x.2 0)), intA (gd x.1 1), intA (gd x.1 2))) (fun p => by kernel_rfl) (c, low, high)

/-! (*minecontrol/minecontroldraw.Codes).One -/
noncomputable def Codes_One_t (c : SCodes) (n : Int) : DT (Bool × Int) :=
 .bind (Codes_Next c n) fun z0 =>
 .leaf ((z0.1 == (wr (n - (1 : Int)))), z0.2)
noncomputable def Codes_One_m : FnM := nfM (SCodes × Int) (Bool × Int) (fun p => ([.ptr 0 0, .int .i64 p.2], [.var (SCodes.enc p.1)])) (fun p => Codes_One_t p.1 p.2) (fun r => .bool r.1) (fun ins r => [.var [cellB ins 0 0, .int .i64 r.2]])
noncomputable def Codes_One_env : Env := envM [(11, Codes_Next_m.c)] [] [] [] [] 1
theorem Codes_One_tells : Tells Tryd.prog 13 Codes_One_m.c := Codes_One_m.tells Tryd.func13 (show ∀ p, arun Codes_One_env Tryd.f13 (Codes_One_m.enc p).1 (Codes_One_m.enc p).2 = _ from fun p => by kernel_rfl) noLoops (.cons Codes_Next_tells .nil)
noncomputable def Codes_One (c : SCodes) (n : Int) : Option (Bool × Int) := Codes_One_m.val (c, n)
theorem Codes_One_eq (c : SCodes) (n : Int) : Codes_One c n = (Codes_One_t c n).get := Codes_One_m.val_eq (fun x => (SCodes.dec (varL (dB x.2 0)), intA (gd x.1 1))) (fun p => by kernel_rfl) (c, n)

/-! (*minecontrol/minecontroldraw.Codes).Road -/
noncomputable def Codes_Road_t (c : SCodes) (from_ to_ : Int) : DT (SRoad × Int) :=
 .bind (Codes_Range c (1 : Int) (400 : Int)) fun z0 =>
 .bind (Codes_Range (SCodes.mk c.l_ z0.2) (4 : Int) (30 : Int)) fun z1 =>
 .bind (Codes_Next (SCodes.mk c.l_ z1.2) (4 : Int)) fun z2 =>
 .bind (Codes_Range (SCodes.mk c.l_ z2.2) (1 : Int) (20 : Int)) fun z3 =>
 .bind (Codes_Next (SCodes.mk c.l_ z3.2) (3 : Int)) fun z4 =>
 .bind (Codes_Range (SCodes.mk c.l_ z4.2) (-300 : Int) (300 : Int)) fun z5 =>
 .bind (Codes_Next (SCodes.mk c.l_ z5.2) (20 : Int)) fun z6 =>
 .leaf ((SRoad.mk from_ to_ z0.1 z1.1 (decide (z2.1 > (0 : Int))) false (SSpan.mk z3.1 (wr (z3.1 + z4.1))) (SSpan.mk z5.1 (wr (z5.1 + z6.1)))), z6.2)
noncomputable def Codes_Road_m : FnM := nfM (SCodes × Int × Int) (SRoad × Int) (fun p => ([.ptr 0 0, .int .i64 p.2.1, .int .i64 p.2.2], [.var (SCodes.enc p.1)])) (fun p => Codes_Road_t p.1 p.2.1 p.2.2) (fun r => .agg (SRoad.enc r.1)) (fun ins r => [.var [cellB ins 0 0, .int .i64 r.2]])
noncomputable def Codes_Road_env : Env := envM [(12, Codes_Range_m.c), (11, Codes_Next_m.c)] [] [] [] [] 1
theorem Codes_Road_tells : Tells Tryd.prog 14 Codes_Road_m.c := Codes_Road_m.tells Tryd.func14 (show ∀ p, arun Codes_Road_env Tryd.f14 (Codes_Road_m.enc p).1 (Codes_Road_m.enc p).2 = _ from fun p => by kernel_rfl) noLoops (.cons Codes_Range_tells (.cons Codes_Next_tells .nil))
noncomputable def Codes_Road (c : SCodes) (from_ to_ : Int) : Option (SRoad × Int) := Codes_Road_m.val (c, from_, to_)
theorem Codes_Road_eq (c : SCodes) (from_ to_ : Int) : Codes_Road c from_ to_ = (Codes_Road_t c from_ to_).get := Codes_Road_m.val_eq (fun x => (SCodes.dec (varL (dB x.2 0)), intA (gd x.1 1), intA (gd x.1 2))) (fun p => by kernel_rfl) (c, from_, to_)

/-! (*minecontrol/minecontroldraw.Codes).Mine -/
noncomputable def Codes_Mine_l3_step (u3_1 : Sq Int) (u3_0 u3_2 : Int) (u3_3 : Sq SPlace) : DT (LR (Int × Int × (Sq SPlace)) (Int × (Sq SPlace)) (Unit)) :=
 .ite (decide (u3_0 > (0 : Int))) (
 .bind (Codes_Range (SCodes.mk u3_1 u3_2) (-60 : Int) (60 : Int)) fun z0 =>
 .bind (Codes_One (SCodes.mk u3_1 z0.2) (5 : Int)) fun z1 =>
 .ite (decide ((u3_3.n + 1) * 16 ≤ 140737488355328 ∧ (u3_3.n + 1) ≤ 1099511627776)) (
 .leaf (.next ((wr (u3_0 - (1 : Int))), z1.2, (Sq.mk (u3_3.n + 1) (fun k0 => (SPlace.mk (cond (Nat.blt k0 u3_3.n) (u3_3.f k0).Height z0.1) (cond (Nat.blt k0 u3_3.n) (u3_3.f k0).Surface z1.1))))))) (
 .fail)) (
 .leaf (.l (u3_2, u3_3)))
noncomputable def Codes_Mine_l3_m : LpM := ⟨(Sq Int), Int × Int × (Sq SPlace), Int × (Sq SPlace), Unit, fun p => ⟨[(0, .ptr 0 0), (2, .ptr 1 0), (3, .ptr 257 0), (4, .int .i64 p.2.1)], [(0, .var [sqA 1 (eI .u8) p.1, .int .i64 p.2.2.1]), (1, .var [.own 2 0, .own 3 0]), (2, .nilrow 0), (3, .nilrow 0), (129, rowA 0 2 42 SPlace.enc p.2.2.2), (194, .nilrow 0), (257, .var [.own 129 0, .own 194 0])], 641⟩, fun f v => Codes_Mine_l3_step f v.1 v.2.1 v.2.2, true, (.exit 0), (fun x a => ⟨[(0, .ptr 0 0), (2, .ptr 1 0), (3, .ptr 257 0)], [(0, .var [cellS x 0 0, .int .i64 a.1]), (1, .var [.own 2 0, .own 3 0]), (2, .nilrow 0), (3, .nilrow 0), (129, rowA 0 2 42 SPlace.enc a.2), (194, .nilrow 0), (257, .var [.own 129 0, .own 194 0])], 641⟩), .ret, (fun _ _ => ⟨[], [], 0⟩), c1, c1k⟩
noncomputable def Codes_Mine_l3 (u3_1 : Sq Int) (u3_0 u3_2 : Int) (u3_3 : Sq SPlace) : Option ((Int × (Sq SPlace)) ⊕ (Unit)) := Codes_Mine_l3_m.val (u3_1, (u3_0, u3_2, u3_3))
theorem Codes_Mine_l3_eq (u3_1 : Sq Int) (u3_0 u3_2 : Int) (u3_3 : Sq SPlace) : Codes_Mine_l3 u3_1 u3_0 u3_2 u3_3 = fixO (fun v : Int × Int × (Sq SPlace) => Codes_Mine_l3_step u3_1 v.1 v.2.1 v.2.2) (u3_0, u3_2, u3_3) := Codes_Mine_l3_m.val_eq (fun x => (sqD dI (cellS x 0 0), (intA (aget x.tm 4), intA (cellS x 0 1), sqB SPlace.dec (blkS x 129)))) (fun p => by kernel_rfl) (u3_1, (u3_0, u3_2, u3_3))
noncomputable def Codes_Mine_l8_step (u8_2 : Sq Int) (u8_4 : Sq SPlace) (u8_1 u8_3 : Int) (u8_5 : Sq SRoad) : DT (LR (Int × Int × (Sq SRoad)) (Int × (Sq SRoad)) (Unit)) :=
 .ite (decide (u8_1 > (0 : Int))) (
 .bind (Codes_Next (SCodes.mk u8_2 u8_3) ((u8_4.n : Nat) : Int)) fun z2 =>
 .bind (Codes_Next (SCodes.mk u8_2 z2.2) (wr (((u8_4.n : Nat) : Int) - (1 : Int)))) fun z3 =>
 .ite (((u8_4.n : Nat) : Int) != 0) (
 .bind (Codes_Road (SCodes.mk u8_2 z3.2) z2.1 (Int.tmod (wr ((wr (z2.1 + (1 : Int))) + z3.1)) ((u8_4.n : Nat) : Int))) fun z4 =>
 .bind (Codes_One (SCodes.mk u8_2 z4.2) (6 : Int)) fun z5 =>
 .ite (decide ((u8_5.n + 1) * 72 ≤ 140737488355328 ∧ (u8_5.n + 1) ≤ 1099511627776)) (
 .leaf (.next ((wr (u8_1 - (1 : Int))), z5.2, (Sq.mk (u8_5.n + 1) (fun k1 => (SRoad.mk (cond (Nat.blt k1 u8_5.n) (u8_5.f k1).From z4.1.From) (cond (Nat.blt k1 u8_5.n) (u8_5.f k1).To z4.1.To) (cond (Nat.blt k1 u8_5.n) (u8_5.f k1).Length z4.1.Length) (cond (Nat.blt k1 u8_5.n) (u8_5.f k1).Area z4.1.Area) (cond (Nat.blt k1 u8_5.n) (u8_5.f k1).Walk z4.1.Walk) (cond (Nat.blt k1 u8_5.n) (u8_5.f k1).Closed z5.1) (SSpan.mk (cond (Nat.blt k1 u8_5.n) (u8_5.f k1).Rest.Low z4.1.Rest.Low) (cond (Nat.blt k1 u8_5.n) (u8_5.f k1).Rest.High z4.1.Rest.High)) (SSpan.mk (cond (Nat.blt k1 u8_5.n) (u8_5.f k1).Lift.Low z4.1.Lift.Low) (cond (Nat.blt k1 u8_5.n) (u8_5.f k1).Lift.High z4.1.Lift.High)))))))) (
 .fail)) (
 .fail)) (
 .leaf (.l (u8_3, u8_5)))
noncomputable def Codes_Mine_l8_m : LpM := ⟨(Sq Int) × (Sq SPlace), Int × Int × (Sq SRoad), Int × (Sq SRoad), Unit, fun p => ⟨[(0, .ptr 0 0), (2, .ptr 1 0), (3, .ptr 257 0), (5, .int .i64 ((p.1.2.n : Nat) : Int)), (6, .int .i64 p.2.1)], [(0, .var [sqA 1 (eI .u8) p.1.1, .int .i64 p.2.2.1]), (1, .var [.own 2 0, .own 3 0]), (2, .nilrow 0), (3, .nilrow 0), (129, rowA 0 2 42 SPlace.enc p.1.2), (194, rowA 0 10 48 SRoad.enc p.2.2.2), (257, .var [.own 129 0, .own 194 0])], 1089⟩, fun f v => Codes_Mine_l8_step f.1 f.2 v.1 v.2.1 v.2.2, true, (.exit 2), (fun x a => ⟨[(2, .ptr 1 0), (3, .ptr 257 0)], [(0, .var [cellS x 0 0, .int .i64 a.1]), (1, .var [.own 2 0, .own 3 0]), (2, .nilrow 0), (3, .nilrow 0), (129, blkS x 129), (194, rowA 0 10 48 SRoad.enc a.2), (257, .var [.own 129 0, .own 194 0])], 1089⟩), .ret, (fun _ _ => ⟨[], [], 0⟩), c1, c1k⟩
noncomputable def Codes_Mine_l8 (u8_2 : Sq Int) (u8_4 : Sq SPlace) (u8_1 u8_3 : Int) (u8_5 : Sq SRoad) : Option ((Int × (Sq SRoad)) ⊕ (Unit)) := Codes_Mine_l8_m.val ((u8_2, u8_4), (u8_1, u8_3, u8_5))
theorem Codes_Mine_l8_eq (u8_2 : Sq Int) (u8_4 : Sq SPlace) (u8_1 u8_3 : Int) (u8_5 : Sq SRoad) : Codes_Mine_l8 u8_2 u8_4 u8_1 u8_3 u8_5 = fixO (fun v : Int × Int × (Sq SRoad) => Codes_Mine_l8_step u8_2 u8_4 v.1 v.2.1 v.2.2) (u8_1, u8_3, u8_5) := Codes_Mine_l8_m.val_eq (fun x => ((sqD dI (cellS x 0 0), sqB SPlace.dec (blkS x 129)), (intA (aget x.tm 6), intA (cellS x 0 1), sqB SRoad.dec (blkS x 194)))) (fun p => by kernel_rfl) ((u8_2, u8_4), (u8_1, u8_3, u8_5))
noncomputable def Codes_Mine_t (c : SCodes) : DT (SMine × Int) :=
 .bind (Codes_Next c (6 : Int)) fun z6 =>
 .sum (Codes_Mine_l3 c.l_ (wr ((1 : Int) + z6.1)) z6.2 (Sq.mk 1 (fun _ => (SPlace.mk (0 : Int) true)))) (fun y0 =>
 .bind (Codes_Next (SCodes.mk c.l_ y0.1) (9 : Int)) fun z7 =>
 .sum (Codes_Mine_l8 c.l_ y0.2 z7.1 z7.2 (Sq.mk 0 (fun _ => (SRoad.mk (0 : Int) (0 : Int) (0 : Int) (0 : Int) false false (SSpan.mk (0 : Int) (0 : Int)) (SSpan.mk (0 : Int) (0 : Int)))))) (fun y1 =>
 .leaf ((SMine.mk y0.2 y1.2), y1.1)) (fun _ => .fail)) (fun _ => .fail)
noncomputable def Codes_Mine_m : FnM := nfM (SCodes) (SMine × Int) (fun p => ([.ptr 0 0], [.var (SCodes.enc p)])) (fun p => Codes_Mine_t p) (fun _ => .agg [.own 1 0, .own 2 0]) (fun ins r => [.var [cellB ins 0 0, .int .i64 r.2], rowA 0 2 42 SPlace.enc r.1.Places, rowA 0 10 48 SRoad.enc r.1.Roads])
noncomputable def Codes_Mine_env : Env := envM [(11, Codes_Next_m.c), (12, Codes_Range_m.c), (13, Codes_One_m.c), (14, Codes_Road_m.c)] [(3, [0, 2, 3, 4], [0, 2, 3]), (8, [0, 2, 3, 5, 6], [2, 3])] [(3, Codes_Mine_l3_m.c), (8, Codes_Mine_l8_m.c)] [(1000008, [.asrow 194 48 10 (fun _ => SRoad.enc (SRoad.mk (0 : Int) (0 : Int) (0 : Int) (0 : Int) false false (SSpan.mk (0 : Int) (0 : Int)) (SSpan.mk (0 : Int) (0 : Int))))])] [(3, [0, 1, 2, 3, 129, 194, 257]), (8, [0, 1, 2, 3, 129, 194, 257])] 1
noncomputable def Codes_Mine_e : Env := { Codes_Mine_env with nt := 63 }
theorem Codes_Mine_l3_tells : LoopTells Codes_Mine_e (loopOf 3 Tryd.f5) Codes_Mine_l3_m.c := Codes_Mine_l3_m.tells 641 (fun _ => by kernel_rfl) (fun _ _ _ _ => by kernel_rfl) (fun _ _ _ _ => by kernel_rfl) fun R f v N K => by kernel_rfl
theorem Codes_Mine_l8_tells : LoopTells Codes_Mine_e (loopOf 8 Tryd.f5) Codes_Mine_l8_m.c := Codes_Mine_l8_m.tells 1089 (fun _ => by kernel_rfl) (fun _ _ _ _ => by kernel_rfl) (fun _ _ _ _ => by kernel_rfl) fun R f v N K => by kernel_rfl
theorem Codes_Mine_tells : Tells Tryd.prog 5 Codes_Mine_m.c := Codes_Mine_m.tells Tryd.func5 (show ∀ p, arun Codes_Mine_env Tryd.f5 (Codes_Mine_m.enc p).1 (Codes_Mine_m.enc p).2 = _ from fun p => by kernel_rfl) (loopsL [loopOf 3 Tryd.f5, loopOf 8 Tryd.f5] (by kernel_rfl) ⟨lpT (by kernel_rfl) Codes_Mine_l3_tells, ⟨lpT (by kernel_rfl) Codes_Mine_l8_tells, trivial⟩⟩) (.cons Codes_Next_tells (.cons Codes_Range_tells (.cons Codes_One_tells (.cons Codes_Road_tells .nil))))
noncomputable def Codes_Mine (c : SCodes) : Option (SMine × Int) := Codes_Mine_m.val c
theorem Codes_Mine_eq (c : SCodes) : Codes_Mine c = (Codes_Mine_t c).get := Codes_Mine_m.val_eq (fun x => SCodes.dec (varL (dB x.2 0))) (fun p => by kernel_rfl) c

/-! minecontrol/minecontroldraw.Mod -/
noncomputable def Mod_t (k n : Int) : DT (Int) :=
 .ite (decide (n < (1 : Int))) (
 .leaf (0 : Int)) (
 .ite (n != 0) (
 .ite (decide ((Int.tmod k n) < (0 : Int))) (.leaf (wr ((Int.tmod k n) + n))) (.leaf (Int.tmod k n))) (
 .fail))
noncomputable def Mod_m : FnM := flM (Int × Int) (Int) (fun p => ([.int .i64 p.1, .int .i64 p.2], [])) (fun p => Mod_t p.1 p.2) (fun r => .int .i64 r) (fun _ => rfl)
noncomputable def Mod_env : Env := envM [] [] [] [] [] 0
theorem Mod_tells : Tells Tryd.prog 6 Mod_m.c := Mod_m.tells Tryd.func6 (show ∀ p, arun Mod_env Tryd.f6 (Mod_m.enc p).1 (Mod_m.enc p).2 = _ from fun p => by kernel_rfl) noLoops .nil
noncomputable def Mod (k n : Int) : Option (Int) := Mod_m.val (k, n)
theorem Mod_eq (k n : Int) : Mod k n = (Mod_t k n).get := Mod_m.val_eq (fun x => (intA (gd x.1 0), intA (gd x.1 1))) (fun p => by kernel_rfl) (k, n)

/-! minecontrol/plan.within -/
noncomputable def plan_within_t (n low high : Int) : DT (Bool) :=
 .ite (decide (low ≤ n)) (.leaf (decide (n ≤ high))) (.leaf false)
noncomputable def plan_within_m : FnM := flM (Int × Int × Int) (Bool) (fun p => ([.int .i64 p.1, .int .i64 p.2.1, .int .i64 p.2.2], [])) (fun p => plan_within_t p.1 p.2.1 p.2.2) (fun r => .bool r) (fun _ => rfl)
noncomputable def plan_within_env : Env := envM [] [] [] [] [] 0
theorem plan_within_tells : Tells Tryd.prog 39 plan_within_m.c := plan_within_m.tells Tryd.func39 (show ∀ p, arun plan_within_env Tryd.f39 (plan_within_m.enc p).1 (plan_within_m.enc p).2 = _ from fun p => by kernel_rfl) noLoops .nil
noncomputable def plan_within (n low high : Int) : Option (Bool) := plan_within_m.val (n, low, high)
theorem plan_within_eq (n low high : Int) : plan_within n low high = (plan_within_t n low high).get := plan_within_m.val_eq (fun x => (intA (gd x.1 0), intA (gd x.1 1), intA (gd x.1 2))) (fun p => by kernel_rfl) (n, low, high)

/-! minecontrol/plan.spans -/
noncomputable def plan_spans_t (s : SSpan) (low high : Int) : DT (Bool) :=
 .ite (decide (low ≤ s.Low)) (
 .ite (decide (s.Low ≤ s.High)) (.leaf (decide (s.High ≤ high))) (.leaf false)) (
 .leaf false)
noncomputable def plan_spans_m : FnM := flM (SSpan × Int × Int) (Bool) (fun p => ([.agg (SSpan.enc p.1), .int .i64 p.2.1, .int .i64 p.2.2], [])) (fun p => plan_spans_t p.1 p.2.1 p.2.2) (fun r => .bool r) (fun _ => rfl)
noncomputable def plan_spans_env : Env := envM [] [] [] [] [] 0
theorem plan_spans_tells : Tells Tryd.prog 45 plan_spans_m.c := plan_spans_m.tells Tryd.func45 (show ∀ p, arun plan_spans_env Tryd.f45 (plan_spans_m.enc p).1 (plan_spans_m.enc p).2 = _ from fun p => by kernel_rfl) noLoops .nil
noncomputable def plan_spans (s : SSpan) (low high : Int) : Option (Bool) := plan_spans_m.val (s, low, high)
theorem plan_spans_eq (s : SSpan) (low high : Int) : plan_spans s low high = (plan_spans_t s low high).get := plan_spans_m.val_eq (fun x => (SSpan.dec (aggL (gd x.1 0)), intA (gd x.1 1), intA (gd x.1 2))) (fun p => by kernel_rfl) (s, low, high)

/-! minecontrol/plan.checkRoad -/
noncomputable def plan_checkRoad_t (r : SRoad) (places : Int) : DT (Int) :=
 .bind (plan_within r.From (0 : Int) (wr (places - (1 : Int)))) fun z0 =>
 .ite (!z0) (
 .leaf (4 : Int)) (
 .bind (plan_within r.To (0 : Int) (wr (places - (1 : Int)))) fun z1 =>
 .ite (!z1) (
 .leaf (4 : Int)) (
 .ite (r.From == r.To) (
 .leaf (4 : Int)) (
 .bind (plan_within r.Length (1 : Int) (100000 : Int)) fun z2 =>
 .ite (!z2) (
 .leaf (1 : Int)) (
 .bind (plan_within r.Area (1 : Int) (1000 : Int)) fun z3 =>
 .ite (!z3) (
 .leaf (1 : Int)) (
 .bind (plan_spans r.Rest (1 : Int) (262144 : Int)) fun z4 =>
 .ite (!z4) (
 .leaf (1 : Int)) (
 .bind (plan_spans r.Lift (-2199023255552 : Int) (2199023255552 : Int)) fun z5 =>
 .ite (!z5) (.leaf (1 : Int)) (.leaf (0 : Int))))))))
noncomputable def plan_checkRoad_m : FnM := flM (SRoad × Int) (Int) (fun p => ([.agg (SRoad.enc p.1), .int .i64 p.2], [])) (fun p => plan_checkRoad_t p.1 p.2) (fun r => .int .i64 r) (fun _ => rfl)
noncomputable def plan_checkRoad_env : Env := envM [(39, plan_within_m.c), (45, plan_spans_m.c)] [] [] [] [] 0
theorem plan_checkRoad_tells : Tells Tryd.prog 40 plan_checkRoad_m.c := plan_checkRoad_m.tells Tryd.func40 (show ∀ p, arun plan_checkRoad_env Tryd.f40 (plan_checkRoad_m.enc p).1 (plan_checkRoad_m.enc p).2 = _ from fun p => by kernel_rfl) noLoops (.cons plan_within_tells (.cons plan_spans_tells .nil))
noncomputable def plan_checkRoad (r : SRoad) (places : Int) : Option (Int) := plan_checkRoad_m.val (r, places)
theorem plan_checkRoad_eq (r : SRoad) (places : Int) : plan_checkRoad r places = (plan_checkRoad_t r places).get := plan_checkRoad_m.val_eq (fun x => (SRoad.dec (aggL (gd x.1 0)), intA (gd x.1 1))) (fun p => by kernel_rfl) (r, places)

/-! minecontrol/plan.Check -/
noncomputable def plan_Check_l4_step (u4_0 : Sq SPlace) (_u4_2 : Sq SRoad) (u4_3 : Int) : DT (LR (Int) (Unit) (Unit)) :=
 .ite (decide (u4_3 < ((u4_0.n : Nat) : Int))) (
 .ite (decide ((0 : Int) ≤ u4_3 ∧ u4_3 < ((u4_0.n : Nat) : Int))) (
 .bind (plan_within (u4_0.f (Int.toNat u4_3)).Height (-10000 : Int) (10000 : Int)) fun z0 =>
 .ite (!z0) (
 .leaf (.r ())) (
 .leaf (.next (wr (u4_3 + (1 : Int)))))) (
 .fail)) (
 .leaf (.l ()))
noncomputable def plan_Check_l4_m : LpM := ⟨(Sq SPlace) × (Sq SRoad), Int, Unit, Unit, fun p => ⟨[(1, .ptr 0 0), (19, sqA 2 SPlace.enc p.1.1), (20, .int .i64 ((p.1.1.n : Nat) : Int)), (21, .int .i64 p.2)], [(0, .var [sqA 2 SPlace.enc p.1.1, sqA 10 SRoad.enc p.1.2])], 1088⟩, fun f v => plan_Check_l4_step f.1 f.2 v, false, (.exit 0), (fun x _ => ⟨[(1, .ptr 0 0), (2, .undef)], [(0, blkS x 0)], 1088⟩), .ret, (fun x _ => ⟨[(1, .ptr 0 0), (2, .int .i64 (1 : Int))], [(0, blkS x 0)], 1088⟩), c1, c1k⟩
noncomputable def plan_Check_l4 (u4_0 : Sq SPlace) (u4_2 : Sq SRoad) (u4_3 : Int) : Option ((Unit) ⊕ (Unit)) := plan_Check_l4_m.val ((u4_0, u4_2), u4_3)
theorem plan_Check_l4_eq (u4_0 : Sq SPlace) (u4_2 : Sq SRoad) (u4_3 : Int) : plan_Check_l4 u4_0 u4_2 u4_3 = fixO (fun v : Int => plan_Check_l4_step u4_0 u4_2 v) u4_3 := plan_Check_l4_m.val_eq (fun x => ((sqD SPlace.dec (aget x.tm 19), sqD SRoad.dec (cellS x 0 1)), intA (aget x.tm 21))) (fun p => by kernel_rfl) ((u4_0, u4_2), u4_3)
noncomputable def plan_Check_l10_step (u10_0 : Sq SRoad) (u10_2 : Sq SPlace) (u10_3 : Int) : DT (LR (Int) (Unit) (Int)) :=
 .ite (decide (u10_3 < ((u10_0.n : Nat) : Int))) (
 .ite (decide ((0 : Int) ≤ u10_3 ∧ u10_3 < ((u10_0.n : Nat) : Int))) (
 .bind (plan_checkRoad (u10_0.f (Int.toNat u10_3)) ((u10_2.n : Nat) : Int)) fun z1 =>
 .ite (z1 != (0 : Int)) (
 .leaf (.r z1)) (
 .leaf (.next (wr (u10_3 + (1 : Int)))))) (
 .fail)) (
 .leaf (.l ()))
noncomputable def plan_Check_l10_m : LpM := ⟨(Sq SRoad) × (Sq SPlace), Int, Unit, Int, fun p => ⟨[(1, .ptr 0 0), (31, sqA 10 SRoad.enc p.1.1), (32, .int .i64 ((p.1.1.n : Nat) : Int)), (33, .int .i64 p.2)], [(0, .var [sqA 2 SPlace.enc p.1.2, sqA 10 SRoad.enc p.1.1])], 1344⟩, fun f v => plan_Check_l10_step f.1 f.2 v, false, (.exit 2), (fun x _ => ⟨[(2, .undef)], [(0, blkS x 0)], 1344⟩), .ret, (fun x a => ⟨[(2, .int .i64 a)], [(0, blkS x 0)], 1344⟩), c1, c1k⟩
noncomputable def plan_Check_l10 (u10_0 : Sq SRoad) (u10_2 : Sq SPlace) (u10_3 : Int) : Option ((Unit) ⊕ (Int)) := plan_Check_l10_m.val ((u10_0, u10_2), u10_3)
theorem plan_Check_l10_eq (u10_0 : Sq SRoad) (u10_2 : Sq SPlace) (u10_3 : Int) : plan_Check_l10 u10_0 u10_2 u10_3 = fixO (fun v : Int => plan_Check_l10_step u10_0 u10_2 v) u10_3 := plan_Check_l10_m.val_eq (fun x => ((sqD SRoad.dec (aget x.tm 31), sqD SPlace.dec (cellS x 0 0)), intA (aget x.tm 33))) (fun p => by kernel_rfl) ((u10_0, u10_2), u10_3)
noncomputable def plan_Check_t (m : SMine) : DT (Int) :=
 .ite (decide (((m.Places.n : Nat) : Int) > (64 : Int))) (
 .leaf (2 : Int)) (
 .ite (decide (((m.Roads.n : Nat) : Int) > (128 : Int))) (
 .leaf (2 : Int)) (
 .sum (plan_Check_l4 m.Places m.Roads (0 : Int)) (fun _ =>
 .sum (plan_Check_l10 m.Roads m.Places (0 : Int)) (fun _ =>
 .leaf (0 : Int)) (fun y0 => .leaf y0)) (fun _ => .leaf (1 : Int))))
noncomputable def plan_Check_m : FnM := flM (SMine) (Int) (fun p => ([.agg (SMine.enc p)], [])) (fun p => plan_Check_t p) (fun r => .int .i64 r) (fun _ => rfl)
noncomputable def plan_Check_env : Env := envM [(39, plan_within_m.c), (40, plan_checkRoad_m.c)] [(4, [1, 19, 20, 21], [1, 2]), (10, [1, 31, 32, 33], [2])] [(4, plan_Check_l4_m.c), (10, plan_Check_l10_m.c)] [] [(4, [0]), (10, [0])] 0
noncomputable def plan_Check_e : Env := { plan_Check_env with nt := 46 }
theorem plan_Check_l4_tells : LoopTells plan_Check_e (loopOf 4 Tryd.f27) plan_Check_l4_m.c := plan_Check_l4_m.tells 1088 (fun _ => by kernel_rfl) (fun _ _ _ _ => by kernel_rfl) (fun _ _ _ _ => by kernel_rfl) fun R f v N K => by kernel_rfl
theorem plan_Check_l10_tells : LoopTells plan_Check_e (loopOf 10 Tryd.f27) plan_Check_l10_m.c := plan_Check_l10_m.tells 1344 (fun _ => by kernel_rfl) (fun _ _ _ _ => by kernel_rfl) (fun _ _ _ _ => by kernel_rfl) fun R f v N K => by kernel_rfl
theorem plan_Check_tells : Tells Tryd.prog 27 plan_Check_m.c := plan_Check_m.tells Tryd.func27 (show ∀ p, arun plan_Check_env Tryd.f27 (plan_Check_m.enc p).1 (plan_Check_m.enc p).2 = _ from fun p => by kernel_rfl) (loopsL [loopOf 4 Tryd.f27, loopOf 10 Tryd.f27] (by kernel_rfl) ⟨lpT (by kernel_rfl) plan_Check_l4_tells, ⟨lpT (by kernel_rfl) plan_Check_l10_tells, trivial⟩⟩) (.cons plan_within_tells (.cons plan_checkRoad_tells .nil))
noncomputable def plan_Check (m : SMine) : Option (Int) := plan_Check_m.val m
theorem plan_Check_eq (m : SMine) : plan_Check m = (plan_Check_t m).get := plan_Check_m.val_eq (fun x => SMine.dec (aggL (gd x.1 0))) (fun p => by kernel_rfl) m

/-! minecontrol/plan.Valid -/
noncomputable def plan_Valid_t (m : SMine) : DT (Bool) :=
 .bind (plan_Check m) fun z0 =>
 .leaf (z0 == (0 : Int))
noncomputable def plan_Valid_m : FnM := flM (SMine) (Bool) (fun p => ([.agg (SMine.enc p)], [])) (fun p => plan_Valid_t p) (fun r => .bool r) (fun _ => rfl)
noncomputable def plan_Valid_env : Env := envM [(27, plan_Check_m.c)] [] [] [] [] 0
theorem plan_Valid_tells : Tells Tryd.prog 15 plan_Valid_m.c := plan_Valid_m.tells Tryd.func15 (show ∀ p, arun plan_Valid_env Tryd.f15 (plan_Valid_m.enc p).1 (plan_Valid_m.enc p).2 = _ from fun p => by kernel_rfl) noLoops (.cons plan_Check_tells .nil)
noncomputable def plan_Valid (m : SMine) : Option (Bool) := plan_Valid_m.val m
theorem plan_Valid_eq (m : SMine) : plan_Valid m = (plan_Valid_t m).get := plan_Valid_m.val_eq (fun x => SMine.dec (aggL (gd x.1 0))) (fun p => by kernel_rfl) m

/-! minecontrol/walk.hasPlace -/
noncomputable def walk_hasPlace_t (m : SMine) (place : Int) : DT (Bool) :=
 .ite (decide (place ≥ (0 : Int))) (.leaf (decide (place < ((m.Places.n : Nat) : Int)))) (.leaf false)
noncomputable def walk_hasPlace_m : FnM := flM (SMine × Int) (Bool) (fun p => ([.agg (SMine.enc p.1), .int .i64 p.2], [])) (fun p => walk_hasPlace_t p.1 p.2) (fun r => .bool r) (fun _ => rfl)
noncomputable def walk_hasPlace_env : Env := envM [] [] [] [] [] 0
theorem walk_hasPlace_tells : Tells Tryd.prog 16 walk_hasPlace_m.c := walk_hasPlace_m.tells Tryd.func16 (show ∀ p, arun walk_hasPlace_env Tryd.f16 (walk_hasPlace_m.enc p).1 (walk_hasPlace_m.enc p).2 = _ from fun p => by kernel_rfl) noLoops .nil
noncomputable def walk_hasPlace (m : SMine) (place : Int) : Option (Bool) := walk_hasPlace_m.val (m, place)
theorem walk_hasPlace_eq (m : SMine) (place : Int) : walk_hasPlace m place = (walk_hasPlace_t m place).get := walk_hasPlace_m.val_eq (fun x => (SMine.dec (aggL (gd x.1 0)), intA (gd x.1 1))) (fun p => by kernel_rfl) (m, place)

/-! minecontrol/walk.walked -/
noncomputable def walk_walked_t (r : SRoad) : DT (Bool) :=
 .ite r.Walk (.leaf (!r.Closed)) (.leaf false)
noncomputable def walk_walked_m : FnM := flM (SRoad) (Bool) (fun p => ([.agg (SRoad.enc p)], [])) (fun p => walk_walked_t p) (fun r => .bool r) (fun _ => rfl)
noncomputable def walk_walked_env : Env := envM [] [] [] [] [] 0
theorem walk_walked_tells : Tells Tryd.prog 28 walk_walked_m.c := walk_walked_m.tells Tryd.func28 (show ∀ p, arun walk_walked_env Tryd.f28 (walk_walked_m.enc p).1 (walk_walked_m.enc p).2 = _ from fun p => by kernel_rfl) noLoops .nil
noncomputable def walk_walked (r : SRoad) : Option (Bool) := walk_walked_m.val r
theorem walk_walked_eq (r : SRoad) : walk_walked r = (walk_walked_t r).get := walk_walked_m.val_eq (fun x => SRoad.dec (aggL (gd x.1 0))) (fun p => by kernel_rfl) r

/-! minecontrol/walk.directions -/
noncomputable def walk_directions_t (r : SRoad) : DT (SRoad) :=
 .leaf r
noncomputable def walk_directions_m : FnM := nfM (SRoad) (SRoad) (fun p => ([.agg (SRoad.enc p)], [])) (fun p => walk_directions_t p) (fun _ => .fn 41 [.ptr 0 0]) (fun _ r => [.var (SRoad.enc r)])
noncomputable def walk_directions_env : Env := envM [] [] [] [] [] 0
theorem walk_directions_tells : Tells Tryd.prog 29 walk_directions_m.c := walk_directions_m.tells Tryd.func29 (show ∀ p, arun walk_directions_env Tryd.f29 (walk_directions_m.enc p).1 (walk_directions_m.enc p).2 = _ from fun p => by kernel_rfl) noLoops .nil
noncomputable def walk_directions (r : SRoad) : Option (SRoad) := walk_directions_m.val r
theorem walk_directions_eq (r : SRoad) : walk_directions r = (walk_directions_t r).get := walk_directions_m.val_eq (fun x => SRoad.dec (aggL (gd x.1 0))) (fun p => by kernel_rfl) r

/-! minecontrol/walk.rise -/
noncomputable def walk_rise_t (m : SMine) (from_ to_ : Int) : DT (Int) :=
 .ite (decide ((0 : Int) ≤ to_ ∧ to_ < ((m.Places.n : Nat) : Int))) (
 .ite (decide ((0 : Int) ≤ from_ ∧ from_ < ((m.Places.n : Nat) : Int))) (.leaf (wr ((m.Places.f (Int.toNat to_)).Height - (m.Places.f (Int.toNat from_)).Height))) (.fail)) (
 .fail)
noncomputable def walk_rise_m : FnM := flM (SMine × Int × Int) (Int) (fun p => ([.agg (SMine.enc p.1), .int .i64 p.2.1, .int .i64 p.2.2], [])) (fun p => walk_rise_t p.1 p.2.1 p.2.2) (fun r => .int .i64 r) (fun _ => rfl)
noncomputable def walk_rise_env : Env := envM [] [] [] [] [] 0
theorem walk_rise_tells : Tells Tryd.prog 31 walk_rise_m.c := walk_rise_m.tells Tryd.func31 (show ∀ p, arun walk_rise_env Tryd.f31 (walk_rise_m.enc p).1 (walk_rise_m.enc p).2 = _ from fun p => by kernel_rfl) noLoops .nil
noncomputable def walk_rise (m : SMine) (from_ to_ : Int) : Option (Int) := walk_rise_m.val (m, from_, to_)
theorem walk_rise_eq (m : SMine) (from_ to_ : Int) : walk_rise m from_ to_ = (walk_rise_t m from_ to_).get := walk_rise_m.val_eq (fun x => (SMine.dec (aggL (gd x.1 0)), intA (gd x.1 1), intA (gd x.1 2))) (fun p => by kernel_rfl) (m, from_, to_)

/-! (minecontrol/walk.pace).seconds -/
noncomputable def walk_pace_seconds_t (p : Space) (length rise : Int) : DT (Int) :=
 .ite (decide ((wr ((10 : Int) * rise)) > length)) (
 .ite (p.up_ != 0) (.leaf (wr (Int.tdiv (wr ((wr ((wr ((10 : Int) * length)) + p.up_)) - (1 : Int))) p.up_))) (.fail)) (
 .ite (decide ((wr ((-10 : Int) * rise)) > length)) (
 .ite (p.down_ != 0) (.leaf (wr (Int.tdiv (wr ((wr ((wr ((10 : Int) * length)) + p.down_)) - (1 : Int))) p.down_))) (.fail)) (
 .ite (p.level_ != 0) (.leaf (wr (Int.tdiv (wr ((wr ((wr ((10 : Int) * length)) + p.level_)) - (1 : Int))) p.level_))) (.fail)))
noncomputable def walk_pace_seconds_m : FnM := flM (Space × Int × Int) (Int) (fun p => ([.agg (Space.enc p.1), .int .i64 p.2.1, .int .i64 p.2.2], [])) (fun p => walk_pace_seconds_t p.1 p.2.1 p.2.2) (fun r => .int .i64 r) (fun _ => rfl)
noncomputable def walk_pace_seconds_env : Env := envM [] [] [] [] [] 0
theorem walk_pace_seconds_tells : Tells Tryd.prog 30 walk_pace_seconds_m.c := walk_pace_seconds_m.tells Tryd.func30 (show ∀ p, arun walk_pace_seconds_env Tryd.f30 (walk_pace_seconds_m.enc p).1 (walk_pace_seconds_m.enc p).2 = _ from fun p => by kernel_rfl) noLoops .nil
noncomputable def walk_pace_seconds (p : Space) (length rise : Int) : Option (Int) := walk_pace_seconds_m.val (p, length, rise)
theorem walk_pace_seconds_eq (p : Space) (length rise : Int) : walk_pace_seconds p length rise = (walk_pace_seconds_t p length rise).get := walk_pace_seconds_m.val_eq (fun x => (Space.dec (aggL (gd x.1 0)), intA (gd x.1 1), intA (gd x.1 2))) (fun p => by kernel_rfl) (p, length, rise)

/-! minecontrol/walk.steps -/
noncomputable def walk_steps_l3_step (u3_0 : Sq SRoad) (u3_2 : Sq SPlace) (u3_3 : Sq Sstep) (u3_4 : Int) : DT (LR ((Sq Sstep) × Int) ((Sq Sstep)) (Unit)) :=
 .ite (decide (u3_4 < ((u3_0.n : Nat) : Int))) (
 .ite (decide ((0 : Int) ≤ u3_4 ∧ u3_4 < ((u3_0.n : Nat) : Int))) (
 .bind (walk_walked (u3_0.f (Int.toNat u3_4))) fun z0 =>
 .ite (!z0) (
 .leaf (.next (u3_3, (wr (u3_4 + (1 : Int)))))) (
 .bind (walk_directions (u3_0.f (Int.toNat u3_4))) fun z1 =>
 .bind (walk_rise (SMine.mk u3_2 u3_0) z1.From z1.To) fun z2 =>
 .bind (walk_pace_seconds (Space.mk (6 : Int) (9 : Int) (12 : Int)) (u3_0.f (Int.toNat u3_4)).Length z2) fun z3 =>
 .ite (decide ((u3_3.n + 1) * 32 ≤ 140737488355328 ∧ (u3_3.n + 1) ≤ 1099511627776)) (
 .bind (walk_rise (SMine.mk u3_2 u3_0) z1.To z1.From) fun z4 =>
 .bind (walk_pace_seconds (Space.mk (6 : Int) (9 : Int) (12 : Int)) (u3_0.f (Int.toNat u3_4)).Length z4) fun z5 =>
 .ite (decide (((u3_3.n + 1) + 1) * 32 ≤ 140737488355328 ∧ ((u3_3.n + 1) + 1) ≤ 1099511627776)) (
 .leaf (.next ((Sq.mk ((u3_3.n + 1) + 1) (fun k0 => (Sstep.mk (cond (Nat.blt k0 (u3_3.n + 1)) (cond (Nat.blt k0 u3_3.n) (u3_3.f k0).road_ u3_4) u3_4) (cond (Nat.blt k0 (u3_3.n + 1)) (cond (Nat.blt k0 u3_3.n) (u3_3.f k0).from_ z1.From) z1.To) (cond (Nat.blt k0 (u3_3.n + 1)) (cond (Nat.blt k0 u3_3.n) (u3_3.f k0).to_ z1.To) z1.From) (cond (Nat.blt k0 (u3_3.n + 1)) (cond (Nat.blt k0 u3_3.n) (u3_3.f k0).time_ z3) z5)))), (wr (u3_4 + (1 : Int)))))) (
 .fail)) (
 .fail))) (
 .fail)) (
 .leaf (.l u3_3))
noncomputable def walk_steps_l3_m : LpM := ⟨(Sq SRoad) × (Sq SPlace), (Sq Sstep) × Int, (Sq Sstep), Unit, fun p => ⟨[(1, .ptr 0 0), (3, .ptr 128 0), (9, sqA 10 SRoad.enc p.1.1), (10, .int .i64 ((p.1.1.n : Nat) : Int)), (11, .int .i64 p.2.2)], [(0, .var [sqA 2 SPlace.enc p.1.2, sqA 10 SRoad.enc p.1.1]), (128, .var [.own 129 0]), (129, rowA 0 4 75 Sstep.enc p.2.1)], 448⟩, fun f v => walk_steps_l3_step f.1 f.2 v.1 v.2, true, (.exit 0), (fun x a => ⟨[(3, .ptr 128 0)], [(0, blkS x 0), (128, .var [.own 129 0]), (129, rowA 0 4 75 Sstep.enc a)], 448⟩), .ret, (fun _ _ => ⟨[], [], 0⟩), c1, c1k⟩
noncomputable def walk_steps_l3 (u3_0 : Sq SRoad) (u3_2 : Sq SPlace) (u3_3 : Sq Sstep) (u3_4 : Int) : Option (((Sq Sstep)) ⊕ (Unit)) := walk_steps_l3_m.val ((u3_0, u3_2), (u3_3, u3_4))
theorem walk_steps_l3_eq (u3_0 : Sq SRoad) (u3_2 : Sq SPlace) (u3_3 : Sq Sstep) (u3_4 : Int) : walk_steps_l3 u3_0 u3_2 u3_3 u3_4 = fixO (fun v : (Sq Sstep) × Int => walk_steps_l3_step u3_0 u3_2 v.1 v.2) (u3_3, u3_4) := walk_steps_l3_m.val_eq (fun x => ((sqD SRoad.dec (aget x.tm 9), sqD SPlace.dec (cellS x 0 0)), (sqB Sstep.dec (blkS x 129), intA (aget x.tm 11)))) (fun p => by kernel_rfl) ((u3_0, u3_2), (u3_3, u3_4))
noncomputable def walk_steps_t (m : SMine) : DT ((Sq Sstep)) :=
 .sum (walk_steps_l3 m.Roads m.Places (Sq.mk 0 (fun _ => (Sstep.mk (0 : Int) (0 : Int) (0 : Int) (0 : Int)))) (0 : Int)) (fun y0 =>
 .leaf y0) (fun _ => .fail)
noncomputable def walk_steps_m : FnM := nfM (SMine) ((Sq Sstep)) (fun p => ([.agg (SMine.enc p)], [])) (fun p => walk_steps_t p) (fun _ => .own 0 0) (fun _ r => [rowA 0 4 75 Sstep.enc r])
noncomputable def walk_steps_env : Env := envM [(28, walk_walked_m.c), (29, walk_directions_m.c), (31, walk_rise_m.c), (30, walk_pace_seconds_m.c)] [(3, [1, 3, 9, 10, 11], [3])] [(3, walk_steps_l3_m.c)] [(1000003, [.asrow 129 75 4 (fun _ => Sstep.enc (Sstep.mk (0 : Int) (0 : Int) (0 : Int) (0 : Int)))])] [(3, [0, 128, 129])] 0 [(41, seqDir)]
noncomputable def walk_steps_e : Env := { walk_steps_env with nt := 40 }
theorem walk_steps_l3_tells : LoopTells walk_steps_e (loopOf 3 Tryd.f17) walk_steps_l3_m.c := walk_steps_l3_m.tells 448 (fun _ => by kernel_rfl) (fun _ _ _ _ => by kernel_rfl) (fun _ _ _ _ => by kernel_rfl) fun R f v N K => by kernel_rfl
theorem walk_steps_tells : Tells Tryd.prog 17 walk_steps_m.c := walk_steps_m.tells Tryd.func17 (show ∀ p, arun walk_steps_env Tryd.f17 (walk_steps_m.enc p).1 (walk_steps_m.enc p).2 = _ from fun p => by kernel_rfl) (loopsL [loopOf 3 Tryd.f17] (by kernel_rfl) ⟨lpT (by kernel_rfl) walk_steps_l3_tells, trivial⟩) (.cons walk_walked_tells (.cons walk_directions_tells (.cons walk_rise_tells (.cons walk_pace_seconds_tells .nil)))) ⟨dir_seq, trivial⟩
noncomputable def walk_steps (m : SMine) : Option ((Sq Sstep)) := walk_steps_m.val m
theorem walk_steps_eq (m : SMine) : walk_steps m = (walk_steps_t m).get := walk_steps_m.val_eq (fun x => SMine.dec (aggL (gd x.1 0))) (fun p => by kernel_rfl) m

/-! (minecontrol/walk.cost).with -/
noncomputable def walk_cost_with_t (c : Scost) (s : Sstep) : DT (Scost) :=
 .leaf (Scost.mk (wr (c.time_ + s.time_)) (wr (c.roads_ + (1 : Int))))
noncomputable def walk_cost_with_m : FnM := flM (Scost × Sstep) (Scost) (fun p => ([.agg (Scost.enc p.1), .agg (Sstep.enc p.2)], [])) (fun p => walk_cost_with_t p.1 p.2) (fun r => .agg (Scost.enc r)) (fun _ => rfl)
noncomputable def walk_cost_with_env : Env := envM [] [] [] [] [] 0
theorem walk_cost_with_tells : Tells Tryd.prog 42 walk_cost_with_m.c := walk_cost_with_m.tells Tryd.func42 (show ∀ p, arun walk_cost_with_env Tryd.f42 (walk_cost_with_m.enc p).1 (walk_cost_with_m.enc p).2 = _ from fun p => by kernel_rfl) noLoops .nil
noncomputable def walk_cost_with (c : Scost) (s : Sstep) : Option (Scost) := walk_cost_with_m.val (c, s)
theorem walk_cost_with_eq (c : Scost) (s : Sstep) : walk_cost_with c s = (walk_cost_with_t c s).get := walk_cost_with_m.val_eq (fun x => (Scost.dec (aggL (gd x.1 0)), Sstep.dec (aggL (gd x.1 1)))) (fun p => by kernel_rfl) (c, s)

/-! (minecontrol/walk.cost).less -/
noncomputable def walk_cost_less_t (c d : Scost) : DT (Bool) :=
 .ite (decide (c.time_ < d.time_)) (
 .leaf true) (
 .ite (c.time_ == d.time_) (.leaf (decide (c.roads_ < d.roads_))) (.leaf false))
noncomputable def walk_cost_less_m : FnM := flM (Scost × Scost) (Bool) (fun p => ([.agg (Scost.enc p.1), .agg (Scost.enc p.2)], [])) (fun p => walk_cost_less_t p.1 p.2) (fun r => .bool r) (fun _ => rfl)
noncomputable def walk_cost_less_env : Env := envM [] [] [] [] [] 0
theorem walk_cost_less_tells : Tells Tryd.prog 43 walk_cost_less_m.c := walk_cost_less_m.tells Tryd.func43 (show ∀ p, arun walk_cost_less_env Tryd.f43 (walk_cost_less_m.enc p).1 (walk_cost_less_m.enc p).2 = _ from fun p => by kernel_rfl) noLoops .nil
noncomputable def walk_cost_less (c d : Scost) : Option (Bool) := walk_cost_less_m.val (c, d)
theorem walk_cost_less_eq (c d : Scost) : walk_cost_less c d = (walk_cost_less_t c d).get := walk_cost_less_m.val_eq (fun x => (Scost.dec (aggL (gd x.1 0)), Scost.dec (aggL (gd x.1 1)))) (fun p => by kernel_rfl) (c, d)

/-! minecontrol/walk.spread -/
noncomputable def walk_spread_l4_step (u4_3 : Sq Sstep) (_u4_6 _u4_7 : Int) (u4_2 : Sq Scost) (u4_4 : Bool) (u4_5 : Int) : DT (LR ((Sq Scost) × Bool × Int) (Bool × (Sq Scost)) (Unit)) :=
 .ite (decide (u4_5 < ((u4_3.n : Nat) : Int))) (
 .ite (decide ((0 : Int) ≤ u4_5 ∧ u4_5 < ((u4_3.n : Nat) : Int))) (
 .ite (decide ((0 : Int) ≤ (u4_3.f (Int.toNat u4_5)).from_ ∧ (u4_3.f (Int.toNat u4_5)).from_ < ((u4_2.n : Nat) : Int))) (
 .bind (walk_cost_with (u4_2.f (Int.toNat (u4_3.f (Int.toNat u4_5)).from_)) (u4_3.f (Int.toNat u4_5))) fun z0 =>
 .ite (decide ((0 : Int) ≤ (u4_3.f (Int.toNat u4_5)).to_ ∧ (u4_3.f (Int.toNat u4_5)).to_ < ((u4_2.n : Nat) : Int))) (
 .bind (walk_cost_less z0 (u4_2.f (Int.toNat (u4_3.f (Int.toNat u4_5)).to_))) fun z1 =>
 .ite z1 (
 .ite (decide ((0 : Int) ≤ (u4_3.f (Int.toNat u4_5)).to_ ∧ (u4_3.f (Int.toNat u4_5)).to_ < ((u4_2.n : Nat) : Int))) (
 .leaf (.next ((Sq.mk u4_2.n (fun k0 => (Scost.mk (cond (Nat.beq k0 (Int.toNat (u4_3.f (Int.toNat u4_5)).to_)) z0.time_ (u4_2.f k0).time_) (cond (Nat.beq k0 (Int.toNat (u4_3.f (Int.toNat u4_5)).to_)) z0.roads_ (u4_2.f k0).roads_)))), true, (wr (u4_5 + (1 : Int)))))) (
 .fail)) (
 .leaf (.next (u4_2, u4_4, (wr (u4_5 + (1 : Int))))))) (
 .fail)) (
 .fail)) (
 .fail)) (
 .leaf (.l (u4_4, u4_2)))
noncomputable def walk_spread_l4_m : LpM := ⟨(Sq Sstep) × Int × Int, (Sq Scost) × Bool × Int, Bool × (Sq Scost), Unit, fun p => ⟨[(0, .own 0 0), (1, .own 1 0), (4, .bool p.2.2.1), (9, .int .i64 p.1.2.2), (10, .int .i64 p.1.2.1), (12, .own 1 0), (13, .int .i64 ((p.1.1.n : Nat) : Int)), (14, .int .i64 p.2.2.2)], [(0, rowA 0 2 57 Scost.enc p.2.1), (1, rowA 0 4 75 Sstep.enc p.1.1)], 514⟩, fun f v => walk_spread_l4_step f.1 f.2.1 f.2.2 v.1 v.2.1 v.2.2, true, (.exit 2), (fun x a => ⟨[(0, .own 0 0), (1, .own 1 0), (4, .bool a.1), (9, aget x.tm 9), (10, aget x.tm 10)], [(0, rowA 0 2 57 Scost.enc a.2), (1, blkS x 1)], 514⟩), .ret, (fun _ _ => ⟨[], [], 0⟩), c1, c1k⟩
noncomputable def walk_spread_l4 (u4_3 : Sq Sstep) (u4_6 u4_7 : Int) (u4_2 : Sq Scost) (u4_4 : Bool) (u4_5 : Int) : Option ((Bool × (Sq Scost)) ⊕ (Unit)) := walk_spread_l4_m.val ((u4_3, u4_6, u4_7), (u4_2, u4_4, u4_5))
theorem walk_spread_l4_eq (u4_3 : Sq Sstep) (u4_6 u4_7 : Int) (u4_2 : Sq Scost) (u4_4 : Bool) (u4_5 : Int) : walk_spread_l4 u4_3 u4_6 u4_7 u4_2 u4_4 u4_5 = fixO (fun v : (Sq Scost) × Bool × Int => walk_spread_l4_step u4_3 u4_6 u4_7 v.1 v.2.1 v.2.2) (u4_2, u4_4, u4_5) := walk_spread_l4_m.val_eq (fun x => ((sqB Sstep.dec (blkS x 1), intA (aget x.tm 10), intA (aget x.tm 9)), (sqB Scost.dec (blkS x 0), boolA (aget x.tm 4), intA (aget x.tm 14)))) (fun p => by kernel_rfl) ((u4_3, u4_6, u4_7), (u4_2, u4_4, u4_5))
noncomputable def walk_spread_l1_step (u1_2 : Sq Sstep) (u1_4 : Int) (u1_1 : Sq Scost) (u1_3 : Int) : DT (LR ((Sq Scost) × Int) ((Sq Scost)) ((Sq Scost))) :=
 .ite (decide (u1_3 < u1_4)) (
 .sum (walk_spread_l4 u1_2 u1_3 u1_4 u1_1 false (0 : Int)) (fun y0 =>
 .ite (!y0.1) (
 .leaf (.r y0.2)) (
 .leaf (.next (y0.2, (wr (u1_3 + (1 : Int))))))) (fun _ => .fail)) (
 .leaf (.l u1_1))
noncomputable def walk_spread_l1_m : LpM := ⟨(Sq Sstep) × Int, (Sq Scost) × Int, (Sq Scost), (Sq Scost), fun p => ⟨[(0, .own 0 0), (1, .own 1 0), (9, .int .i64 p.1.2), (10, .int .i64 p.2.2)], [(0, rowA 0 2 57 Scost.enc p.2.1), (1, rowA 0 4 75 Sstep.enc p.1.1)], 194⟩, fun f v => walk_spread_l1_step f.1 f.2 v.1 v.2, false, (.exit 0), (fun x a => ⟨[], [(0, rowA 0 2 57 Scost.enc a), (1, blkS x 1)], 194⟩), .ret, (fun x a => ⟨[], [(0, rowA 0 2 57 Scost.enc a), (1, blkS x 1)], 194⟩), c1, c1k⟩
noncomputable def walk_spread_l1 (u1_2 : Sq Sstep) (u1_4 : Int) (u1_1 : Sq Scost) (u1_3 : Int) : Option (((Sq Scost)) ⊕ ((Sq Scost))) := walk_spread_l1_m.val ((u1_2, u1_4), (u1_1, u1_3))
theorem walk_spread_l1_eq (u1_2 : Sq Sstep) (u1_4 : Int) (u1_1 : Sq Scost) (u1_3 : Int) : walk_spread_l1 u1_2 u1_4 u1_1 u1_3 = fixO (fun v : (Sq Scost) × Int => walk_spread_l1_step u1_2 u1_4 v.1 v.2) (u1_1, u1_3) := walk_spread_l1_m.val_eq (fun x => ((sqB Sstep.dec (blkS x 1), intA (aget x.tm 9)), (sqB Scost.dec (blkS x 0), intA (aget x.tm 10)))) (fun p => by kernel_rfl) ((u1_2, u1_4), (u1_1, u1_3))
noncomputable def walk_spread_t (costs : Sq Scost) (l : Sq Sstep) : DT ((Sq Scost)) :=
 .sum (walk_spread_l1 l ((costs.n : Nat) : Int) costs (0 : Int)) (fun y1 =>
 .leaf y1) (fun y2 => .leaf y2)
noncomputable def walk_spread_m : FnM := nfM ((Sq Scost) × (Sq Sstep)) ((Sq Scost)) (fun p => ([.own 0 0, .own 1 0], [rowA 0 2 57 Scost.enc p.1, rowA 0 4 75 Sstep.enc p.2])) (fun p => walk_spread_t p.1 p.2) (fun _ => .tup []) (fun ins r => [rowA 0 2 57 Scost.enc r, dB ins 1])
noncomputable def walk_spread_env : Env := envM [(42, walk_cost_with_m.c), (43, walk_cost_less_m.c)] [(4, [0, 1, 4, 9, 10, 12, 13, 14], [0, 1, 4, 9, 10]), (1, [0, 1, 9, 10], [])] [(4, walk_spread_l4_m.c), (1, walk_spread_l1_m.c)] [] [(4, [0, 1]), (1, [0, 1])] 2
noncomputable def walk_spread_e : Env := { walk_spread_env with nt := 41 }
theorem walk_spread_l4_tells : LoopTells walk_spread_e (loopOf 4 Tryd.f32) walk_spread_l4_m.c := walk_spread_l4_m.tells 514 (fun _ => by kernel_rfl) (fun _ _ _ _ => by kernel_rfl) (fun _ _ _ _ => by kernel_rfl) fun R f v N K => by kernel_rfl
theorem walk_spread_l1_tells : LoopTells walk_spread_e (loopOf 1 Tryd.f32) walk_spread_l1_m.c := walk_spread_l1_m.tells 194 (fun _ => by kernel_rfl) (fun _ _ _ _ => by kernel_rfl) (fun _ _ _ _ => by kernel_rfl) fun R f v N K => by kernel_rfl
theorem walk_spread_tells : Tells Tryd.prog 32 walk_spread_m.c := walk_spread_m.tells Tryd.func32 (show ∀ p, arun walk_spread_env Tryd.f32 (walk_spread_m.enc p).1 (walk_spread_m.enc p).2 = _ from fun p => by kernel_rfl) (loopsL [loopOf 1 Tryd.f32, loopOf 4 Tryd.f32] (by kernel_rfl) ⟨lpT (by kernel_rfl) walk_spread_l1_tells, ⟨lpT (by kernel_rfl) walk_spread_l4_tells, trivial⟩⟩) (.cons walk_cost_with_tells (.cons walk_cost_less_tells .nil))
noncomputable def walk_spread (costs : Sq Scost) (l : Sq Sstep) : Option ((Sq Scost)) := walk_spread_m.val (costs, l)
theorem walk_spread_eq (costs : Sq Scost) (l : Sq Sstep) : walk_spread costs l = (walk_spread_t costs l).get := walk_spread_m.val_eq (fun x => (sqB Scost.dec (dB x.2 0), sqB Sstep.dec (dB x.2 1))) (fun p => by kernel_rfl) (costs, l)

/-! minecontrol/walk.costsTo -/
noncomputable def walk_costsTo_l3_step (_u3_0 : Int) (_u3_1 : Sq Sstep) (u3_2 : Int) (u3_3 : Sq Scost) (u3_4 : Int) : DT (LR ((Sq Scost) × Int) ((Sq Scost)) (Unit)) :=
 .ite (decide (u3_4 < u3_2)) (
 .ite (decide ((0 : Int) ≤ u3_4 ∧ u3_4 < ((u3_3.n : Nat) : Int))) (
 .leaf (.next ((Sq.mk u3_3.n (fun k0 => (Scost.mk (cond (Nat.beq k0 (Int.toNat u3_4)) (1099511627776 : Int) (u3_3.f k0).time_) (cond (Nat.beq k0 (Int.toNat u3_4)) (u3_3.f (Int.toNat u3_4)).roads_ (u3_3.f k0).roads_)))), (wr (u3_4 + (1 : Int)))))) (
 .fail)) (
 .leaf (.l u3_3))
noncomputable def walk_costsTo_l3_m : LpM := ⟨Int × (Sq Sstep) × Int, (Sq Scost) × Int, (Sq Scost), Unit, fun p => ⟨[(1, .int .i64 p.1.1), (2, sqA 4 Sstep.enc p.1.2.1), (7, .own 320 0), (17, .int .i64 p.1.2.2), (18, .int .i64 p.2.2)], [(320, rowA 0 2 57 Scost.enc p.2.1)], 640⟩, fun f v => walk_costsTo_l3_step f.1 f.2.1 f.2.2 v.1 v.2, true, (.exit 0), (fun x a => ⟨[(1, aget x.tm 1), (2, aget x.tm 2), (7, .own 320 0)], [(320, rowA 0 2 57 Scost.enc a)], 640⟩), .ret, (fun _ _ => ⟨[], [], 0⟩), c1, c1k⟩
noncomputable def walk_costsTo_l3 (u3_0 : Int) (u3_1 : Sq Sstep) (u3_2 : Int) (u3_3 : Sq Scost) (u3_4 : Int) : Option (((Sq Scost)) ⊕ (Unit)) := walk_costsTo_l3_m.val ((u3_0, u3_1, u3_2), (u3_3, u3_4))
theorem walk_costsTo_l3_eq (u3_0 : Int) (u3_1 : Sq Sstep) (u3_2 : Int) (u3_3 : Sq Scost) (u3_4 : Int) : walk_costsTo_l3 u3_0 u3_1 u3_2 u3_3 u3_4 = fixO (fun v : (Sq Scost) × Int => walk_costsTo_l3_step u3_0 u3_1 u3_2 v.1 v.2) (u3_3, u3_4) := walk_costsTo_l3_m.val_eq (fun x => ((intA (aget x.tm 1), sqD Sstep.dec (aget x.tm 2), intA (aget x.tm 17)), (sqB Scost.dec (blkS x 320), intA (aget x.tm 18)))) (fun p => by kernel_rfl) ((u3_0, u3_1, u3_2), (u3_3, u3_4))
noncomputable def walk_costsTo_l10_step (u10_0 : Sq Sstep) (_u10_2 : Sq Scost) (u10_3 : Sq Sstep) (u10_4 : Int) : DT (LR ((Sq Sstep) × Int) ((Sq Sstep)) (Unit)) :=
 .ite (decide (u10_4 < ((u10_0.n : Nat) : Int))) (
 .ite (decide ((0 : Int) ≤ u10_4 ∧ u10_4 < ((u10_0.n : Nat) : Int))) (
 .ite (decide ((0 : Int) ≤ u10_4 ∧ u10_4 < ((u10_3.n : Nat) : Int))) (
 .leaf (.next ((Sq.mk u10_3.n (fun k1 => (Sstep.mk (cond (Nat.beq k1 (Int.toNat u10_4)) (u10_0.f (Int.toNat u10_4)).road_ (u10_3.f k1).road_) (cond (Nat.beq k1 (Int.toNat u10_4)) (u10_0.f (Int.toNat u10_4)).to_ (u10_3.f k1).from_) (cond (Nat.beq k1 (Int.toNat u10_4)) (u10_0.f (Int.toNat u10_4)).from_ (u10_3.f k1).to_) (cond (Nat.beq k1 (Int.toNat u10_4)) (u10_0.f (Int.toNat u10_4)).time_ (u10_3.f k1).time_)))), (wr (u10_4 + (1 : Int)))))) (
 .fail)) (
 .fail)) (
 .leaf (.l u10_3))
noncomputable def walk_costsTo_l10_m : LpM := ⟨(Sq Sstep) × (Sq Scost), (Sq Sstep) × Int, (Sq Sstep), Unit, fun p => ⟨[(7, .own 320 0), (9, .own 1088 0), (33, sqA 4 Sstep.enc p.1.1), (34, .int .i64 ((p.1.1.n : Nat) : Int)), (35, .int .i64 p.2.2)], [(320, rowA 0 2 57 Scost.enc p.1.2), (1088, rowA 0 4 75 Sstep.enc p.2.1)], 1408⟩, fun f v => walk_costsTo_l10_step f.1 f.2 v.1 v.2, true, (.exit 2), (fun x a => ⟨[(7, .own 320 0), (9, .own 1088 0)], [(320, blkS x 320), (1088, rowA 0 4 75 Sstep.enc a)], 1408⟩), .ret, (fun _ _ => ⟨[], [], 0⟩), c1, c1k⟩
noncomputable def walk_costsTo_l10 (u10_0 : Sq Sstep) (u10_2 : Sq Scost) (u10_3 : Sq Sstep) (u10_4 : Int) : Option (((Sq Sstep)) ⊕ (Unit)) := walk_costsTo_l10_m.val ((u10_0, u10_2), (u10_3, u10_4))
theorem walk_costsTo_l10_eq (u10_0 : Sq Sstep) (u10_2 : Sq Scost) (u10_3 : Sq Sstep) (u10_4 : Int) : walk_costsTo_l10 u10_0 u10_2 u10_3 u10_4 = fixO (fun v : (Sq Sstep) × Int => walk_costsTo_l10_step u10_0 u10_2 v.1 v.2) (u10_3, u10_4) := walk_costsTo_l10_m.val_eq (fun x => ((sqD Sstep.dec (aget x.tm 33), sqB Scost.dec (blkS x 320)), (sqB Sstep.dec (blkS x 1088), intA (aget x.tm 35)))) (fun p => by kernel_rfl) ((u10_0, u10_2), (u10_3, u10_4))
noncomputable def walk_costsTo_t (m : SMine) (to_ : Int) (l : Sq Sstep) : DT ((Sq Scost)) :=
 .ite (decide ((0 : Int) ≤ ((m.Places.n : Nat) : Int) ∧ ((m.Places.n : Nat) : Int) ≤ ((m.Places.n : Nat) : Int) ∧ ((m.Places.n : Nat) : Int) * ((16 : Nat) : Int) ≤ 140737488355328 ∧ ((m.Places.n : Nat) : Int) ≤ 1099511627776)) (
 .sum (walk_costsTo_l3 to_ l (((Int.toNat ((m.Places.n : Nat) : Int)) : Nat) : Int) (Sq.mk (Int.toNat ((m.Places.n : Nat) : Int)) (fun _ => (Scost.mk (0 : Int) (0 : Int)))) (0 : Int)) (fun y0 =>
 .ite (decide ((0 : Int) ≤ to_ ∧ to_ < ((y0.n : Nat) : Int))) (
 .ite (decide ((0 : Int) ≤ ((l.n : Nat) : Int) ∧ ((l.n : Nat) : Int) ≤ ((l.n : Nat) : Int) ∧ ((l.n : Nat) : Int) * ((32 : Nat) : Int) ≤ 140737488355328 ∧ ((l.n : Nat) : Int) ≤ 1099511627776)) (
 .sum (walk_costsTo_l10 l (Sq.mk y0.n (fun k2 => (Scost.mk (cond (Nat.beq k2 (Int.toNat to_)) (0 : Int) (y0.f k2).time_) (cond (Nat.beq k2 (Int.toNat to_)) (0 : Int) (y0.f k2).roads_)))) (Sq.mk (Int.toNat ((l.n : Nat) : Int)) (fun _ => (Sstep.mk (0 : Int) (0 : Int) (0 : Int) (0 : Int)))) (0 : Int)) (fun y1 =>
 .bind (walk_spread (Sq.mk y0.n (fun k2 => (Scost.mk (cond (Nat.beq k2 (Int.toNat to_)) (0 : Int) (y0.f k2).time_) (cond (Nat.beq k2 (Int.toNat to_)) (0 : Int) (y0.f k2).roads_)))) y1) fun z0 =>
 .leaf z0) (fun _ => .fail)) (
 .fail)) (
 .fail)) (fun _ => .fail)) (
 .fail)
noncomputable def walk_costsTo_m : FnM := nfM (SMine × Int × (Sq Sstep)) ((Sq Scost)) (fun p => ([.agg (SMine.enc p.1), .int .i64 p.2.1, sqA 4 Sstep.enc p.2.2], [])) (fun p => walk_costsTo_t p.1 p.2.1 p.2.2) (fun _ => .own 0 0) (fun _ r => [rowA 0 2 57 Scost.enc r])
noncomputable def walk_costsTo_env : Env := envM [(32, walk_spread_m.c)] [(3, [1, 2, 7, 17, 18], [1, 2, 7]), (10, [7, 9, 33, 34, 35], [7, 9]), (2000032, [], [])] [(3, walk_costsTo_l3_m.c), (10, walk_costsTo_l10_m.c)] [] [(3, [320]), (10, [320, 1088])] 0
noncomputable def walk_costsTo_e : Env := { walk_costsTo_env with nt := 57 }
theorem walk_costsTo_l3_tells : LoopTells walk_costsTo_e (loopOf 3 Tryd.f18) walk_costsTo_l3_m.c := walk_costsTo_l3_m.tells 640 (fun _ => by kernel_rfl) (fun _ _ _ _ => by kernel_rfl) (fun _ _ _ _ => by kernel_rfl) fun R f v N K => by kernel_rfl
theorem walk_costsTo_l10_tells : LoopTells walk_costsTo_e (loopOf 10 Tryd.f18) walk_costsTo_l10_m.c := walk_costsTo_l10_m.tells 1408 (fun _ => by kernel_rfl) (fun _ _ _ _ => by kernel_rfl) (fun _ _ _ _ => by kernel_rfl) fun R f v N K => by kernel_rfl
theorem walk_costsTo_tells : Tells Tryd.prog 18 walk_costsTo_m.c := walk_costsTo_m.tells Tryd.func18 (show ∀ p, arun walk_costsTo_env Tryd.f18 (walk_costsTo_m.enc p).1 (walk_costsTo_m.enc p).2 = _ from fun p => by kernel_rfl) (loopsL [loopOf 3 Tryd.f18, loopOf 10 Tryd.f18] (by kernel_rfl) ⟨lpT (by kernel_rfl) walk_costsTo_l3_tells, ⟨lpT (by kernel_rfl) walk_costsTo_l10_tells, trivial⟩⟩) (.cons walk_spread_tells .nil)
noncomputable def walk_costsTo (m : SMine) (to_ : Int) (l : Sq Sstep) : Option ((Sq Scost)) := walk_costsTo_m.val (m, to_, l)
theorem walk_costsTo_eq (m : SMine) (to_ : Int) (l : Sq Sstep) : walk_costsTo m to_ l = (walk_costsTo_t m to_ l).get := walk_costsTo_m.val_eq (fun x => (SMine.dec (aggL (gd x.1 0)), intA (gd x.1 1), sqD Sstep.dec (gd x.1 2))) (fun p => by kernel_rfl) (m, to_, l)

/-! minecontrol/walk.next -/
noncomputable def walk_next_l2_step (u2_0 : Sq Scost) (u2_1 : Int) (u2_2 : Sq Sstep) (u2_4 : Int) : DT (LR (Int) (Unit) (Int × Int × Int × Int)) :=
 .ite (decide (u2_4 < ((u2_2.n : Nat) : Int))) (
 .ite (decide ((0 : Int) ≤ u2_4 ∧ u2_4 < ((u2_2.n : Nat) : Int))) (
 .ite ((u2_2.f (Int.toNat u2_4)).from_ == u2_1) (
 .ite (decide ((0 : Int) ≤ (u2_2.f (Int.toNat u2_4)).to_ ∧ (u2_2.f (Int.toNat u2_4)).to_ < ((u2_0.n : Nat) : Int))) (
 .bind (walk_cost_with (u2_0.f (Int.toNat (u2_2.f (Int.toNat u2_4)).to_)) (u2_2.f (Int.toNat u2_4))) fun z0 =>
 .ite (decide ((0 : Int) ≤ u2_1 ∧ u2_1 < ((u2_0.n : Nat) : Int))) (
 .ite ((z0.time_ == (u2_0.f (Int.toNat u2_1)).time_) && ((z0.roads_ == (u2_0.f (Int.toNat u2_1)).roads_) && true)) (
 .leaf (.r ((u2_2.f (Int.toNat u2_4)).road_, (u2_2.f (Int.toNat u2_4)).from_, (u2_2.f (Int.toNat u2_4)).to_, (u2_2.f (Int.toNat u2_4)).time_))) (
 .leaf (.next (wr (u2_4 + (1 : Int)))))) (
 .fail)) (
 .fail)) (
 .leaf (.next (wr (u2_4 + (1 : Int)))))) (
 .fail)) (
 .leaf (.l ()))
noncomputable def walk_next_l2_m : LpM := ⟨(Sq Scost) × Int × (Sq Sstep), Int, Unit, Int × Int × Int × Int, fun p => ⟨[(0, sqA 2 Scost.enc p.1.1), (1, .int .i64 p.1.2.1), (6, .ptr 0 0), (9, sqA 4 Sstep.enc p.1.2.2), (10, .int .i64 ((p.1.2.2.n : Nat) : Int)), (11, .int .i64 p.2)], [(0, .var [.int .i64 (0 : Int), .int .i64 (0 : Int), .int .i64 (0 : Int), .int .i64 (0 : Int)])], 256⟩, fun f v => walk_next_l2_step f.1 f.2.1 f.2.2 v, false, (.exit 0), (fun x _ => ⟨[(1, aget x.tm 1), (6, .ptr 0 0)], [(0, .var [.int .i64 (0 : Int), .int .i64 (0 : Int), .int .i64 (0 : Int), .int .i64 (0 : Int)])], 256⟩), .ret, (fun x a => ⟨[(1, aget x.tm 1), (6, .ptr 0 0)], [(0, .var [.int .i64 a.1, .int .i64 a.2.1, .int .i64 a.2.2.1, .int .i64 a.2.2.2])], 256⟩), c1, c1k⟩
noncomputable def walk_next_l2 (u2_0 : Sq Scost) (u2_1 : Int) (u2_2 : Sq Sstep) (u2_4 : Int) : Option ((Unit) ⊕ (Int × Int × Int × Int)) := walk_next_l2_m.val ((u2_0, u2_1, u2_2), u2_4)
theorem walk_next_l2_eq (u2_0 : Sq Scost) (u2_1 : Int) (u2_2 : Sq Sstep) (u2_4 : Int) : walk_next_l2 u2_0 u2_1 u2_2 u2_4 = fixO (fun v : Int => walk_next_l2_step u2_0 u2_1 u2_2 v) u2_4 := walk_next_l2_m.val_eq (fun x => ((sqD Scost.dec (aget x.tm 0), intA (aget x.tm 1), sqD Sstep.dec (aget x.tm 9)), intA (aget x.tm 11))) (fun p => by kernel_rfl) ((u2_0, u2_1, u2_2), u2_4)
noncomputable def walk_next_t (left : Sq Scost) (place : Int) (l : Sq Sstep) : DT (Sstep) :=
 .sum (walk_next_l2 left place l (0 : Int)) (fun _ =>
 .leaf (Sstep.mk (-1 : Int) place place (0 : Int))) (fun y0 => .leaf (Sstep.mk y0.1 y0.2.1 y0.2.2.1 y0.2.2.2))
noncomputable def walk_next_m : FnM := flM ((Sq Scost) × Int × (Sq Sstep)) (Sstep) (fun p => ([sqA 2 Scost.enc p.1, .int .i64 p.2.1, sqA 4 Sstep.enc p.2.2], [])) (fun p => walk_next_t p.1 p.2.1 p.2.2) (fun r => .agg (Sstep.enc r)) (fun _ => rfl)
noncomputable def walk_next_env : Env := envM [(42, walk_cost_with_m.c)] [(2, [0, 1, 6, 9, 10, 11], [1, 6])] [(2, walk_next_l2_m.c)] [] [(2, [0])] 0
noncomputable def walk_next_e : Env := { walk_next_env with nt := 38 }
theorem walk_next_l2_tells : LoopTells walk_next_e (loopOf 2 Tryd.f33) walk_next_l2_m.c := walk_next_l2_m.tells 256 (fun _ => by kernel_rfl) (fun _ _ _ _ => by kernel_rfl) (fun _ _ _ _ => by kernel_rfl) fun R f v N K => by kernel_rfl
theorem walk_next_tells : Tells Tryd.prog 33 walk_next_m.c := walk_next_m.tells Tryd.func33 (show ∀ p, arun walk_next_env Tryd.f33 (walk_next_m.enc p).1 (walk_next_m.enc p).2 = _ from fun p => by kernel_rfl) (loopsL [loopOf 2 Tryd.f33] (by kernel_rfl) ⟨lpT (by kernel_rfl) walk_next_l2_tells, trivial⟩) (.cons walk_cost_with_tells .nil)
noncomputable def walk_next (left : Sq Scost) (place : Int) (l : Sq Sstep) : Option (Sstep) := walk_next_m.val (left, place, l)
theorem walk_next_eq (left : Sq Scost) (place : Int) (l : Sq Sstep) : walk_next left place l = (walk_next_t left place l).get := walk_next_m.val_eq (fun x => (sqD Scost.dec (gd x.1 0), intA (gd x.1 1), sqD Sstep.dec (gd x.1 2))) (fun p => by kernel_rfl) (left, place, l)

/-! minecontrol/walk.follow -/
noncomputable def walk_follow_l3_step (u3_0 : Sq Scost) (u3_2 : Sq Sstep) (u3_3 u3_1 : Int) (u3_4 : Sq Int) (u3_5 : Int) : DT (LR (Int × (Sq Int) × Int) ((Sq Int)) (Unit)) :=
 .ite (decide (u3_5 < u3_3)) (
 .bind (walk_next u3_0 u3_1 u3_2) fun z0 =>
 .ite (decide ((u3_4.n + 1) * 8 ≤ 140737488355328 ∧ (u3_4.n + 1) ≤ 1099511627776)) (
 .leaf (.next (z0.to_, (Sq.mk (u3_4.n + 1) (fun k0 => (cond (Nat.blt k0 u3_4.n) (u3_4.f k0) z0.road_))), (wr (u3_5 + (1 : Int)))))) (
 .fail)) (
 .leaf (.l u3_4))
noncomputable def walk_follow_l3_m : LpM := ⟨(Sq Scost) × (Sq Sstep) × Int, Int × (Sq Int) × Int, (Sq Int), Unit, fun p => ⟨[(0, sqA 2 Scost.enc p.1.1), (1, .int .i64 p.2.1), (2, sqA 4 Sstep.enc p.1.2.1), (7, .own 64 0), (13, .int .i64 p.1.2.2), (14, .int .i64 p.2.2.2)], [(64, rowA 0 1 3 (eI .i64) p.2.2.1)], 512⟩, fun f v => walk_follow_l3_step f.1 f.2.1 f.2.2 v.1 v.2.1 v.2.2, true, (.exit 0), (fun _ a => ⟨[(7, .own 64 0)], [(64, rowA 0 1 3 (eI .i64) a)], 512⟩), .ret, (fun _ _ => ⟨[], [], 0⟩), c1, c1k⟩
noncomputable def walk_follow_l3 (u3_0 : Sq Scost) (u3_2 : Sq Sstep) (u3_3 u3_1 : Int) (u3_4 : Sq Int) (u3_5 : Int) : Option (((Sq Int)) ⊕ (Unit)) := walk_follow_l3_m.val ((u3_0, u3_2, u3_3), (u3_1, u3_4, u3_5))
theorem walk_follow_l3_eq (u3_0 : Sq Scost) (u3_2 : Sq Sstep) (u3_3 u3_1 : Int) (u3_4 : Sq Int) (u3_5 : Int) : walk_follow_l3 u3_0 u3_2 u3_3 u3_1 u3_4 u3_5 = fixO (fun v : Int × (Sq Int) × Int => walk_follow_l3_step u3_0 u3_2 u3_3 v.1 v.2.1 v.2.2) (u3_1, u3_4, u3_5) := walk_follow_l3_m.val_eq (fun x => ((sqD Scost.dec (aget x.tm 0), sqD Sstep.dec (aget x.tm 2), intA (aget x.tm 13)), (intA (aget x.tm 1), sqB dI (blkS x 64), intA (aget x.tm 14)))) (fun p => by kernel_rfl) ((u3_0, u3_2, u3_3), (u3_1, u3_4, u3_5))
noncomputable def walk_follow_t (left : Sq Scost) (place : Int) (l : Sq Sstep) : DT ((Sq Int)) :=
 .ite (decide ((0 : Int) ≤ place ∧ place < ((left.n : Nat) : Int))) (
 .sum (walk_follow_l3 left l (left.f (Int.toNat place)).roads_ place (Sq.mk 0 (fun _ => (0 : Int))) (0 : Int)) (fun y0 =>
 .leaf y0) (fun _ => .fail)) (
 .fail)
noncomputable def walk_follow_m : FnM := nfM ((Sq Scost) × Int × (Sq Sstep)) ((Sq Int)) (fun p => ([sqA 2 Scost.enc p.1, .int .i64 p.2.1, sqA 4 Sstep.enc p.2.2], [])) (fun p => walk_follow_t p.1 p.2.1 p.2.2) (fun _ => .own 0 0) (fun _ r => [rowA 0 1 3 (eI .i64) r])
noncomputable def walk_follow_env : Env := envM [(33, walk_next_m.c)] [(3, [0, 1, 2, 7, 13, 14], [7])] [(3, walk_follow_l3_m.c)] [(1000003, [.asrow 64 3 1 (fun _ => (eI .i64) (0 : Int))])] [(3, [64])] 0
noncomputable def walk_follow_e : Env := { walk_follow_env with nt := 29 }
theorem walk_follow_l3_tells : LoopTells walk_follow_e (loopOf 3 Tryd.f19) walk_follow_l3_m.c := walk_follow_l3_m.tells 512 (fun _ => by kernel_rfl) (fun _ _ _ _ => by kernel_rfl) (fun _ _ _ _ => by kernel_rfl) fun R f v N K => by kernel_rfl
theorem walk_follow_tells : Tells Tryd.prog 19 walk_follow_m.c := walk_follow_m.tells Tryd.func19 (show ∀ p, arun walk_follow_env Tryd.f19 (walk_follow_m.enc p).1 (walk_follow_m.enc p).2 = _ from fun p => by kernel_rfl) (loopsL [loopOf 3 Tryd.f19] (by kernel_rfl) ⟨lpT (by kernel_rfl) walk_follow_l3_tells, trivial⟩) (.cons walk_next_tells .nil)
noncomputable def walk_follow (left : Sq Scost) (place : Int) (l : Sq Sstep) : Option ((Sq Int)) := walk_follow_m.val (left, place, l)
theorem walk_follow_eq (left : Sq Scost) (place : Int) (l : Sq Sstep) : walk_follow left place l = (walk_follow_t left place l).get := walk_follow_m.val_eq (fun x => (sqD Scost.dec (gd x.1 0), intA (gd x.1 1), sqD Sstep.dec (gd x.1 2))) (fun p => by kernel_rfl) (left, place, l)

/-! minecontrol/walk.Way -/
noncomputable def walk_Way_t (m : SMine) (from_ to_ : Int) : DT ((Sq Int) × Int × Bool) :=
 .bind (plan_Valid m) fun z0 =>
 .ite (!z0) (
 .leaf ((Sq.mk 0 (fun _ => (0 : Int))), (0 : Int), false)) (
 .bind (walk_hasPlace m from_) fun z1 =>
 .ite (!z1) (
 .leaf ((Sq.mk 0 (fun _ => (0 : Int))), (0 : Int), false)) (
 .bind (walk_hasPlace m to_) fun z2 =>
 .ite (!z2) (
 .leaf ((Sq.mk 0 (fun _ => (0 : Int))), (0 : Int), false)) (
 .bind (walk_steps m) fun z3 =>
 .bind (walk_costsTo m to_ z3) fun z4 =>
 .ite (decide ((0 : Int) ≤ from_ ∧ from_ < ((z4.n : Nat) : Int))) (
 .ite (((z4.f (Int.toNat from_)).time_ == (1099511627776 : Int)) && (((z4.f (Int.toNat from_)).roads_ == (0 : Int)) && true)) (
 .leaf ((Sq.mk 0 (fun _ => (0 : Int))), (0 : Int), false)) (
 .bind (walk_follow z4 from_ z3) fun z5 =>
 .ite (decide ((0 : Int) ≤ from_ ∧ from_ < ((z4.n : Nat) : Int))) (.leaf (z5, (z4.f (Int.toNat from_)).time_, true)) (.fail))) (
 .fail))))
noncomputable def walk_Way_m : FnM := nfM (SMine × Int × Int) ((Sq Int) × Int × Bool) (fun p => ([.agg (SMine.enc p.1), .int .i64 p.2.1, .int .i64 p.2.2], [])) (fun p => walk_Way_t p.1 p.2.1 p.2.2) (fun r => .tup [.own 0 0, .int .i64 r.2.1, .bool r.2.2]) (fun _ r => [rowA 0 1 3 (eI .i64) r.1])
noncomputable def walk_Way_env : Env := envM [(15, plan_Valid_m.c), (16, walk_hasPlace_m.c), (17, walk_steps_m.c), (18, walk_costsTo_m.c), (19, walk_follow_m.c)] [] [] [(4, [.freeze 1472]), (7, [.freeze 1792]), (2000000, [.asrow 1216 3 1 (fun _ => (eI .i64) (0 : Int)), .asrow 2304 3 1 (fun _ => (eI .i64) (0 : Int))])] [] 0
theorem walk_Way_tells : Tells Tryd.prog 7 walk_Way_m.c := walk_Way_m.tells Tryd.func7 (show ∀ p, arun walk_Way_env Tryd.f7 (walk_Way_m.enc p).1 (walk_Way_m.enc p).2 = _ from fun p => by kernel_rfl) noLoops (.cons plan_Valid_tells (.cons walk_hasPlace_tells (.cons walk_steps_tells (.cons walk_costsTo_tells (.cons walk_follow_tells .nil)))))
noncomputable def walk_Way (m : SMine) (from_ to_ : Int) : Option ((Sq Int) × Int × Bool) := walk_Way_m.val (m, from_, to_)
theorem walk_Way_eq (m : SMine) (from_ to_ : Int) : walk_Way m from_ to_ = (walk_Way_t m from_ to_).get := walk_Way_m.val_eq (fun x => (SMine.dec (aggL (gd x.1 0)), intA (gd x.1 1), intA (gd x.1 2))) (fun p => by kernel_rfl) (m, from_, to_)

/-! minecontrol/minecontrolref01.Span -/
noncomputable def ref01_Span_t (s : SSpan) (low high : Int) : DT (Bool) :=
 .ite (decide (low ≤ s.Low)) (
 .ite (decide (s.Low ≤ s.High)) (.leaf (decide (s.High ≤ high))) (.leaf false)) (
 .leaf false)
noncomputable def ref01_Span_m : FnM := flM (SSpan × Int × Int) (Bool) (fun p => ([.agg (SSpan.enc p.1), .int .i64 p.2.1, .int .i64 p.2.2], [])) (fun p => ref01_Span_t p.1 p.2.1 p.2.2) (fun r => .bool r) (fun _ => rfl)
noncomputable def ref01_Span_env : Env := envM [] [] [] [] [] 0
theorem ref01_Span_tells : Tells Tryd.prog 34 ref01_Span_m.c := ref01_Span_m.tells Tryd.func34 (show ∀ p, arun ref01_Span_env Tryd.f34 (ref01_Span_m.enc p).1 (ref01_Span_m.enc p).2 = _ from fun p => by kernel_rfl) noLoops .nil
noncomputable def ref01_Span (s : SSpan) (low high : Int) : Option (Bool) := ref01_Span_m.val (s, low, high)
theorem ref01_Span_eq (s : SSpan) (low high : Int) : ref01_Span s low high = (ref01_Span_t s low high).get := ref01_Span_m.val_eq (fun x => (SSpan.dec (aggL (gd x.1 0)), intA (gd x.1 1), intA (gd x.1 2))) (fun p => by kernel_rfl) (s, low, high)

/-! minecontrol/minecontrolref01.Check -/
noncomputable def ref01_Check_l4_step (u4_0 : Sq SPlace) (_u4_1 : Sq SRoad) (u4_2 : Int) : DT (LR (Int) (Unit) (Unit)) :=
 .ite (decide (u4_2 < ((u4_0.n : Nat) : Int))) (
 .ite (decide ((0 : Int) ≤ u4_2 ∧ u4_2 < ((u4_0.n : Nat) : Int))) (
 .ite (decide ((u4_0.f (Int.toNat u4_2)).Height < (-10000 : Int))) (
 .leaf (.r ())) (
 .ite (decide ((u4_0.f (Int.toNat u4_2)).Height > (10000 : Int))) (
 .leaf (.r ())) (
 .leaf (.next (wr (u4_2 + (1 : Int))))))) (
 .fail)) (
 .leaf (.l ()))
noncomputable def ref01_Check_l4_m : LpM := ⟨(Sq SPlace) × (Sq SRoad), Int, Unit, Unit, fun p => ⟨[(1, .ptr 0 0), (3, .int .i64 p.2)], [(0, .var [sqA 2 SPlace.enc p.1.1, sqA 10 SRoad.enc p.1.2])], 896⟩, fun f v => ref01_Check_l4_step f.1 f.2 v, false, (.exit 0), (fun x _ => ⟨[(1, .ptr 0 0), (2, .undef)], [(0, blkS x 0)], 896⟩), .ret, (fun x _ => ⟨[(1, .ptr 0 0), (2, .int .i64 (1 : Int))], [(0, blkS x 0)], 896⟩), c1, c1k⟩
noncomputable def ref01_Check_l4 (u4_0 : Sq SPlace) (u4_1 : Sq SRoad) (u4_2 : Int) : Option ((Unit) ⊕ (Unit)) := ref01_Check_l4_m.val ((u4_0, u4_1), u4_2)
theorem ref01_Check_l4_eq (u4_0 : Sq SPlace) (u4_1 : Sq SRoad) (u4_2 : Int) : ref01_Check_l4 u4_0 u4_1 u4_2 = fixO (fun v : Int => ref01_Check_l4_step u4_0 u4_1 v) u4_2 := ref01_Check_l4_m.val_eq (fun x => ((sqD SPlace.dec (cellS x 0 0), sqD SRoad.dec (cellS x 0 1)), intA (aget x.tm 3))) (fun p => by kernel_rfl) ((u4_0, u4_1), u4_2)
noncomputable def ref01_Check_l10_step (u10_0 : Sq SPlace) (u10_1 : Sq SRoad) (u10_2 : Int) : DT (LR (Int) (Unit) (Int)) :=
 .ite (decide (u10_2 < ((u10_1.n : Nat) : Int))) (
 .ite (decide ((0 : Int) ≤ u10_2 ∧ u10_2 < ((u10_1.n : Nat) : Int))) (
 .ite (decide ((u10_1.f (Int.toNat u10_2)).From < (0 : Int))) (
 .leaf (.r (4 : Int))) (
 .ite (decide ((u10_1.f (Int.toNat u10_2)).From ≥ ((u10_0.n : Nat) : Int))) (
 .leaf (.r (4 : Int))) (
 .ite (decide ((u10_1.f (Int.toNat u10_2)).To < (0 : Int))) (
 .leaf (.r (4 : Int))) (
 .ite (decide ((u10_1.f (Int.toNat u10_2)).To ≥ ((u10_0.n : Nat) : Int))) (
 .leaf (.r (4 : Int))) (
 .ite ((u10_1.f (Int.toNat u10_2)).From == (u10_1.f (Int.toNat u10_2)).To) (
 .leaf (.r (4 : Int))) (
 .ite (decide ((u10_1.f (Int.toNat u10_2)).Length < (1 : Int))) (
 .leaf (.r (1 : Int))) (
 .ite (decide ((u10_1.f (Int.toNat u10_2)).Length > (100000 : Int))) (
 .leaf (.r (1 : Int))) (
 .ite (decide ((u10_1.f (Int.toNat u10_2)).Area < (1 : Int))) (
 .leaf (.r (1 : Int))) (
 .ite (decide ((u10_1.f (Int.toNat u10_2)).Area > (1000 : Int))) (
 .leaf (.r (1 : Int))) (
 .bind (ref01_Span (u10_1.f (Int.toNat u10_2)).Rest (1 : Int) (262144 : Int)) fun z0 =>
 .ite (!z0) (
 .leaf (.r (1 : Int))) (
 .bind (ref01_Span (u10_1.f (Int.toNat u10_2)).Lift (-2199023255552 : Int) (2199023255552 : Int)) fun z1 =>
 .ite (!z1) (
 .leaf (.r (1 : Int))) (
 .leaf (.next (wr (u10_2 + (1 : Int)))))))))))))))) (
 .fail)) (
 .leaf (.l ()))
noncomputable def ref01_Check_l10_m : LpM := ⟨(Sq SPlace) × (Sq SRoad), Int, Unit, Int, fun p => ⟨[(1, .ptr 0 0), (5, .int .i64 p.2)], [(0, .var [sqA 2 SPlace.enc p.1.1, sqA 10 SRoad.enc p.1.2])], 960⟩, fun f v => ref01_Check_l10_step f.1 f.2 v, false, (.exit 2), (fun x _ => ⟨[(2, .undef)], [(0, blkS x 0)], 960⟩), .ret, (fun x a => ⟨[(2, .int .i64 a)], [(0, blkS x 0)], 960⟩), c1, c1k⟩
noncomputable def ref01_Check_l10 (u10_0 : Sq SPlace) (u10_1 : Sq SRoad) (u10_2 : Int) : Option ((Unit) ⊕ (Int)) := ref01_Check_l10_m.val ((u10_0, u10_1), u10_2)
theorem ref01_Check_l10_eq (u10_0 : Sq SPlace) (u10_1 : Sq SRoad) (u10_2 : Int) : ref01_Check_l10 u10_0 u10_1 u10_2 = fixO (fun v : Int => ref01_Check_l10_step u10_0 u10_1 v) u10_2 := ref01_Check_l10_m.val_eq (fun x => ((sqD SPlace.dec (cellS x 0 0), sqD SRoad.dec (cellS x 0 1)), intA (aget x.tm 5))) (fun p => by kernel_rfl) ((u10_0, u10_1), u10_2)
noncomputable def ref01_Check_t (m : SMine) : DT (Int) :=
 .ite (decide (((m.Places.n : Nat) : Int) > (64 : Int))) (
 .leaf (2 : Int)) (
 .ite (decide (((m.Roads.n : Nat) : Int) > (128 : Int))) (
 .leaf (2 : Int)) (
 .sum (ref01_Check_l4 m.Places m.Roads (0 : Int)) (fun _ =>
 .sum (ref01_Check_l10 m.Places m.Roads (0 : Int)) (fun _ =>
 .leaf (0 : Int)) (fun y0 => .leaf y0)) (fun _ => .leaf (1 : Int))))
noncomputable def ref01_Check_m : FnM := flM (SMine) (Int) (fun p => ([.agg (SMine.enc p)], [])) (fun p => ref01_Check_t p) (fun r => .int .i64 r) (fun _ => rfl)
noncomputable def ref01_Check_env : Env := envM [(34, ref01_Span_m.c)] [(4, [1, 3], [1, 2]), (10, [1, 5], [2])] [(4, ref01_Check_l4_m.c), (10, ref01_Check_l10_m.c)] [] [(4, [0]), (10, [0])] 0
noncomputable def ref01_Check_e : Env := { ref01_Check_env with nt := 109 }
theorem ref01_Check_l4_tells : LoopTells ref01_Check_e (loopOf 4 Tryd.f20) ref01_Check_l4_m.c := ref01_Check_l4_m.tells 896 (fun _ => by kernel_rfl) (fun _ _ _ _ => by kernel_rfl) (fun _ _ _ _ => by kernel_rfl) fun R f v N K => by kernel_rfl
theorem ref01_Check_l10_tells : LoopTells ref01_Check_e (loopOf 10 Tryd.f20) ref01_Check_l10_m.c := ref01_Check_l10_m.tells 960 (fun _ => by kernel_rfl) (fun _ _ _ _ => by kernel_rfl) (fun _ _ _ _ => by kernel_rfl) fun R f v N K => by kernel_rfl
theorem ref01_Check_tells : Tells Tryd.prog 20 ref01_Check_m.c := ref01_Check_m.tells Tryd.func20 (show ∀ p, arun ref01_Check_env Tryd.f20 (ref01_Check_m.enc p).1 (ref01_Check_m.enc p).2 = _ from fun p => by kernel_rfl) (loopsL [loopOf 4 Tryd.f20, loopOf 10 Tryd.f20] (by kernel_rfl) ⟨lpT (by kernel_rfl) ref01_Check_l4_tells, ⟨lpT (by kernel_rfl) ref01_Check_l10_tells, trivial⟩⟩) (.cons ref01_Span_tells .nil)
noncomputable def ref01_Check (m : SMine) : Option (Int) := ref01_Check_m.val m
theorem ref01_Check_eq (m : SMine) : ref01_Check m = (ref01_Check_t m).get := ref01_Check_m.val_eq (fun x => SMine.dec (aggL (gd x.1 0))) (fun p => by kernel_rfl) m

/-! minecontrol/minecontrolref03.ends -/
noncomputable def ref03_ends_t (x : SRoad) (back : Bool) : DT (Int × Int) :=
 .ite back (.leaf (x.To, x.From)) (.leaf (x.From, x.To))
noncomputable def ref03_ends_m : FnM := flM (SRoad × Bool) (Int × Int) (fun p => ([.agg (SRoad.enc p.1), .bool p.2], [])) (fun p => ref03_ends_t p.1 p.2) (fun r => .tup [.int .i64 r.1, .int .i64 r.2]) (fun _ => rfl)
noncomputable def ref03_ends_env : Env := envM [] [] [] [] [] 0
theorem ref03_ends_tells : Tells Tryd.prog 22 ref03_ends_m.c := ref03_ends_m.tells Tryd.func22 (show ∀ p, arun ref03_ends_env Tryd.f22 (ref03_ends_m.enc p).1 (ref03_ends_m.enc p).2 = _ from fun p => by kernel_rfl) noLoops .nil
noncomputable def ref03_ends (x : SRoad) (back : Bool) : Option (Int × Int) := ref03_ends_m.val (x, back)
theorem ref03_ends_eq (x : SRoad) (back : Bool) : ref03_ends x back = (ref03_ends_t x back).get := ref03_ends_m.val_eq (fun x => (SRoad.dec (aggL (gd x.1 0)), boolA (gd x.1 1))) (fun p => by kernel_rfl) (x, back)

/-! minecontrol/minecontrolref03.walked -/
noncomputable def ref03_walked_t (m : SMine) (road : Int) (back : Bool) (up down level : Int) : DT (Int) :=
 .bind (ref01_Check m) fun z0 =>
 .ite (z0 != (0 : Int)) (
 .leaf (-1 : Int)) (
 .ite (decide (road < (0 : Int))) (
 .leaf (-1 : Int)) (
 .ite (decide (road ≥ ((m.Roads.n : Nat) : Int))) (
 .leaf (-1 : Int)) (
 .ite (decide ((0 : Int) ≤ road ∧ road < ((m.Roads.n : Nat) : Int))) (
 .ite (m.Roads.f (Int.toNat road)).Closed (
 .leaf (-1 : Int)) (
 .ite (decide ((0 : Int) ≤ road ∧ road < ((m.Roads.n : Nat) : Int))) (
 .ite (!(m.Roads.f (Int.toNat road)).Walk) (
 .leaf (-1 : Int)) (
 .ite (decide ((0 : Int) ≤ road ∧ road < ((m.Roads.n : Nat) : Int))) (
 .bind (ref03_ends (m.Roads.f (Int.toNat road)) back) fun z1 =>
 .ite (decide ((0 : Int) ≤ z1.2 ∧ z1.2 < ((m.Places.n : Nat) : Int))) (
 .ite (decide ((0 : Int) ≤ z1.1 ∧ z1.1 < ((m.Places.n : Nat) : Int))) (
 .ite (decide ((wr ((10 : Int) * (wr ((m.Places.f (Int.toNat z1.2)).Height - (m.Places.f (Int.toNat z1.1)).Height)))) > (m.Roads.f (Int.toNat road)).Length)) (
 .ite (decide ((wr ((-10 : Int) * (wr ((m.Places.f (Int.toNat z1.2)).Height - (m.Places.f (Int.toNat z1.1)).Height)))) > (m.Roads.f (Int.toNat road)).Length)) (
 .ite (down != 0) (.leaf (wr (Int.tdiv (wr ((wr ((wr ((10 : Int) * (m.Roads.f (Int.toNat road)).Length)) + down)) - (1 : Int))) down))) (.fail)) (
 .ite (up != 0) (.leaf (wr (Int.tdiv (wr ((wr ((wr ((10 : Int) * (m.Roads.f (Int.toNat road)).Length)) + up)) - (1 : Int))) up))) (.fail))) (
 .ite (decide ((wr ((-10 : Int) * (wr ((m.Places.f (Int.toNat z1.2)).Height - (m.Places.f (Int.toNat z1.1)).Height)))) > (m.Roads.f (Int.toNat road)).Length)) (
 .ite (down != 0) (.leaf (wr (Int.tdiv (wr ((wr ((wr ((10 : Int) * (m.Roads.f (Int.toNat road)).Length)) + down)) - (1 : Int))) down))) (.fail)) (
 .ite (level != 0) (.leaf (wr (Int.tdiv (wr ((wr ((wr ((10 : Int) * (m.Roads.f (Int.toNat road)).Length)) + level)) - (1 : Int))) level))) (.fail)))) (
 .fail)) (
 .fail)) (
 .fail))) (
 .fail))) (
 .fail))))
noncomputable def ref03_walked_m : FnM := flM (SMine × Int × Bool × Int × Int × Int) (Int) (fun p => ([.agg (SMine.enc p.1), .int .i64 p.2.1, .bool p.2.2.1, .int .i64 p.2.2.2.1, .int .i64 p.2.2.2.2.1, .int .i64 p.2.2.2.2.2], [])) (fun p => ref03_walked_t p.1 p.2.1 p.2.2.1 p.2.2.2.1 p.2.2.2.2.1 p.2.2.2.2.2) (fun r => .int .i64 r) (fun _ => rfl)
noncomputable def ref03_walked_env : Env := envM [(20, ref01_Check_m.c), (22, ref03_ends_m.c)] [] [] [] [] 0
theorem ref03_walked_tells : Tells Tryd.prog 35 ref03_walked_m.c := ref03_walked_m.tells Tryd.func35 (show ∀ p, arun ref03_walked_env Tryd.f35 (ref03_walked_m.enc p).1 (ref03_walked_m.enc p).2 = _ from fun p => by kernel_rfl) noLoops (.cons ref01_Check_tells (.cons ref03_ends_tells .nil))
noncomputable def ref03_walked (m : SMine) (road : Int) (back : Bool) (up down level : Int) : Option (Int) := ref03_walked_m.val (m, road, back, up, down, level)
theorem ref03_walked_eq (m : SMine) (road : Int) (back : Bool) (up down level : Int) : ref03_walked m road back up down level = (ref03_walked_t m road back up down level).get := ref03_walked_m.val_eq (fun x => (SMine.dec (aggL (gd x.1 0)), intA (gd x.1 1), boolA (gd x.1 2), intA (gd x.1 3), intA (gd x.1 4), intA (gd x.1 5))) (fun p => by kernel_rfl) (m, road, back, up, down, level)

/-! minecontrol/minecontrolref03.Time -/
noncomputable def ref03_Time_t (m : SMine) (road : Int) (back : Bool) : DT (Int) :=
 .bind (ref03_walked m road back (6 : Int) (9 : Int) (12 : Int)) fun z0 =>
 .leaf z0
noncomputable def ref03_Time_m : FnM := flM (SMine × Int × Bool) (Int) (fun p => ([.agg (SMine.enc p.1), .int .i64 p.2.1, .bool p.2.2], [])) (fun p => ref03_Time_t p.1 p.2.1 p.2.2) (fun r => .int .i64 r) (fun _ => rfl)
noncomputable def ref03_Time_env : Env := envM [(35, ref03_walked_m.c)] [] [] [] [] 0
theorem ref03_Time_tells : Tells Tryd.prog 23 ref03_Time_m.c := ref03_Time_m.tells Tryd.func23 (show ∀ p, arun ref03_Time_env Tryd.f23 (ref03_Time_m.enc p).1 (ref03_Time_m.enc p).2 = _ from fun p => by kernel_rfl) noLoops (.cons ref03_walked_tells .nil)
noncomputable def ref03_Time (m : SMine) (road : Int) (back : Bool) : Option (Int) := ref03_Time_m.val (m, road, back)
theorem ref03_Time_eq (m : SMine) (road : Int) (back : Bool) : ref03_Time m road back = (ref03_Time_t m road back).get := ref03_Time_m.val_eq (fun x => (SMine.dec (aggL (gd x.1 0)), intA (gd x.1 1), boolA (gd x.1 2))) (fun p => by kernel_rfl) (m, road, back)

/-! minecontrol/minecontrolref01.Ints -/
noncomputable def ref01_Ints_l4_step (u4_0 u4_1 : Sq Int) (u4_2 : Int) : DT (LR (Int) (Unit) (Unit)) :=
 .ite (decide (u4_2 < ((u4_0.n : Nat) : Int))) (
 .ite (decide ((0 : Int) ≤ u4_2 ∧ u4_2 < ((u4_0.n : Nat) : Int))) (
 .ite (decide ((0 : Int) ≤ u4_2 ∧ u4_2 < ((u4_1.n : Nat) : Int))) (
 .ite ((u4_0.f (Int.toNat u4_2)) != (u4_1.f (Int.toNat u4_2))) (
 .leaf (.r ())) (
 .leaf (.next (wr (u4_2 + (1 : Int)))))) (
 .fail)) (
 .fail)) (
 .leaf (.l ()))
noncomputable def ref01_Ints_l4_m : LpM := ⟨(Sq Int) × (Sq Int), Int, Unit, Unit, fun p => ⟨[(0, sqA 1 (eI .i64) p.1.1), (1, sqA 1 (eI .i64) p.1.2), (5, .int .i64 p.2)], [], 512⟩, fun f v => ref01_Ints_l4_step f.1 f.2 v, false, (.exit 0), (fun _ _ => ⟨[(4, .undef)], [], 512⟩), .ret, (fun _ _ => ⟨[(4, .bool false)], [], 512⟩), c1, c1k⟩
noncomputable def ref01_Ints_l4 (u4_0 u4_1 : Sq Int) (u4_2 : Int) : Option ((Unit) ⊕ (Unit)) := ref01_Ints_l4_m.val ((u4_0, u4_1), u4_2)
theorem ref01_Ints_l4_eq (u4_0 u4_1 : Sq Int) (u4_2 : Int) : ref01_Ints_l4 u4_0 u4_1 u4_2 = fixO (fun v : Int => ref01_Ints_l4_step u4_0 u4_1 v) u4_2 := ref01_Ints_l4_m.val_eq (fun x => ((sqD dI (aget x.tm 0), sqD dI (aget x.tm 1)), intA (aget x.tm 5))) (fun p => by kernel_rfl) ((u4_0, u4_1), u4_2)
noncomputable def ref01_Ints_t (a b : Sq Int) : DT (Bool) :=
 .ite (((a.n : Nat) : Int) != ((b.n : Nat) : Int)) (
 .leaf false) (
 .sum (ref01_Ints_l4 a b (0 : Int)) (fun _ =>
 .leaf true) (fun _ => .leaf false))
noncomputable def ref01_Ints_m : FnM := flM ((Sq Int) × (Sq Int)) (Bool) (fun p => ([sqA 1 (eI .i64) p.1, sqA 1 (eI .i64) p.2], [])) (fun p => ref01_Ints_t p.1 p.2) (fun r => .bool r) (fun _ => rfl)
noncomputable def ref01_Ints_env : Env := envM [] [(4, [0, 1, 5], [4])] [(4, ref01_Ints_l4_m.c)] [] [(4, [])] 0
noncomputable def ref01_Ints_e : Env := { ref01_Ints_env with nt := 26 }
theorem ref01_Ints_l4_tells : LoopTells ref01_Ints_e (loopOf 4 Tryd.f9) ref01_Ints_l4_m.c := ref01_Ints_l4_m.tells 512 (fun _ => by kernel_rfl) (fun _ _ _ _ => by kernel_rfl) (fun _ _ _ _ => by kernel_rfl) fun R f v N K => by kernel_rfl
theorem ref01_Ints_tells : Tells Tryd.prog 9 ref01_Ints_m.c := ref01_Ints_m.tells Tryd.func9 (show ∀ p, arun ref01_Ints_env Tryd.f9 (ref01_Ints_m.enc p).1 (ref01_Ints_m.enc p).2 = _ from fun p => by kernel_rfl) (loopsL [loopOf 4 Tryd.f9] (by kernel_rfl) ⟨lpT (by kernel_rfl) ref01_Ints_l4_tells, trivial⟩) .nil
noncomputable def ref01_Ints (a b : Sq Int) : Option (Bool) := ref01_Ints_m.val (a, b)
theorem ref01_Ints_eq (a b : Sq Int) : ref01_Ints a b = (ref01_Ints_t a b).get := ref01_Ints_m.val_eq (fun x => (sqD dI (gd x.1 0), sqD dI (gd x.1 1))) (fun p => by kernel_rfl) (a, b)

/-! minecontrol/walk.seconds -/
noncomputable def walk_seconds_t (m : SMine) (road : Int) (back : Bool) (p : Space) : DT (Int) :=
 .bind (plan_Valid m) fun z0 =>
 .ite (!z0) (
 .leaf (-1 : Int)) (
 .ite (decide (road < (0 : Int))) (
 .leaf (-1 : Int)) (
 .ite (decide (road ≥ ((m.Roads.n : Nat) : Int))) (
 .leaf (-1 : Int)) (
 .ite (decide ((0 : Int) ≤ road ∧ road < ((m.Roads.n : Nat) : Int))) (
 .bind (walk_walked (m.Roads.f (Int.toNat road))) fun z1 =>
 .ite (!z1) (
 .leaf (-1 : Int)) (
 .ite (decide ((0 : Int) ≤ road ∧ road < ((m.Roads.n : Nat) : Int))) (
 .ite back (
 .bind (walk_rise m (m.Roads.f (Int.toNat road)).To (m.Roads.f (Int.toNat road)).From) fun z2 =>
 .bind (walk_pace_seconds p (m.Roads.f (Int.toNat road)).Length z2) fun z3 =>
 .leaf z3) (
 .bind (walk_rise m (m.Roads.f (Int.toNat road)).From (m.Roads.f (Int.toNat road)).To) fun z4 =>
 .bind (walk_pace_seconds p (m.Roads.f (Int.toNat road)).Length z4) fun z5 =>
 .leaf z5)) (
 .fail))) (
 .fail))))
noncomputable def walk_seconds_m : FnM := flM (SMine × Int × Bool × Space) (Int) (fun p => ([.agg (SMine.enc p.1), .int .i64 p.2.1, .bool p.2.2.1, .agg (Space.enc p.2.2.2)], [])) (fun p => walk_seconds_t p.1 p.2.1 p.2.2.1 p.2.2.2) (fun r => .int .i64 r) (fun _ => rfl)
noncomputable def walk_seconds_env : Env := envM [(15, plan_Valid_m.c), (28, walk_walked_m.c), (31, walk_rise_m.c), (30, walk_pace_seconds_m.c)] [] [] [] [] 0
theorem walk_seconds_tells : Tells Tryd.prog 36 walk_seconds_m.c := walk_seconds_m.tells Tryd.func36 (show ∀ p, arun walk_seconds_env Tryd.f36 (walk_seconds_m.enc p).1 (walk_seconds_m.enc p).2 = _ from fun p => by kernel_rfl) noLoops (.cons plan_Valid_tells (.cons walk_walked_tells (.cons walk_rise_tells (.cons walk_pace_seconds_tells .nil))))
noncomputable def walk_seconds (m : SMine) (road : Int) (back : Bool) (p : Space) : Option (Int) := walk_seconds_m.val (m, road, back, p)
theorem walk_seconds_eq (m : SMine) (road : Int) (back : Bool) (p : Space) : walk_seconds m road back p = (walk_seconds_t m road back p).get := walk_seconds_m.val_eq (fun x => (SMine.dec (aggL (gd x.1 0)), intA (gd x.1 1), boolA (gd x.1 2), Space.dec (aggL (gd x.1 3)))) (fun p => by kernel_rfl) (m, road, back, p)

/-! minecontrol/walk.Time -/
noncomputable def walk_Time_t (m : SMine) (road : Int) (back : Bool) : DT (Int) :=
 .bind (walk_seconds m road back (Space.mk (6 : Int) (9 : Int) (12 : Int))) fun z0 =>
 .leaf z0
noncomputable def walk_Time_m : FnM := flM (SMine × Int × Bool) (Int) (fun p => ([.agg (SMine.enc p.1), .int .i64 p.2.1, .bool p.2.2], [])) (fun p => walk_Time_t p.1 p.2.1 p.2.2) (fun r => .int .i64 r) (fun _ => rfl)
noncomputable def walk_Time_env : Env := envM [(36, walk_seconds_m.c)] [] [] [] [] 0
theorem walk_Time_tells : Tells Tryd.prog 24 walk_Time_m.c := walk_Time_m.tells Tryd.func24 (show ∀ p, arun walk_Time_env Tryd.f24 (walk_Time_m.enc p).1 (walk_Time_m.enc p).2 = _ from fun p => by kernel_rfl) noLoops (.cons walk_seconds_tells .nil)
noncomputable def walk_Time (m : SMine) (road : Int) (back : Bool) : Option (Int) := walk_Time_m.val (m, road, back)
theorem walk_Time_eq (m : SMine) (road : Int) (back : Bool) : walk_Time m road back = (walk_Time_t m road back).get := walk_Time_m.val_eq (fun x => (SMine.dec (aggL (gd x.1 0)), intA (gd x.1 1), boolA (gd x.1 2))) (fun p => by kernel_rfl) (m, road, back)

/-! minecontrol/walk.Slow -/
noncomputable def walk_Slow_t (m : SMine) (road : Int) (back : Bool) : DT (Int) :=
 .bind (walk_seconds m road back (Space.mk (2 : Int) (3 : Int) (4 : Int))) fun z0 =>
 .leaf z0
noncomputable def walk_Slow_m : FnM := flM (SMine × Int × Bool) (Int) (fun p => ([.agg (SMine.enc p.1), .int .i64 p.2.1, .bool p.2.2], [])) (fun p => walk_Slow_t p.1 p.2.1 p.2.2) (fun r => .int .i64 r) (fun _ => rfl)
noncomputable def walk_Slow_env : Env := envM [(36, walk_seconds_m.c)] [] [] [] [] 0
theorem walk_Slow_tells : Tells Tryd.prog 25 walk_Slow_m.c := walk_Slow_m.tells Tryd.func25 (show ∀ p, arun walk_Slow_env Tryd.f25 (walk_Slow_m.enc p).1 (walk_Slow_m.enc p).2 = _ from fun p => by kernel_rfl) noLoops (.cons walk_seconds_tells .nil)
noncomputable def walk_Slow (m : SMine) (road : Int) (back : Bool) : Option (Int) := walk_Slow_m.val (m, road, back)
theorem walk_Slow_eq (m : SMine) (road : Int) (back : Bool) : walk_Slow m road back = (walk_Slow_t m road back).get := walk_Slow_m.val_eq (fun x => (SMine.dec (aggL (gd x.1 0)), intA (gd x.1 1), boolA (gd x.1 2))) (fun p => by kernel_rfl) (m, road, back)

/-! minecontrol/walk.odd -/
noncomputable def walk_odd_t (time : Int) : DT (Bool) :=
 .ite (decide (time < (0 : Int))) (.leaf true) (.leaf (decide (time > (1099511627776 : Int))))
noncomputable def walk_odd_m : FnM := flM (Int) (Bool) (fun p => ([.int .i64 p], [])) (fun p => walk_odd_t p) (fun r => .bool r) (fun _ => rfl)
noncomputable def walk_odd_env : Env := envM [] [] [] [] [] 0
theorem walk_odd_tells : Tells Tryd.prog 38 walk_odd_m.c := walk_odd_m.tells Tryd.func38 (show ∀ p, arun walk_odd_env Tryd.f38 (walk_odd_m.enc p).1 (walk_odd_m.enc p).2 = _ from fun p => by kernel_rfl) noLoops .nil
noncomputable def walk_odd (time : Int) : Option (Bool) := walk_odd_m.val time
theorem walk_odd_eq (time : Int) : walk_odd time = (walk_odd_t time).get := walk_odd_m.val_eq (fun x => intA (gd x.1 0)) (fun p => by kernel_rfl) time

/-! slices.IndexFunc[[]int,int] -/
noncomputable def slices_IndexFunc_l2_step (u2_0 : Sq Int) (u2_2 : Int) : DT (LR (Int) (Unit) (Int)) :=
 .ite (decide (u2_2 < ((u2_0.n : Nat) : Int))) (
 .ite (decide ((0 : Int) ≤ u2_2 ∧ u2_2 < ((u2_0.n : Nat) : Int))) (
 .bind (walk_odd (u2_0.f (Int.toNat u2_2))) fun z0 =>
 .ite z0 (
 .leaf (.r u2_2)) (
 .leaf (.next (wr (u2_2 + (1 : Int)))))) (
 .fail)) (
 .leaf (.l ()))
noncomputable def slices_IndexFunc_l2_m : LpM := ⟨(Sq Int), Int, Unit, Int, fun p => ⟨[(0, sqA 1 (eI .i64) p.1), (1, .fn 38 []), (7, .int .i64 ((p.1.n : Nat) : Int)), (8, .int .i64 p.2)], [], 256⟩, fun f v => slices_IndexFunc_l2_step f v, false, (.exit 0), (fun _ _ => ⟨[(4, .undef)], [], 256⟩), .ret, (fun _ a => ⟨[(4, .int .i64 a)], [], 256⟩), c1, c1k⟩
noncomputable def slices_IndexFunc_l2 (u2_0 : Sq Int) (u2_2 : Int) : Option ((Unit) ⊕ (Int)) := slices_IndexFunc_l2_m.val (u2_0, u2_2)
theorem slices_IndexFunc_l2_eq (u2_0 : Sq Int) (u2_2 : Int) : slices_IndexFunc_l2 u2_0 u2_2 = fixO (fun v : Int => slices_IndexFunc_l2_step u2_0 v) u2_2 := slices_IndexFunc_l2_m.val_eq (fun x => (sqD dI (aget x.tm 0), intA (aget x.tm 8))) (fun p => by kernel_rfl) (u2_0, u2_2)
noncomputable def slices_IndexFunc_t (s : Sq Int) : DT (Int) :=
 .sum (slices_IndexFunc_l2 s (0 : Int)) (fun _ =>
 .leaf (-1 : Int)) (fun y0 => .leaf y0)
noncomputable def slices_IndexFunc_m : FnM := flM ((Sq Int)) (Int) (fun p => ([sqA 1 (eI .i64) p, .fn 38 []], [])) (fun p => slices_IndexFunc_t p) (fun r => .int .i64 r) (fun _ => rfl)
noncomputable def slices_IndexFunc_env : Env := envM [(38, walk_odd_m.c)] [(2, [0, 1, 7, 8], [4])] [(2, slices_IndexFunc_l2_m.c)] [] [(2, [])] 0
noncomputable def slices_IndexFunc_e : Env := { slices_IndexFunc_env with nt := 19 }
theorem slices_IndexFunc_l2_tells : LoopTells slices_IndexFunc_e (loopOf 2 Tryd.f44) slices_IndexFunc_l2_m.c := slices_IndexFunc_l2_m.tells 256 (fun _ => by kernel_rfl) (fun _ _ _ _ => by kernel_rfl) (fun _ _ _ _ => by kernel_rfl) fun R f v N K => by kernel_rfl
theorem slices_IndexFunc_tells : Tells Tryd.prog 44 slices_IndexFunc_m.c := slices_IndexFunc_m.tells Tryd.func44 (show ∀ p, arun slices_IndexFunc_env Tryd.f44 (slices_IndexFunc_m.enc p).1 (slices_IndexFunc_m.enc p).2 = _ from fun p => by kernel_rfl) (loopsL [loopOf 2 Tryd.f44] (by kernel_rfl) ⟨lpT (by kernel_rfl) slices_IndexFunc_l2_tells, trivial⟩) (.cons walk_odd_tells .nil)
noncomputable def slices_IndexFunc (s : Sq Int) : Option (Int) := slices_IndexFunc_m.val s
theorem slices_IndexFunc_eq (s : Sq Int) : slices_IndexFunc s = (slices_IndexFunc_t s).get := slices_IndexFunc_m.val_eq (fun x => sqD dI (gd x.1 0)) (fun p => by kernel_rfl) s

/-! slices.ContainsFunc[[]int,int] -/
noncomputable def slices_ContainsFunc_t (s : Sq Int) : DT (Bool) :=
 .bind (slices_IndexFunc s) fun z0 =>
 .leaf (decide (z0 ≥ (0 : Int)))
noncomputable def slices_ContainsFunc_m : FnM := flM ((Sq Int)) (Bool) (fun p => ([sqA 1 (eI .i64) p, .fn 38 []], [])) (fun p => slices_ContainsFunc_t p) (fun r => .bool r) (fun _ => rfl)
noncomputable def slices_ContainsFunc_env : Env := envM [(44, slices_IndexFunc_m.c)] [] [] [] [] 0
theorem slices_ContainsFunc_tells : Tells Tryd.prog 37 slices_ContainsFunc_m.c := slices_ContainsFunc_m.tells Tryd.func37 (show ∀ p, arun slices_ContainsFunc_env Tryd.f37 (slices_ContainsFunc_m.enc p).1 (slices_ContainsFunc_m.enc p).2 = _ from fun p => by kernel_rfl) noLoops (.cons slices_IndexFunc_tells .nil)
noncomputable def slices_ContainsFunc (s : Sq Int) : Option (Bool) := slices_ContainsFunc_m.val s
theorem slices_ContainsFunc_eq (s : Sq Int) : slices_ContainsFunc s = (slices_ContainsFunc_t s).get := slices_ContainsFunc_m.val_eq (fun x => sqD dI (gd x.1 0)) (fun p => by kernel_rfl) s

/-! minecontrol/walk.Least -/
noncomputable def walk_Least_l5_step (u5_0 : Sq Int) (_u5_2 : Sq SPlace) (_u5_3 : Sq SRoad) (u5_4 : Sq Scost) (u5_5 : Int) : DT (LR ((Sq Scost) × Int) ((Sq Scost)) (Unit)) :=
 .ite (decide (u5_5 < ((u5_0.n : Nat) : Int))) (
 .ite (decide ((0 : Int) ≤ u5_5 ∧ u5_5 < ((u5_0.n : Nat) : Int))) (
 .ite (decide ((0 : Int) ≤ u5_5 ∧ u5_5 < ((u5_4.n : Nat) : Int))) (
 .leaf (.next ((Sq.mk u5_4.n (fun k0 => (Scost.mk (cond (Nat.beq k0 (Int.toNat u5_5)) (u5_0.f (Int.toNat u5_5)) (u5_4.f k0).time_) (cond (Nat.beq k0 (Int.toNat u5_5)) (u5_4.f (Int.toNat u5_5)).roads_ (u5_4.f k0).roads_)))), (wr (u5_5 + (1 : Int)))))) (
 .fail)) (
 .fail)) (
 .leaf (.l u5_4))
noncomputable def walk_Least_l5_m : LpM := ⟨(Sq Int) × (Sq SPlace) × (Sq SRoad), (Sq Scost) × Int, (Sq Scost), Unit, fun p => ⟨[(2, .ptr 0 0), (5, .own 1280 0), (29, sqA 1 (eI .i64) p.1.1), (30, .int .i64 ((p.1.1.n : Nat) : Int)), (31, .int .i64 p.2.2)], [(0, .var [sqA 2 SPlace.enc p.1.2.1, sqA 10 SRoad.enc p.1.2.2]), (1280, rowA 0 2 57 Scost.enc p.2.1)], 1600⟩, fun f v => walk_Least_l5_step f.1 f.2.1 f.2.2 v.1 v.2, true, (.exit 0), (fun x a => ⟨[(2, .ptr 0 0), (5, .own 1280 0)], [(0, blkS x 0), (1280, rowA 0 2 57 Scost.enc a)], 1600⟩), .ret, (fun _ _ => ⟨[], [], 0⟩), c1, c1k⟩
noncomputable def walk_Least_l5 (u5_0 : Sq Int) (u5_2 : Sq SPlace) (u5_3 : Sq SRoad) (u5_4 : Sq Scost) (u5_5 : Int) : Option (((Sq Scost)) ⊕ (Unit)) := walk_Least_l5_m.val ((u5_0, u5_2, u5_3), (u5_4, u5_5))
theorem walk_Least_l5_eq (u5_0 : Sq Int) (u5_2 : Sq SPlace) (u5_3 : Sq SRoad) (u5_4 : Sq Scost) (u5_5 : Int) : walk_Least_l5 u5_0 u5_2 u5_3 u5_4 u5_5 = fixO (fun v : (Sq Scost) × Int => walk_Least_l5_step u5_0 u5_2 u5_3 v.1 v.2) (u5_4, u5_5) := walk_Least_l5_m.val_eq (fun x => ((sqD dI (aget x.tm 29), sqD SPlace.dec (cellS x 0 0), sqD SRoad.dec (cellS x 0 1)), (sqB Scost.dec (blkS x 1280), intA (aget x.tm 31)))) (fun p => by kernel_rfl) ((u5_0, u5_2, u5_3), (u5_4, u5_5))
noncomputable def walk_Least_l12_step (u12_1 : Sq Scost) (u12_2 : Sq Int) (u12_3 : Int) : DT (LR ((Sq Int) × Int) ((Sq Int)) (Unit)) :=
 .ite (decide (u12_3 < ((u12_1.n : Nat) : Int))) (
 .ite (decide ((0 : Int) ≤ u12_3 ∧ u12_3 < ((u12_1.n : Nat) : Int))) (
 .ite (decide ((0 : Int) ≤ u12_3 ∧ u12_3 < ((u12_2.n : Nat) : Int))) (
 .leaf (.next ((Sq.mk u12_2.n (fun k1 => (cond (Nat.beq k1 (Int.toNat u12_3)) (u12_1.f (Int.toNat u12_3)).time_ (u12_2.f k1)))), (wr (u12_3 + (1 : Int)))))) (
 .fail)) (
 .fail)) (
 .leaf (.l u12_2))
noncomputable def walk_Least_l12_m : LpM := ⟨(Sq Scost), (Sq Int) × Int, (Sq Int), Unit, fun p => ⟨[(8, .own 1984 0), (49, .own 1280 0), (50, .int .i64 ((p.1.n : Nat) : Int)), (51, .int .i64 p.2.2)], [(1280, rowA 0 2 57 Scost.enc p.1), (1984, rowA 0 1 3 (eI .i64) p.2.1)], 2304⟩, fun f v => walk_Least_l12_step f v.1 v.2, true, (.exit 2), (fun x a => ⟨[(8, .own 1984 0)], [(1280, blkS x 1280), (1984, rowA 0 1 3 (eI .i64) a)], 2304⟩), .ret, (fun _ _ => ⟨[], [], 0⟩), c1, c1k⟩
noncomputable def walk_Least_l12 (u12_1 : Sq Scost) (u12_2 : Sq Int) (u12_3 : Int) : Option (((Sq Int)) ⊕ (Unit)) := walk_Least_l12_m.val (u12_1, (u12_2, u12_3))
theorem walk_Least_l12_eq (u12_1 : Sq Scost) (u12_2 : Sq Int) (u12_3 : Int) : walk_Least_l12 u12_1 u12_2 u12_3 = fixO (fun v : (Sq Int) × Int => walk_Least_l12_step u12_1 v.1 v.2) (u12_2, u12_3) := walk_Least_l12_m.val_eq (fun x => (sqB Scost.dec (blkS x 1280), (sqB dI (blkS x 1984), intA (aget x.tm 51)))) (fun p => by kernel_rfl) (u12_1, (u12_2, u12_3))
noncomputable def walk_Least_t (m : SMine) (from_ : Sq Int) : DT ((Sq Int)) :=
 .bind (plan_Valid m) fun z0 =>
 .ite (!z0) (
 .leaf (Sq.mk 0 (fun _ => (0 : Int)))) (
 .ite (((from_.n : Nat) : Int) != ((m.Places.n : Nat) : Int)) (
 .leaf (Sq.mk 0 (fun _ => (0 : Int)))) (
 .bind (slices_ContainsFunc from_) fun z1 =>
 .ite z1 (
 .leaf (Sq.mk 0 (fun _ => (0 : Int)))) (
 .ite (decide ((0 : Int) ≤ ((from_.n : Nat) : Int) ∧ ((from_.n : Nat) : Int) ≤ ((from_.n : Nat) : Int) ∧ ((from_.n : Nat) : Int) * ((16 : Nat) : Int) ≤ 140737488355328 ∧ ((from_.n : Nat) : Int) ≤ 1099511627776)) (
 .sum (walk_Least_l5 from_ m.Places m.Roads (Sq.mk (Int.toNat ((from_.n : Nat) : Int)) (fun _ => (Scost.mk (0 : Int) (0 : Int)))) (0 : Int)) (fun y0 =>
 .bind (walk_steps m) fun z2 =>
 .bind (walk_spread y0 z2) fun z3 =>
 .ite (decide ((0 : Int) ≤ ((z3.n : Nat) : Int) ∧ ((z3.n : Nat) : Int) ≤ ((z3.n : Nat) : Int) ∧ ((z3.n : Nat) : Int) * ((8 : Nat) : Int) ≤ 140737488355328 ∧ ((z3.n : Nat) : Int) ≤ 1099511627776)) (
 .sum (walk_Least_l12 z3 (Sq.mk (Int.toNat ((z3.n : Nat) : Int)) (fun _ => (0 : Int))) (0 : Int)) (fun y1 =>
 .leaf y1) (fun _ => .fail)) (
 .fail)) (fun _ => .fail)) (
 .fail))))
noncomputable def walk_Least_m : FnM := nfM (SMine × (Sq Int)) ((Sq Int)) (fun p => ([.agg (SMine.enc p.1), sqA 1 (eI .i64) p.2], [])) (fun p => walk_Least_t p.1 p.2) (fun _ => .own 0 0) (fun _ r => [rowA 0 1 3 (eI .i64) r])
noncomputable def walk_Least_env : Env := envM [(15, plan_Valid_m.c), (37, slices_ContainsFunc_m.c), (17, walk_steps_m.c), (32, walk_spread_m.c)] [(5, [2, 5, 29, 30, 31], [2, 5]), (12, [8, 49, 50, 51], [8]), (2000032, [], [])] [(5, walk_Least_l5_m.c), (12, walk_Least_l12_m.c)] [(2000000, [.asrow 1088 3 1 (fun _ => (eI .i64) (0 : Int))])] [(5, [0, 1280]), (12, [1280, 1984])] 0
noncomputable def walk_Least_e : Env := { walk_Least_env with nt := 63 }
theorem walk_Least_l5_tells : LoopTells walk_Least_e (loopOf 5 Tryd.f26) walk_Least_l5_m.c := walk_Least_l5_m.tells 1600 (fun _ => by kernel_rfl) (fun _ _ _ _ => by kernel_rfl) (fun _ _ _ _ => by kernel_rfl) fun R f v N K => by kernel_rfl
theorem walk_Least_l12_tells : LoopTells walk_Least_e (loopOf 12 Tryd.f26) walk_Least_l12_m.c := walk_Least_l12_m.tells 2304 (fun _ => by kernel_rfl) (fun _ _ _ _ => by kernel_rfl) (fun _ _ _ _ => by kernel_rfl) fun R f v N K => by kernel_rfl
theorem walk_Least_tells : Tells Tryd.prog 26 walk_Least_m.c := walk_Least_m.tells Tryd.func26 (show ∀ p, arun walk_Least_env Tryd.f26 (walk_Least_m.enc p).1 (walk_Least_m.enc p).2 = _ from fun p => by kernel_rfl) (loopsL [loopOf 5 Tryd.f26, loopOf 12 Tryd.f26] (by kernel_rfl) ⟨lpT (by kernel_rfl) walk_Least_l5_tells, ⟨lpT (by kernel_rfl) walk_Least_l12_tells, trivial⟩⟩) (.cons plan_Valid_tells (.cons slices_ContainsFunc_tells (.cons walk_steps_tells (.cons walk_spread_tells .nil))))
noncomputable def walk_Least (m : SMine) (from_ : Sq Int) : Option ((Sq Int)) := walk_Least_m.val (m, from_)
theorem walk_Least_eq (m : SMine) (from_ : Sq Int) : walk_Least m from_ = (walk_Least_t m from_).get := walk_Least_m.val_eq (fun x => (SMine.dec (aggL (gd x.1 0)), sqD dI (gd x.1 1))) (fun p => by kernel_rfl) (m, from_)

/-! minecontrol/minecontrollaw03.awake -/
noncomputable def law03_awake_t : DT (Bool) :=
 .bind (walk_Way (SMine.mk (Sq.mk 2 (fun k0 => (SPlace.mk (cond (Nat.beq k0 0) (0 : Int) (0 : Int)) (cond (Nat.beq k0 0) false false)))) (Sq.mk 1 (fun _ => (SRoad.mk (0 : Int) (1 : Int) (120 : Int) (1 : Int) true false (SSpan.mk (1 : Int) (1 : Int)) (SSpan.mk (0 : Int) (0 : Int)))))) (0 : Int) (1 : Int)) fun z0 =>
 .bind (walk_Time (SMine.mk (Sq.mk 2 (fun k1 => (SPlace.mk (cond (Nat.beq k1 0) (0 : Int) (0 : Int)) (cond (Nat.beq k1 0) false false)))) (Sq.mk 1 (fun _ => (SRoad.mk (0 : Int) (1 : Int) (120 : Int) (1 : Int) true false (SSpan.mk (1 : Int) (1 : Int)) (SSpan.mk (0 : Int) (0 : Int)))))) (0 : Int) false) fun z1 =>
 .ite (z1 == (100 : Int)) (
 .bind (walk_Time (SMine.mk (Sq.mk 2 (fun k2 => (SPlace.mk (cond (Nat.beq k2 0) (0 : Int) (20 : Int)) (cond (Nat.beq k2 0) false false)))) (Sq.mk 1 (fun _ => (SRoad.mk (0 : Int) (1 : Int) (120 : Int) (1 : Int) true false (SSpan.mk (1 : Int) (1 : Int)) (SSpan.mk (0 : Int) (0 : Int)))))) (0 : Int) false) fun z2 =>
 .ite (z2 == (200 : Int)) (
 .bind (walk_Slow (SMine.mk (Sq.mk 2 (fun k3 => (SPlace.mk (cond (Nat.beq k3 0) (0 : Int) (0 : Int)) (cond (Nat.beq k3 0) false false)))) (Sq.mk 1 (fun _ => (SRoad.mk (0 : Int) (1 : Int) (120 : Int) (1 : Int) true false (SSpan.mk (1 : Int) (1 : Int)) (SSpan.mk (0 : Int) (0 : Int)))))) (0 : Int) true) fun z3 =>
 .ite (z3 == (300 : Int)) (
 .ite z0.2.2 (
 .ite (z0.2.1 == (100 : Int)) (
 .bind (ref01_Ints z0.1 (Sq.mk 1 (fun _ => (0 : Int)))) fun z4 =>
 .ite z4 (
 .bind (walk_Least (SMine.mk (Sq.mk 2 (fun k4 => (SPlace.mk (cond (Nat.beq k4 0) (0 : Int) (0 : Int)) (cond (Nat.beq k4 0) false false)))) (Sq.mk 1 (fun _ => (SRoad.mk (0 : Int) (1 : Int) (120 : Int) (1 : Int) true false (SSpan.mk (1 : Int) (1 : Int)) (SSpan.mk (0 : Int) (0 : Int)))))) (Sq.mk 2 (fun k5 => (cond (Nat.beq k5 0) (5 : Int) (1099511627776 : Int))))) fun z5 =>
 .leaf (((z5.n : Nat) : Int) == (2 : Int))) (
 .leaf false)) (
 .leaf false)) (
 .leaf false)) (
 .leaf false)) (
 .leaf false)) (
 .leaf false)
noncomputable def law03_awake_m : FnM := flM (Unit) (Bool) (fun _ => ([], [])) (fun _ => law03_awake_t) (fun r => .bool r) (fun _ => rfl)
noncomputable def law03_awake_env : Env := envM [(7, walk_Way_m.c), (24, walk_Time_m.c), (25, walk_Slow_m.c), (9, ref01_Ints_m.c), (26, walk_Least_m.c)] [] [] [(4, [.freeze 448, .freeze 576])] [] 0
theorem law03_awake_tells : Tells Tryd.prog 10 law03_awake_m.c := law03_awake_m.tells Tryd.func10 (show ∀ p, arun law03_awake_env Tryd.f10 (law03_awake_m.enc p).1 (law03_awake_m.enc p).2 = _ from fun p => by kernel_rfl) noLoops (.cons walk_Way_tells (.cons walk_Time_tells (.cons walk_Slow_tells (.cons ref01_Ints_tells (.cons walk_Least_tells .nil)))))
noncomputable def law03_awake : Option (Bool) := law03_awake_m.val ()
theorem law03_awake_eq : law03_awake = (law03_awake_t).get := law03_awake_m.val_eq (fun _ => ()) (fun p => by kernel_rfl) ()
theorem law03_awake_inj : ∀ a b, law03_awake_m.enc a = law03_awake_m.enc b → a = b := linj (fun _ => ()) (fun p => by kernel_rfl)
end Go.Proofs.YtfedelfcdjldlaaDoor.Ab
